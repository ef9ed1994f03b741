/-
  Contracts: the program's MulBlock.
-/
import Derived.Test.YtgoafbhhihfkfaaE5t
namespace Go.Proofs.Ytgoafbhhihfkfaa
open Go.ChangeShapes Go.WideShapes Go.ChangeAt Go.RowKit
set_option linter.unusedVariables false

/-- a block of sixteen bytes in a new variable -/
theorem fr16 (w : World) (f : Nat → Nat) : Ar ((w.alloc (.cells #[.int .u8 0, .int .u8 0, .int .u8 0, .int .u8 0, .int .u8 0, .int .u8 0, .int .u8 0, .int .u8 0, .int .u8 0, .int .u8 0, .int .u8 0, .int .u8 0, .int .u8 0, .int .u8 0, .int .u8 0, .int .u8 0] 37)).setCells w.heap.size 0 (us 16 f)) w.heap.size 0 16 f ∧ Below w.heap.size w ((w.alloc (.cells #[.int .u8 0, .int .u8 0, .int .u8 0, .int .u8 0, .int .u8 0, .int .u8 0, .int .u8 0, .int .u8 0, .int .u8 0, .int .u8 0, .int .u8 0, .int .u8 0, .int .u8 0, .int .u8 0, .int .u8 0, .int .u8 0] 37)).setCells w.heap.size 0 (us 16 f)) ∧ ((w.alloc (.cells #[.int .u8 0, .int .u8 0, .int .u8 0, .int .u8 0, .int .u8 0, .int .u8 0, .int .u8 0, .int .u8 0, .int .u8 0, .int .u8 0, .int .u8 0, .int .u8 0, .int .u8 0, .int .u8 0, .int .u8 0, .int .u8 0] 37)).setCells w.heap.size 0 (us 16 f)).heap.size = w.heap.size + 1 :=
  ⟨(z16_new w 37).puts, Go.Proofs.Ytgoafbhhihfkfaa.below_setCells (Nat.le_refl _) _ _ _ ((Below.refl w.heap.size w).alloc (Nat.le_refl _) _), by rw [size_setCells, World.size_alloc]⟩
theorem bq_add (n m : Nat) (f : Nat → Nat) : bq (n + m) f = bq n f ++ bq m (fun i => f (n + i)) := by
  apply ByteArray.ext
  rw [ByteArray.data_append]
  unfold bq
  rw [List.range_add, List.map_append, List.map_map]
  simp
theorem tlW_bq (h l : Nat) : tlW h l = bq 16 (blF h l) := by
  rw [bq_add 8 8 (blF h l)]
  unfold tlW
  rw [bq_congr (n := 8) (f := fun i => byN h (7 - i)) (g := blF h l) (fun i hi => by unfold blF; rw [if_pos hi]), bq_congr (n := 8) (f := fun i => byN l (7 - i)) (g := fun i => blF h l (8 + i)) (fun i hi => by unfold blF; rw [if_neg (by omega), show 15 - (8 + i) = 7 - i by omega])]
theorem nbF_nbW (s : ByteArray) (f : Nat → Nat) : ∀ k, (∀ i, i < k → f i = at8 s i) → nbF f k = nbW s k
  | 0, _ => rfl
  | k + 1, h => by rw [nbF, nbW, nbF_nbW s f k (fun i hi => h i (by omega)), h k (by omega)]
theorem nbF_hi (s : ByteArray) (hs : s.size = 16) : nbF (at8 s) 8 = hiW s := nbF_nbW _ _ 8 (fun i hi => by rw [at8_extract s 0 8 i (by omega) (by omega), Nat.zero_add])
theorem nbF_lo (s : ByteArray) (hs : s.size = 16) : nbF (fun i => at8 s (8 + i)) 8 = loW s := nbF_nbW _ _ 8 (fun i hi => by rw [at8_extract s 8 16 i (by omega) (by omega)])
theorem implElement (s : ByteArray) (hs : s.size = 16) (b cap : Nat) (W : World) (h : Ar W b 0 16 (at8 s)) :
    Calls Try.prog 26 #[.slice (some ⟨b, 0, none⟩) 16 cap] W fun e w' => e = .returned (.agg #[.int .u64 (hiW s : Nat), .int .u64 (loW s : Nat)]) ∧ Below W.heap.size W w' := by
  have := implElementOf b 0 16 cap (at8 s) (at8_lt s) (by omega) (by omega) W h
  rw [nbF_hi s hs, nbF_lo s hs] at this
  exact this
set_option maxRecDepth 100000 in
set_option maxHeartbeats 1000000 in
theorem implMB_ok (a b : ByteArray) (h : a.size = 16 ∧ b.size = 16) (w : World) :
    Calls Try.prog 10 #[.string a, .string b] w fun e w' => e = .returned (.tuple #[.string (mbW a b), .bool true]) ∧ Below w.heap.size w w' := by
  obtain ⟨ha, hb⟩ := h
  have hl := ouP_lt (hiW a) (loW a) (hiW b) (loW b) (hiW_lt b) (loW_lt b) 128
  have HE1 := hide (fun cb cap W (h : Ar W cb 0 16 (at8 a)) => implElement a ha cb cap W h)
  have HE2 := hide (fun cb cap W (h : Ar W cb 0 16 (at8 b)) => implElement b hb cb cap W h)
  have H3 := hide (fun W => implTimes (hiW a) (loW a) (hiW b) (loW b) (hiW_lt a) (loW_lt a) (hiW_lt b) (loW_lt b) W)
  have H4 := hide (fun W => implBlock _ _ hl.1 hl.2 W)
  have HR : Hid (mbW a b = bq 16 (blF (ouP (hiW a) (loW a) (hiW b) (loW b) 128).1 (ouP (hiW a) (loW a) (hiW b) (loW b) 128).2)) := tlW_bq _ _
  have HL := hide (blF_lt (ouP (hiW a) (loW a) (hiW b) (loW b) 128).1 (ouP (hiW a) (loW a) (hiW b) (loW b) 128).2)
  generalize blF (ouP (hiW a) (loW a) (hiW b) (loW b) 128).1 (ouP (hiW a) (loW a) (hiW b) (loW b) 128).2 = r at *
  generalize (ouP (hiW a) (loW a) (hiW b) (loW b) 128).1 = x at *
  generalize (ouP (hiW a) (loW a) (hiW b) (loW b) 128).2 = y at *
  generalize hiW a = a1 at *
  generalize loW a = a2 at *
  generalize hiW b = b1 at *
  generalize loW b = b2 at *
  clear hl
  go_enter Try.func10, Try.ntmps10
  go_wp2_with fail
  obtain ⟨cap, W, hcv, hbW, hcW, hsz⟩ := conv_ar w a
  rw [hcv, ha]
  rw [ha] at hcW
  have B1 := hide hbW
  have A1 := hide hcW
  clear hcv hcW hbW hsz
  go_wp2_with fail
  refine (unhide HE1 _ _ _ (unhide A1)).mono ?_
  rintro e w2 ⟨rfl, c2⟩
  have B2 := hide ((unhide B1).trans (c2.mono (unhide B1).size))
  clear c2 A1 B1
  go_wp2_with fail
  obtain ⟨cap2, W2, hcv, hbW, hcW, hsz⟩ := conv_ar w2 b
  rw [hcv, hb]
  rw [hb] at hcW
  have B3 := hide ((unhide B2).trans (hbW.mono (unhide B2).size))
  have A3 := hide hcW
  clear hcv hcW hbW hsz B2
  go_wp2_with fail
  refine (unhide HE2 _ _ _ (unhide A3)).mono ?_
  rintro e w4 ⟨rfl, c4⟩
  have B4 := hide ((unhide B3).trans (c4.mono (unhide B3).size))
  clear c4 A3 B3
  go_wp2_with fail
  refine (unhide H3 _).mono ?_
  rintro e w5 ⟨rfl, c5⟩
  have B5 := hide ((unhide B4).trans (c5.mono (unhide B4).size))
  clear c5 B4
  go_wp2_with fail
  refine (unhide H4 _).mono ?_
  rintro e w6 ⟨rfl, c6⟩
  have B6 := hide ((unhide B5).trans (c6.mono (unhide B5).size))
  clear c6 B5
  have hlr : (us 16 r).length = 16 := us_length _ _
  go_wp2_with fail
  rw [(z16_new w6 37).cellsPut]
  obtain ⟨n1, n2, n3⟩ := fr16 w6 r
  generalize (w6.alloc (.cells #[.int .u8 0, .int .u8 0, .int .u8 0, .int .u8 0, .int .u8 0, .int .u8 0, .int .u8 0, .int .u8 0, .int .u8 0, .int .u8 0, .int .u8 0, .int .u8 0, .int .u8 0, .int .u8 0, .int .u8 0, .int .u8 0] 37)).setCells w6.heap.size 0 (us 16 r) = W7 at n1 n2 n3 ⊢
  have B7 := hide ((unhide B6).trans (n2.mono (unhide B6).size))
  have hst := ar_string n1 (fun i _ => unhide HL i) 16
  clear n1 n2 n3 hlr B6
  go_wp2
  go_ret2
  exact ⟨by rw [unhide HR]; rfl, unhide B7⟩
theorem implMB_no (a b : ByteArray) (h : ¬ (a.size = 16 ∧ b.size = 16)) (hl : a.size ≤ 1048576) (hl2 : b.size ≤ 1048576) (w : World) :
    Calls Try.prog 10 #[.string a, .string b] w fun e w' => e = .returned (.tuple #[.string ⟨#[]⟩, .bool false]) ∧ Below w.heap.size w w' := by
  by_cases hk : a.size = 16
  · have h1 : ((b.size : Int) != 16) = true := by simp; omega
    go_enter Try.func10, Try.ntmps10
    go_wp2
    go_ret2
    exact ⟨rfl, Below.refl _ _⟩
  · have h1 : ((a.size : Int) != 16) = true := by simp; omega
    go_enter Try.func10, Try.ntmps10
    go_wp2
    go_ret2
    exact ⟨rfl, Below.refl _ _⟩
end Go.Proofs.Ytgoafbhhihfkfaa
