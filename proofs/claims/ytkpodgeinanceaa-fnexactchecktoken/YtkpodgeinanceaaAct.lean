/-
  Contracts: texts that are counted, the program's.
-/
import Derived.Test.YtkpodgeinanceaaAcp
import Derived.Test.YtkpodgeinanceaaAba
import Derived.Test.YtkpodgeinanceaaAeq
namespace Go.Proofs.Ytkpodgeinanceaa
open Go.ChangeShapes Go.WideShapes Go.ChangeAt Go.RowKit
set_option linter.unusedVariables false
set_option maxRecDepth 100000

/-- the bytes that cover a text -/
def cvW (K : Nat → Nat → Nat) (s : Nat → Nat) (i : Nat) : Nat := fw K (plB s (i / 16)) 10 (i % 16)
/-- a text of which n bytes are covered -/
def cvT (K : Nat → Nat → Nat) (s : Nat → Nat) (t : ByteArray) (n i : Nat) : Nat := if i < n then at8 t i ^^^ cvW K s i else at8 t i
/-- a block of sixteen bytes in a new variable -/
theorem fresh16 (w : World) (f : Nat → Nat) : Ar ((w.alloc (.cells #[.int .u8 0, .int .u8 0, .int .u8 0, .int .u8 0, .int .u8 0, .int .u8 0, .int .u8 0, .int .u8 0, .int .u8 0, .int .u8 0, .int .u8 0, .int .u8 0, .int .u8 0, .int .u8 0, .int .u8 0, .int .u8 0] 84)).setCells w.heap.size 0 (us 16 f)) w.heap.size 0 16 f ∧ Below w.heap.size w ((w.alloc (.cells #[.int .u8 0, .int .u8 0, .int .u8 0, .int .u8 0, .int .u8 0, .int .u8 0, .int .u8 0, .int .u8 0, .int .u8 0, .int .u8 0, .int .u8 0, .int .u8 0, .int .u8 0, .int .u8 0, .int .u8 0, .int .u8 0] 84)).setCells w.heap.size 0 (us 16 f)) ∧ ((w.alloc (.cells #[.int .u8 0, .int .u8 0, .int .u8 0, .int .u8 0, .int .u8 0, .int .u8 0, .int .u8 0, .int .u8 0, .int .u8 0, .int .u8 0, .int .u8 0, .int .u8 0, .int .u8 0, .int .u8 0, .int .u8 0, .int .u8 0] 84)).setCells w.heap.size 0 (us 16 f)).heap.size = w.heap.size + 1 :=
  ⟨(z16_new w 84).puts, Go.Proofs.Ytkpodgeinanceaa.below_setCells (Nat.le_refl _) _ _ _ ((Below.refl w.heap.size w).alloc (Nat.le_refl _) _), by rw [size_setCells, World.size_alloc]⟩
set_option maxRecDepth 100000 in
set_option maxHeartbeats 1000000 in
theorem implCounted (cb : Nat) (key s : Nat → Nat) (t : ByteArray) (hk : ∀ i, key i < 256) (hs : ∀ i, s i < 256) (ht : t.size ≤ 2000) (w : World) (hC : Ar w cb 0 432 (ck key 10)) :
    Calls Try.prog 51 #[.pointer (some ⟨cb, 0, none⟩), .agg (us 16 s).toArray, .string t] w fun e w' => e = .returned (.string (bq t.size (fun i => at8 t i ^^^ cvW (rk key) s i))) ∧ Below w.heap.size w w' := by
  have HC := hide hC
  have hcl := hC.lt
  clear hC
  obtain ⟨N, hN⟩ : ∃ N : Nat, N = (t.size + 15) / 16 := ⟨_, rfl⟩
  have HP : Hid (∀ W, Calls Try.prog 52 #[.agg (us 16 s).toArray, .int .i64 N] W fun e w' => e = .returned (.agg (us 16 (plB s N)).toArray) ∧ Below W.heap.size W w') := fun W => implPlus s N hs (by omega) W
  have hNI : ((t.size : Int) + 16 - 1) / 16 = (N : Int) := by omega
  have HNI := hide hNI
  have HNN := hide hN
  clear hN hNI
  go_enter Try.func51, Try.ntmps51
  go_wp2_with fail
  have a0 := Ar.new w 16 s 84
  have b0 := (Below.refl w.heap.size w).alloc (Nat.le_refl _) (.cells (us 16 s).toArray 84)
  have z0 : (w.alloc (.cells (us 16 s).toArray 84)).heap.size = w.heap.size + 1 := by simp
  generalize w.alloc (.cells (us 16 s).toArray 84) = W0 at a0 b0 z0 ⊢
  obtain ⟨cap, W, hcv, hbW, hcW, hsz⟩ := conv_ar W0 t
  rw [hcv]
  rw [z0] at hcW hsz hbW
  have A0 := hide (a0.below hbW (by omega))
  have T0 := hide hcW
  have B0 := hide (b0.trans (hbW.mono (by omega)))
  rw [z0]
  clear hcv a0 b0 z0 hbW hcW
  go_upto_region 2 with fail
  refine wp_region_list ?_
  refine wpList_load_mid rfl 84 (.tmp 4) rfl w.heap.size 0 rfl (us 16 s) _ (unhide A0).range Try.underlying84 rfl (by rw [us_length]; exact info_bl) ?_
  go_wp2_with fail
  rw [unhide HNI]
  refine (unhide HP _).mono ?_
  rintro e w1 ⟨rfl, b1⟩
  have A1 := hide ((unhide A0).below b1 (by omega))
  have T1 := hide ((unhide T0).below b1 (by omega))
  have B1 := hide ((unhide B0).trans (b1.mono (by omega)))
  have hs1 : w.heap.size + 1 + 1 ≤ w1.heap.size := by have := b1.size; omega
  clear b1 A0 T0 B0 HP hsz
  have hl := us_length 16 (plB s N)
  go_wp2_with fail
  have e0 := z16_new w1 84
  have f0 := (unhide B1).alloc (unhide B1).size (.cells #[.int .u8 0, .int .u8 0, .int .u8 0, .int .u8 0, .int .u8 0, .int .u8 0, .int .u8 0, .int .u8 0, .int .u8 0, .int .u8 0, .int .u8 0, .int .u8 0, .int .u8 0, .int .u8 0, .int .u8 0, .int .u8 0] 84)
  have A1' := (unhide A1).alloc (.cells #[.int .u8 0, .int .u8 0, .int .u8 0, .int .u8 0, .int .u8 0, .int .u8 0, .int .u8 0, .int .u8 0, .int .u8 0, .int .u8 0, .int .u8 0, .int .u8 0, .int .u8 0, .int .u8 0, .int .u8 0, .int .u8 0] 84)
  have T1' := (unhide T1).alloc (.cells #[.int .u8 0, .int .u8 0, .int .u8 0, .int .u8 0, .int .u8 0, .int .u8 0, .int .u8 0, .int .u8 0, .int .u8 0, .int .u8 0, .int .u8 0, .int .u8 0, .int .u8 0, .int .u8 0, .int .u8 0, .int .u8 0] 84)
  have hz2 : (w1.alloc (.cells #[.int .u8 0, .int .u8 0, .int .u8 0, .int .u8 0, .int .u8 0, .int .u8 0, .int .u8 0, .int .u8 0, .int .u8 0, .int .u8 0, .int .u8 0, .int .u8 0, .int .u8 0, .int .u8 0, .int .u8 0, .int .u8 0] 84)).heap.size = w1.heap.size + 1 := by simp
  generalize w1.alloc (.cells #[.int .u8 0, .int .u8 0, .int .u8 0, .int .u8 0, .int .u8 0, .int .u8 0, .int .u8 0, .int .u8 0, .int .u8 0, .int .u8 0, .int .u8 0, .int .u8 0, .int .u8 0, .int .u8 0, .int .u8 0, .int .u8 0] 84) = W2 at e0 f0 A1' T1' hz2 ⊢
  rw [e0.cellsPut]
  have E2 := e0.puts (g := plB s N)
  have A2 := A1'.others (b' := w1.heap.size) (o' := 0) (vs := us 16 (plB s N)) (Or.inl (by omega))
  have T2 := T1'.others (b' := w1.heap.size) (o' := 0) (vs := us 16 (plB s N)) (Or.inl (by omega))
  have B2 := Go.Proofs.Ytkpodgeinanceaa.below_setCells (b := w1.heap.size) (by omega) (us 16 (plB s N)) 0 _ f0
  have hz3 := size_setCells w1.heap.size (us 16 (plB s N)) 0 W2
  rw [hz2] at hz3
  generalize W2.setCells w1.heap.size 0 (us 16 (plB s N)) = W3 at E2 A2 T2 B2 hz3 ⊢
  clear e0 f0 A1' T1' hz2 A1 T1 B1 hl
  have HE2 := hide E2
  have HA2 := hide A2
  have HT2 := hide T2
  have HB2 := hide B2
  clear E2 A2 T2 B2
  go_upto_region 4 with fail
  refine wp_region_list ?_
  refine wpList_load_mid rfl 84 (.tmp 4) rfl w.heap.size 0 rfl (us 16 s) _ (unhide HA2).range Try.underlying84 rfl (by rw [us_length]; exact info_bl) ?_
  have hl := us_length 16 s
  have HZ3 := hide hz3
  clear hz3
  go_wp2_with fail
  rw [(z16_new W3 84).cellsPut]
  obtain ⟨n1, n2, n3⟩ := fresh16 W3 s
  generalize (W3.alloc (.cells #[.int .u8 0, .int .u8 0, .int .u8 0, .int .u8 0, .int .u8 0, .int .u8 0, .int .u8 0, .int .u8 0, .int .u8 0, .int .u8 0, .int .u8 0, .int .u8 0, .int .u8 0, .int .u8 0, .int .u8 0, .int .u8 0] 84)).setCells W3.heap.size 0 (us 16 s) = W4 at n1 n2 n3 ⊢
  have E4 := hide ((unhide HE2).below n2 (unhide HE2).lt)
  have T4 := hide ((unhide HT2).below n2 (unhide HT2).lt)
  have B4 := hide ((unhide HB2).trans (n2.mono (unhide HB2).size))
  have N4 := hide n1
  clear n1 n2 hl HE2 HA2 HT2 HB2
  have hgg : w1.heap.size < W3.heap.size := by have := unhide HZ3; omega
  clear HZ3 n3
  generalize w1.heap.size = ge at *
  generalize W3.heap.size = ga at *
  go_wp2_with fail
  have htb : w.heap.size < w.heap.size + 1 := by omega
  generalize hcvd : w.heap.size + 1 = tb at *
  clear hcvd
  have HPB := hide (fun j => plB_lt s hs j)
  have HZR : Hid (∀ i, i < 16 → plB s 0 i = s i) := fun i hi => plB_zero s hs i hi
  have HFWD := hide (fun f (hf : ∀ i, f i < 256) W (hC : Ar W cb 0 432 (ck key 10)) => implForward cb key f hk hf W hC)
  have HPL : Hid (∀ f : Nat → Nat, (∀ i, f i < 256) → ∀ W, Calls Try.prog 52 #[.agg (us 16 f).toArray, .int .i64 1] W fun e w' => e = .returned (.agg (us 16 (plB f 1)).toArray) ∧ Below W.heap.size W w') := fun f hf W => implPlus f 1 hf (by omega) W
  have hguard := guard16
  go_loopw [9, 10] (fun fv av wx => ∃ j p : Nat, j ≤ N ∧ fv = .int .i64 ((16 * j : Nat) : Int) ∧ av = .pointer (some ⟨p, 0, none⟩) ∧ ge < p ∧ Ar wx p 0 16 (plB s j) ∧ Ar wx ge 0 16 (plB s N) ∧ Ar wx tb 0 t.size (cvT (rk key) s t (16 * j)) ∧ Below w.heap.size w wx) (fun fv _ _ => 20000 - (intOf fv).toNat)
  case atStart => exact ⟨0, ga, by omega, rfl, rfl, hgg, (unhide N4).congr (fun i hi => (unhide HZR i hi).symm), unhide E4, (unhide T4).congr (fun i hi => by unfold cvT; rw [if_neg (by omega)]), unhide B4⟩
  case round =>
    obtain ⟨j, p, hj, rfl, rfl, hp, hA, hE, hT, hB⟩ := hrel
    clear N4 E4 T4 B4
    by_cases hlt : j < N
    · obtain ⟨ix, hix, hne⟩ := plB_ne s j N hlt (by have := unhide HNN; omega)
      have heq := eq16_no 84 (plB s j) (plB s N) Try.underlying84 ix hix hne wr
      clear hne hix
      go_upto_region 5 with fail
      refine wp_region_list ?_
      refine wpList_load_mid rfl 84 (.tmp 10) rfl p 0 rfl (us 16 (plB s j)) _ hA.range Try.underlying84 rfl (by rw [us_length]; exact info_bl) ?_
      refine wpList_load_mid rfl 84 (.tmp 8) rfl ge 0 rfl (us 16 (plB s N)) _ hE.range Try.underlying84 rfl (by rw [us_length]; exact info_bl) ?_
      have A0 := hide hA
      have E0 := hide hE
      have T0 := hide hT
      have B0 := hide hB
      clear hA hE hT hB
      go_upto_region 7 with fail
      refine wp_region_list ?_
      refine wpList_plain rfl (fun K hK => ?_)
      go_simp
      refine hK _ _ ?_
      clear hK K
      refine wpList_load_mid rfl 84 (.tmp 10) rfl p 0 rfl (us 16 (plB s j)) _ (unhide A0).range Try.underlying84 rfl (by rw [us_length]; exact info_bl) ?_
      have hFo := hide (unhide HFWD (plB s j) (unhide HPB j) wr ((unhide HC).below (unhide B0) hcl))
      have hlf : (us 16 (fw (rk key) (plB s j) 10)).length = 16 := us_length _ _
      have hsw := (unhide B0).size
      go_wp2_with (go_at_call 66; with_reducible refine (unhide hFo).mono ?_; rintro e w5 ⟨rfl, b5⟩; have HB5 := hide b5; clear b5)
      have A5 := hide ((unhide A0).below (unhide HB5) (unhide A0).lt)
      have E5 := hide ((unhide E0).below (unhide HB5) (unhide E0).lt)
      have T5 := hide ((unhide T0).below (unhide HB5) (unhide T0).lt)
      have B5 := hide ((unhide B0).trans ((unhide HB5).mono hsw))
      have hs5 := (unhide B5).size
      clear HB5 A0 E0 T0 B0 hFo
      rw [(z16_new w5 84).cellsPut]
      obtain ⟨n1, n2, n3⟩ := fresh16 w5 (fw (rk key) (plB s j) 10)
      generalize (w5.alloc (.cells #[.int .u8 0, .int .u8 0, .int .u8 0, .int .u8 0, .int .u8 0, .int .u8 0, .int .u8 0, .int .u8 0, .int .u8 0, .int .u8 0, .int .u8 0, .int .u8 0, .int .u8 0, .int .u8 0, .int .u8 0, .int .u8 0] 84)).setCells w5.heap.size 0 (us 16 (fw (rk key) (plB s j) 10)) = W6 at n1 n2 n3 ⊢
      have A6 := hide ((unhide A5).below n2 (unhide A5).lt)
      have E6 := hide ((unhide E5).below n2 (unhide E5).lt)
      have T6 := hide ((unhide T5).below n2 (unhide T5).lt)
      have B6 := hide ((unhide B5).trans (n2.mono hs5))
      have C6 := hide n1
      have hgc1 : p < w5.heap.size := (unhide A5).lt
      clear n1 n2 n3 hlf A5 E5 T5 B5
      generalize w5.heap.size = gc at *
      obtain ⟨x, hx⟩ : ∃ x : Nat, x = t.size - 16 * j := ⟨_, rfl⟩
      have hxx : 16 * j + x = t.size := by have := unhide HNN; omega
      have hxI : (t.size : Int) - 16 * (j : Int) = (x : Int) := by omega
      have HFL := hide (fun j => fw_lt (rk key) (plB s j) (fun n i => rk_lt key hk n i) (unhide HPB j) 10)
      clear hx
      by_cases h16 : 16 ≤ x
      · have h16I : (16 : Int) ≤ (x : Int) := by omega
        go_wp2_with fail
        go_loopw [36] (fun iv wx => ∃ i : Nat, i ≤ 16 ∧ iv = .int .i64 i ∧ Ar wx gc 0 16 (fw (rk key) (plB s j) 10) ∧ Ar wx p 0 16 (plB s j) ∧ Ar wx ge 0 16 (plB s N) ∧ Ar wx tb 0 t.size (cvT (rk key) s t (16 * j + i)) ∧ Below w.heap.size w wx) (fun iv _ => 16 - (intOf iv).toNat)
        case atStart => exact ⟨0, by omega, rfl, unhide C6, unhide A6, unhide E6, unhide T6, unhide B6⟩
        case round =>
          obtain ⟨i, hi, rfl, hC, hA, hE, hT, hB⟩ := hrel
          clear C6 A6 E6 T6 B6
          by_cases hli : i < 16
          · obtain ⟨q, hq⟩ : ∃ q : Nat, q = 16 * j + i := ⟨_, rfl⟩
            have hqt : q < t.size := by omega
            have hi16 : i < 16 := by omega
            have hqI : 16 * (j : Int) + (i : Int) = (q : Int) := by omega
            have s1 := hT.c0 q hqt
            have e0 : cvT (rk key) s t (16 * j + i) q = at8 t q := by unfold cvT; rw [if_neg (by omega)]
            rw [e0] at s1
            have f1 := hT.f0 q hqt
            have s2 := hC.c0 i hi16
            have ecv : cvW (rk key) s q = fw (rk key) (plB s j) 10 i := by unfold cvW; rw [show q / 16 = j by omega, show q % 16 = i by omega]
            have x1 := xorI (at8 t q) (fw (rk key) (plB s j) 10 i) (at8_lt t q) (unhide HFL j i)
            have T7 := hide (hT.put0 (g := cvT (rk key) s t (16 * j + (i + 1))) (k := q) (x := at8 t q ^^^ fw (rk key) (plB s j) 10 i) hqt (by unfold cvT; rw [if_pos (by omega), ecv]) (fun k hk hne => by
              unfold cvT
              by_cases e : k < 16 * j + i
              · rw [if_pos e, if_pos (by omega)]
              · rw [if_neg e, if_neg (by omega)]))
            have C7 := hide (hC.other (a := ⟨tb, q, none⟩) (v := .int .u8 ((at8 t q ^^^ fw (rk key) (plB s j) 10 i : Nat) : Int)) (by show tb ≠ gc; omega))
            have A7 := hide (hA.other (a := ⟨tb, q, none⟩) (v := .int .u8 ((at8 t q ^^^ fw (rk key) (plB s j) 10 i : Nat) : Int)) (by show tb ≠ p; omega))
            have E7 := hide (hE.other (a := ⟨tb, q, none⟩) (v := .int .u8 ((at8 t q ^^^ fw (rk key) (plB s j) 10 i : Nat) : Int)) (by show tb ≠ ge; omega))
            have B7 := hide (hB.setCell (p := ⟨tb, q, none⟩) (show w.heap.size ≤ tb by omega) (.int .u8 ((at8 t q ^^^ fw (rk key) (plB s j) 10 i : Nat) : Int)))
            have X1 := hide x1
            have b1 := at8_lt t q
            have b2 := unhide HFL j i
            clear hC hA hE hT hB e0 ecv x1
            generalize hy : at8 t q ^^^ fw (rk key) (plB s j) 10 i = y at *
            clear hy
            generalize at8 t q = x0 at *
            generalize fw (rk key) (plB s j) 10 i = y0 at *
            have v1 : IntKind.i64.wrap (16 * (j : Int) + (i : Int)) = (q : Int) := by rw [hqI]; exact wraps_i64 _ (by omega) (by omega)
            have n1 : (0 : Int) ≤ (q : Int) ∧ (q : Int) < (t.size : Int) := by omega
            have n2 : (0 : Int) ≤ (i : Int) ∧ (i : Int) < 16 := by omega
            have HQ := hide hq
            clear hq
            go_wp2_with fail
            go_region
            go_wp2
            rw [unhide X1]
            exact ⟨⟨i + 1, by omega, by go_num, (unhide C7).drew, (unhide A7).drew, (unhide E7).drew, (unhide T7).drew, (unhide B7).drew⟩, by simp [intOf]; omega⟩
          · have hiL : i = 16 := by omega
            have T8 := hide (hT.congr (g := cvT (rk key) s t (16 * (j + 1))) (fun k hk => by
              unfold cvT
              by_cases e : k < 16 * j + i
              · rw [if_pos e, if_pos (by omega)]
              · rw [if_neg e, if_neg (by omega)]))
            have A8 := hide hA
            have E8 := hide hE
            have B8 := hide hB
            have hs8 := hB.size
            have hgp : p < wr.heap.size := hA.lt
            clear hC hA hE hT hB
            subst hiL
            go_upto_region 14 with fail
            refine wp_region_list ?_
            refine wpList_load_mid rfl 84 (.tmp 10) rfl p 0 rfl (us 16 (plB s j)) _ (unhide A8).range Try.underlying84 rfl (by rw [us_length]; exact info_bl) ?_
            have hl := us_length 16 (plB s j)
            go_wp2_with fail
            rw [(z16_new wr 84).cellsPut]
            obtain ⟨n1, n2, n3⟩ := fresh16 wr (plB s j)
            generalize (wr.alloc (.cells #[.int .u8 0, .int .u8 0, .int .u8 0, .int .u8 0, .int .u8 0, .int .u8 0, .int .u8 0, .int .u8 0, .int .u8 0, .int .u8 0, .int .u8 0, .int .u8 0, .int .u8 0, .int .u8 0, .int .u8 0, .int .u8 0] 84)).setCells wr.heap.size 0 (us 16 (plB s j)) = W8 at n1 n2 n3 ⊢
            have A9 := hide n1
            have E9 := hide ((unhide E8).below n2 (unhide E8).lt)
            have T9 := hide ((unhide T8).below n2 (unhide T8).lt)
            have B9 := hide ((unhide B8).trans (n2.mono hs8))
            clear n1 n2 n3 A8 E8 T8 B8
            generalize wr.heap.size = pn at *
            go_upto_region 6 with fail
            refine wp_region_list ?_
            refine wpList_load_mid rfl 84 (.tmp 10) rfl pn 0 rfl (us 16 (plB s j)) _ (unhide A9).range Try.underlying84 rfl (by rw [us_length]; exact info_bl) ?_
            have hPl := hide (unhide HPL (plB s j) (unhide HPB j) W8)
            have hl2 := us_length 16 (plB (plB s j) 1)
            go_wp2_with (go_at_call 52; with_reducible refine (unhide hPl).mono ?_; rintro e w9 ⟨rfl, b9⟩; have HB9 := hide b9; clear b9)
            have aa := (unhide A9).below (unhide HB9) (unhide A9).lt
            rw [aa.cellsPut]
            have A10 := hide ((aa.puts (g := plB (plB s j) 1)).congr (fun k _ => plB_next s j k))
            have E10 := hide (((unhide E9).below (unhide HB9) (unhide E9).lt).others (b' := pn) (o' := 0) (vs := us 16 (plB (plB s j) 1)) (Or.inl (by omega)))
            have T10 := hide (((unhide T9).below (unhide HB9) (unhide T9).lt).others (b' := pn) (o' := 0) (vs := us 16 (plB (plB s j) 1)) (Or.inl (by omega)))
            have B10 := hide (Go.Proofs.Ytkpodgeinanceaa.below_setCells (b := pn) (by omega) (us 16 (plB (plB s j) 1)) 0 _ ((unhide B9).trans ((unhide HB9).mono (unhide B9).size)))
            clear aa A9 E9 T9 B9 HB9 hPl hl hl2
            generalize w9.setCells pn 0 (us 16 (plB (plB s j) 1)) = W10 at A10 E10 T10 B10 ⊢
            go_wp2
            exact ⟨⟨j + 1, pn, by omega, by go_num, rfl, by omega, unhide A10, unhide E10, unhide T10, unhide B10⟩, by simp [intOf]; omega⟩
      · have h16I : (x : Int) < 16 := by omega
        have h16J : ¬ (16 : Int) ≤ (x : Int) := by omega
        go_wp2_with fail
        go_loopw [36] (fun iv wx => ∃ i : Nat, i ≤ x ∧ iv = .int .i64 i ∧ Ar wx gc 0 16 (fw (rk key) (plB s j) 10) ∧ Ar wx p 0 16 (plB s j) ∧ Ar wx ge 0 16 (plB s N) ∧ Ar wx tb 0 t.size (cvT (rk key) s t (16 * j + i)) ∧ Below w.heap.size w wx) (fun iv _ => x - (intOf iv).toNat)
        case atStart => exact ⟨0, by omega, rfl, unhide C6, unhide A6, unhide E6, unhide T6, unhide B6⟩
        case round =>
          obtain ⟨i, hi, rfl, hC, hA, hE, hT, hB⟩ := hrel
          clear C6 A6 E6 T6 B6
          by_cases hli : i < x
          · obtain ⟨q, hq⟩ : ∃ q : Nat, q = 16 * j + i := ⟨_, rfl⟩
            have hqt : q < t.size := by omega
            have hi16 : i < 16 := by omega
            have hqI : 16 * (j : Int) + (i : Int) = (q : Int) := by omega
            have s1 := hT.c0 q hqt
            have e0 : cvT (rk key) s t (16 * j + i) q = at8 t q := by unfold cvT; rw [if_neg (by omega)]
            rw [e0] at s1
            have f1 := hT.f0 q hqt
            have s2 := hC.c0 i hi16
            have ecv : cvW (rk key) s q = fw (rk key) (plB s j) 10 i := by unfold cvW; rw [show q / 16 = j by omega, show q % 16 = i by omega]
            have x1 := xorI (at8 t q) (fw (rk key) (plB s j) 10 i) (at8_lt t q) (unhide HFL j i)
            have T7 := hide (hT.put0 (g := cvT (rk key) s t (16 * j + (i + 1))) (k := q) (x := at8 t q ^^^ fw (rk key) (plB s j) 10 i) hqt (by unfold cvT; rw [if_pos (by omega), ecv]) (fun k hk hne => by
              unfold cvT
              by_cases e : k < 16 * j + i
              · rw [if_pos e, if_pos (by omega)]
              · rw [if_neg e, if_neg (by omega)]))
            have C7 := hide (hC.other (a := ⟨tb, q, none⟩) (v := .int .u8 ((at8 t q ^^^ fw (rk key) (plB s j) 10 i : Nat) : Int)) (by show tb ≠ gc; omega))
            have A7 := hide (hA.other (a := ⟨tb, q, none⟩) (v := .int .u8 ((at8 t q ^^^ fw (rk key) (plB s j) 10 i : Nat) : Int)) (by show tb ≠ p; omega))
            have E7 := hide (hE.other (a := ⟨tb, q, none⟩) (v := .int .u8 ((at8 t q ^^^ fw (rk key) (plB s j) 10 i : Nat) : Int)) (by show tb ≠ ge; omega))
            have B7 := hide (hB.setCell (p := ⟨tb, q, none⟩) (show w.heap.size ≤ tb by omega) (.int .u8 ((at8 t q ^^^ fw (rk key) (plB s j) 10 i : Nat) : Int)))
            have X1 := hide x1
            have b1 := at8_lt t q
            have b2 := unhide HFL j i
            clear hC hA hE hT hB e0 ecv x1
            generalize hy : at8 t q ^^^ fw (rk key) (plB s j) 10 i = y at *
            clear hy
            generalize at8 t q = x0 at *
            generalize fw (rk key) (plB s j) 10 i = y0 at *
            have v1 : IntKind.i64.wrap (16 * (j : Int) + (i : Int)) = (q : Int) := by rw [hqI]; exact wraps_i64 _ (by omega) (by omega)
            have n1 : (0 : Int) ≤ (q : Int) ∧ (q : Int) < (t.size : Int) := by omega
            have n2 : (0 : Int) ≤ (i : Int) ∧ (i : Int) < 16 := by omega
            have HQ := hide hq
            clear hq
            go_wp2_with fail
            go_region
            go_wp2
            rw [unhide X1]
            exact ⟨⟨i + 1, by omega, by go_num, (unhide C7).drew, (unhide A7).drew, (unhide E7).drew, (unhide T7).drew, (unhide B7).drew⟩, by simp [intOf]; omega⟩
          · have hiL : i = x := by omega
            have T8 := hide (hT.congr (g := cvT (rk key) s t (16 * (j + 1))) (fun k hk => by
              unfold cvT
              by_cases e : k < 16 * j + i
              · rw [if_pos e, if_pos (by omega)]
              · rw [if_neg e, if_neg (by omega)]))
            have A8 := hide hA
            have E8 := hide hE
            have B8 := hide hB
            have hs8 := hB.size
            have hgp : p < wr.heap.size := hA.lt
            clear hC hA hE hT hB
            subst hiL
            go_upto_region 14 with fail
            refine wp_region_list ?_
            refine wpList_load_mid rfl 84 (.tmp 10) rfl p 0 rfl (us 16 (plB s j)) _ (unhide A8).range Try.underlying84 rfl (by rw [us_length]; exact info_bl) ?_
            have hl := us_length 16 (plB s j)
            go_wp2_with fail
            rw [(z16_new wr 84).cellsPut]
            obtain ⟨n1, n2, n3⟩ := fresh16 wr (plB s j)
            generalize (wr.alloc (.cells #[.int .u8 0, .int .u8 0, .int .u8 0, .int .u8 0, .int .u8 0, .int .u8 0, .int .u8 0, .int .u8 0, .int .u8 0, .int .u8 0, .int .u8 0, .int .u8 0, .int .u8 0, .int .u8 0, .int .u8 0, .int .u8 0] 84)).setCells wr.heap.size 0 (us 16 (plB s j)) = W8 at n1 n2 n3 ⊢
            have A9 := hide n1
            have E9 := hide ((unhide E8).below n2 (unhide E8).lt)
            have T9 := hide ((unhide T8).below n2 (unhide T8).lt)
            have B9 := hide ((unhide B8).trans (n2.mono hs8))
            clear n1 n2 n3 A8 E8 T8 B8
            generalize wr.heap.size = pn at *
            go_upto_region 6 with fail
            refine wp_region_list ?_
            refine wpList_load_mid rfl 84 (.tmp 10) rfl pn 0 rfl (us 16 (plB s j)) _ (unhide A9).range Try.underlying84 rfl (by rw [us_length]; exact info_bl) ?_
            have hPl := hide (unhide HPL (plB s j) (unhide HPB j) W8)
            have hl2 := us_length 16 (plB (plB s j) 1)
            go_wp2_with (go_at_call 52; with_reducible refine (unhide hPl).mono ?_; rintro e w9 ⟨rfl, b9⟩; have HB9 := hide b9; clear b9)
            have aa := (unhide A9).below (unhide HB9) (unhide A9).lt
            rw [aa.cellsPut]
            have A10 := hide ((aa.puts (g := plB (plB s j) 1)).congr (fun k _ => plB_next s j k))
            have E10 := hide (((unhide E9).below (unhide HB9) (unhide E9).lt).others (b' := pn) (o' := 0) (vs := us 16 (plB (plB s j) 1)) (Or.inl (by omega)))
            have T10 := hide (((unhide T9).below (unhide HB9) (unhide T9).lt).others (b' := pn) (o' := 0) (vs := us 16 (plB (plB s j) 1)) (Or.inl (by omega)))
            have B10 := hide (Go.Proofs.Ytkpodgeinanceaa.below_setCells (b := pn) (by omega) (us 16 (plB (plB s j) 1)) 0 _ ((unhide B9).trans ((unhide HB9).mono (unhide B9).size)))
            clear aa A9 E9 T9 B9 HB9 hPl hl hl2
            generalize w9.setCells pn 0 (us 16 (plB (plB s j) 1)) = W10 at A10 E10 T10 B10 ⊢
            go_wp2
            exact ⟨⟨j + 1, pn, by omega, by go_num, rfl, by omega, unhide A10, unhide E10, unhide T10, unhide B10⟩, by simp [intOf]; omega⟩
    · obtain rfl : j = N := by omega
      have heq := eq16_yes 84 (plB s j) (plB s j) Try.underlying84 (fun _ _ => rfl) wr
      go_upto_region 5 with fail
      refine wp_region_list ?_
      refine wpList_load_mid rfl 84 (.tmp 10) rfl p 0 rfl (us 16 (plB s j)) _ hA.range Try.underlying84 rfl (by rw [us_length]; exact info_bl) ?_
      refine wpList_load_mid rfl 84 (.tmp 8) rfl ge 0 rfl (us 16 (plB s j)) _ hE.range Try.underlying84 rfl (by rw [us_length]; exact info_bl) ?_
      have hT2 := hT.congr (g := fun i => at8 t i ^^^ cvW (rk key) s i) (fun k hk => by unfold cvT; rw [if_pos (by have := unhide HNN; omega)])
      have hst := ar_string hT2 (fun i _ => xor_lt _ _ (at8_lt t i) (fw_lt (rk key) _ (fun n i => rk_lt key hk n i) (unhide HPB _) 10 _)) cap
      have B9 := hide hB
      clear hA hE hT hB hT2
      go_wp2
      go_ret
      exact ⟨rfl, unhide B9⟩
end Go.Proofs.Ytkpodgeinanceaa
