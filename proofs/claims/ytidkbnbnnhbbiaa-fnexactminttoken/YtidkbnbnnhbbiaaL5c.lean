/-
  Contracts: the model's texts that are counted behind a nonce.
-/
import Derived.Test.YtidkbnbnnhbbiaaL5k
namespace Go.Proofs.Ytidkbnbnnhbbiaa
open Go.ChangeShapes Go.WideShapes Go.ChangeAt Go.RowKit
set_option linter.unusedVariables false

/-- a text that is counted behind a nonce -/
def cnF (key nonce t : ByteArray) (i : Nat) : Nat := at8 t i ^^^ cvW (rk (at8 key)) (plB (at8 nonce) 2) i
theorem cnF_lt (key nonce t : ByteArray) (i : Nat) : cnF key nonce t i < 256 := xor_lt _ _ (at8_lt t i) (fw_lt (rk (at8 key)) _ (fun n i => rk_lt (at8 key) (at8_lt key) n i) (plB_lt _ (plB_lt _ (at8_lt nonce) _) _) 10 _)
theorem pl_pl (f : Nat → Nat) (a b i : Nat) : plB (plB f a) b i = plB f (a + b) i := by
  rw [plB_def (plB f a) b i, nb4_plB]
  by_cases e : i < 12
  · rw [if_pos e, plB_def f a i, if_pos e, plB_def f (a + b) i, if_pos e]
  · rw [if_neg e, plB_def f (a + b) i, if_neg e, ← Nat.add_assoc]
    generalize nb4 f + a = x
    have h : 15 - i = 0 ∨ 15 - i = 1 ∨ 15 - i = 2 ∨ 15 - i = 3 := by omega
    unfold byV
    rcases h with h | h | h | h <;> rw [h] <;> omega
theorem nn_size (nonce : ByteArray) (hn : nonce.size = 12) (n : Nat) : (nonce ++ bq 4 (fun i => byV n (3 - i))).size = 16 := by rw [ByteArray.size_append, bq_size, hn]
theorem nn_at (nonce : ByteArray) (hn : nonce.size = 12) (n i : Nat) (hi : i < 16) : at8 (nonce ++ bq 4 (fun i => byV n (3 - i))) i = plB (at8 nonce) n i := by
  unfold plB
  rw [at8_append, hn]
  by_cases e : i < 12
  · rw [if_pos e, if_pos e]
  · have h4 : nb4 (at8 nonce) = 0 := by
      unfold nb4
      rw [at8_out nonce 12 (by omega), at8_out nonce 13 (by omega), at8_out nonce 14 (by omega), at8_out nonce 15 (by omega)]
    rw [if_neg e, if_neg e, h4, Nat.zero_add, at8_bq 4 (fun i => byV n (3 - i)) (i - 12) (by omega) (byV_lt _ _), show 3 - (i - 12) = 15 - i by omega]
set_option maxRecDepth 100000 in
set_option maxHeartbeats 1000000 in
theorem specCount (kb gk ok ck gt : Nat) (key nonce t : ByteArray) (hn : nonce.size = 12) (ht : t.size ≤ 1500) (w : World) (hM : SM w kb gk ok ck gt key) :
    Calls Try.prog 32 #[.pointer (some ⟨kb, 0, none⟩), .string nonce, .string t] w fun e w' => e = .returned (.string (bq t.size (cnF key nonce t))) ∧ Below w.heap.size w w' := by
  have hF : ∀ i, cnF key nonce t i = at8 t i ^^^ fw (rk (at8 key)) (plB (plB (at8 nonce) 2) (i / 16)) 10 (i % 16) := fun i => rfl
  have HL := hide (cnF_lt key nonce t)
  have HNA := hide (fun n i (hi : i < 16) => nn_at nonce hn n i hi)
  have HNS := hide (fun n => nn_size nonce hn n)
  generalize hFF : cnF key nonce t = F at *
  have HFF := hide hFF
  have HF := hide hF
  have HM := hide hM
  clear hF hM hFF
  go_enter Try.func32, Try.ntmps32
  go_wp2_with fail
  go_loopw [7, 8] (fun v av wr => ∃ j a : Nat, a = 16 * j ∧ j ≤ (t.size + 15) / 16 ∧ av = .int .i64 (a : Nat) ∧ Ob w.heap.size wr v (min a t.size) F ∧ Below w.heap.size w wr) (fun _ av _ => 20000 - (intOf av).toNat)
  case atStart => exact ⟨0, 0, rfl, by omega, rfl, by rw [Nat.zero_min]; exact Ob.nil _ _ _, Below.refl _ _⟩
  case round =>
    obtain ⟨j, a, ha, hj, rfl, hO, hB⟩ := hrel
    by_cases hlt : a < t.size
    · rw [Nat.min_eq_left (by omega)] at hO
      obtain ⟨n, hnj⟩ : ∃ n : Nat, n = 2 + j := ⟨_, rfl⟩
      have hn32 : n < 4294967296 := by omega
      have HC1 := unhide HNA n
      have HXS := unhide HNS n
      have HX : Hid (∀ i, i < 16 → at8 (bq 16 (fw (rk (at8 key)) (at8 (nonce ++ bq 4 fun i => byV n (3 - i))) 10)) i < 256 ∧ F (a + i) = at8 t (a + i) ^^^ at8 (bq 16 (fw (rk (at8 key)) (at8 (nonce ++ bq 4 fun i => byV n (3 - i))) 10)) i) := fun i hi => by
        refine ⟨at8_lt _ _, ?_⟩
        rw [unhide HF, at8_bq 16 _ i hi (fw_lt (rk (at8 key)) _ (fun n i => rk_lt (at8 key) (at8_lt key) n i) (at8_lt _) 10 _), fw_congr _ _ _ HC1 10 i hi, show (a + i) / 16 = j by omega, show (a + i) % 16 = i by omega, fw_congr _ _ (plB (at8 nonce) n) (fun q hq => by rw [pl_pl, ← hnj]) 10 i hi]
      have HXZ := hide (bq_size 16 (fw (rk (at8 key)) (at8 (nonce ++ bq 4 fun i => byV n (3 - i))) 10))
      have HWI := hide (fun W (h : SM W kb gk ok ck gt key) => specWith gk ok ck gt 256 (at8 key) _ (at8_lt key) HXS h.le W h.ks h.tb)
      have HF4 := hide (fun W => specFix4 n hn32 W)
      have M3 := (unhide HM).keep hB
      have MD : SM wr.drew kb gk ok ck gt key := ⟨M3.c0, M3.c1, M3.c2, M3.lt, M3.le, M3.ks.drew, M3.tb.drew⟩
      have S0 : Hid (wr.drew.cell? ⟨kb, 0, none⟩ = some (.slice (some ⟨gk, ok, none⟩) 176 ck) ∧ wr.drew.cell? ⟨kb, 1, none⟩ = some (.slice (some ⟨gt, 0, none⟩) 256 256)) := ⟨MD.c0, MD.c1⟩
      have KQ : Hid (∀ V, Below wr.drew.heap.size wr.drew V → V.cell? ⟨kb, 0, none⟩ = some (.slice (some ⟨gk, ok, none⟩) 176 ck) ∧ V.cell? ⟨kb, 1, none⟩ = some (.slice (some ⟨gt, 0, none⟩) 256 256)) := fun V hV => ⟨(MD.keep hV).c0, (MD.keep hV).c1⟩
      have HMD := hide MD
      have O3 := hide (hO.kept (Below.refl _ _).drew)
      have B3 := hide hB.drew
      have wn : IntKind.i64.wrap (2 + (j : Int)) = (n : Int) := by rw [show 2 + (j : Int) = (n : Int) by omega]; exact wraps_i64 _ (by omega) (by omega)
      have wj : IntKind.i64.wrap (j : Int) = (j : Int) := wraps_i64 _ (by omega) (by omega)
      have wn2 : IntKind.i64.wrap (n : Int) = (n : Int) := wraps_i64 _ (by omega) (by omega)
      have hjI : 2 + (j : Int) = (n : Int) := by omega
      have hqI : (a : Int) / 16 = (j : Int) := by omega
      have hqT : Int.tdiv (a : Int) 16 = (j : Int) := by rw [Int.tdiv_eq_ediv_of_nonneg (by omega)]; exact hqI
      have HA := hide (And.intro ha hj)
      have ad1 := fun W : World => run_string_add_sum (P := Try.prog) (w := W) nonce (bq 4 fun i => byV n (3 - i)) (by rw [bq_size, hn]; omega)
      have HNJ := hide hnj
      clear HC1 HXS hO hB ha hj M3 MD hnj
      generalize bq 16 (fw (rk (at8 key)) (at8 (nonce ++ bq 4 fun i => byV n (3 - i))) 10) = bs at *
      generalize (nonce ++ bq 4 fun i => byV n (3 - i)) = X at HWI ad1
      generalize (bq 4 fun i => byV n (3 - i)) = b4 at HF4 ad1
      go_wp2_with fail
      go_region_held3 (fun V => V.cell? ⟨kb, 0, none⟩ = some (.slice (some ⟨gk, ok, none⟩) 176 ck) ∧ V.cell? ⟨kb, 1, none⟩ = some (.slice (some ⟨gt, 0, none⟩) 256 256)) (first | exact unhide S0 | exact unhide KQ _ b5 | exact unhide KQ _ (b5.trans (b6.mono b5.size))) (first
        | (go_at_call 24; with_reducible refine (unhide HF4 _).mono ?_; rintro e w5 ⟨rfl, b5⟩)
        | (go_at_call 31; with_reducible refine (unhide HWI _ ((unhide HMD).keep b5)).mono ?_; rintro e w6 ⟨rfl, b6⟩))
      have O6 := hide ((unhide O3).kept (b5.trans (b6.mono b5.size)))
      have B6 := hide ((unhide B3).trans (b5.trans (b6.mono b5.size) |>.mono (unhide B3).size))
      have hbz := unhide HXZ
      clear HWI HF4 O3 B3 b5 b6 ad1 S0 KQ HMD
      go_wp2_with fail
      go_loopw [7, 10] (fun v iv wx => ∃ i : Nat, i ≤ 16 ∧ a + i ≤ t.size ∧ iv = .int .i64 (i : Nat) ∧ Ob w.heap.size wx v (a + i) F ∧ Below w.heap.size w wx) (fun _ iv _ => 20 - (intOf iv).toNat)
      case atStart => exact ⟨0, by omega, by omega, rfl, unhide O6, unhide B6⟩
      case round =>
        obtain ⟨i, hi, hat, rfl, hO, hB⟩ := hrel
        clear O6 B6
        by_cases hc : i < 16 ∧ a + i < t.size
        · obtain ⟨hi16, hit⟩ := hc
          obtain ⟨p, hp⟩ : ∃ p : Nat, p = a + i := ⟨_, rfl⟩
          obtain ⟨hx1, hx2⟩ := unhide HX i hi16
          rw [← hp] at hO hx2 hit
          have e1 := xorI (at8 t p) (at8 bs i) (at8_lt t p) hx1
          rw [← hx2, at8_in t p hit, at8_in bs i (by omega)] at e1
          have hs5 : w.heap.size ≤ wr.drew.heap.size := by rw [World.size_drew]; exact hB.size
          obtain ⟨g8, cap8, w8, hrun, hO8, hB8⟩ := (hO.kept (Below.refl _ _).drew).push _ e1 (by omega) hs5
          rw [World.size_drew] at hrun
          have RUN := hide hrun
          have O8 := hide hO8
          have B8 := hide ((hB.drew).trans hB8)
          have HP := hide hp
          have w1 : IntKind.i64.wrap ((a : Int) + (i : Int)) = (p : Int) := by rw [show (a : Int) + (i : Int) = (p : Int) by omega]; exact wraps_i64 _ (by omega) (by omega)
          have n1 : (0 : Int) ≤ (p : Int) ∧ (p : Int) < (t.size : Int) := by omega
          have n2 : (0 : Int) ≤ (i : Int) ∧ (i : Int) < (bs.size : Int) := by omega
          have n3 : (a : Int) + (i : Int) < (t.size : Int) := by omega
          clear hrun hO8 hB8 hO hB hp hx1 hx2 e1
          go_wp2_with fail
          go_region_held3 (fun _ => True) (trivial) (first | (refine step_append_run rfl (.tmp 44) (.tmp 54) 59 rfl _ _ _ w8 rfl rfl (unhide RUN) ?_))
          all_goals
            clear RUN
            go_wp2
            exact ⟨⟨i + 1, by omega, by have := unhide HP; omega, by go_num, by rw [show a + (i + 1) = p + 1 by have := unhide HP; omega]; exact unhide O8, unhide B8⟩, by simp [intOf]; omega⟩
        · have O9 : Hid (Ob w.heap.size wr u7 (min (a + 16) t.size) F) := (show min (a + 16) t.size = a + i by omega) ▸ hO
          have B9 := hide hB
          clear hO hB
          by_cases h16 : i < 16
          · have n3 : ¬ (a : Int) + (i : Int) < (t.size : Int) := by omega
            go_wp2
            exact ⟨⟨j + 1, a + 16, by have := unhide HA; omega, by have := unhide HA; omega, by go_num, unhide O9, unhide B9⟩, by simp [intOf]; omega⟩
          · obtain rfl : i = 16 := by omega
            go_wp2
            exact ⟨⟨j + 1, a + 16, by have := unhide HA; omega, by have := unhide HA; omega, by go_num, unhide O9, unhide B9⟩, by simp [intOf]; omega⟩
    · have hj2 : min a t.size = t.size := by omega
      rw [hj2] at hO
      have hst := hO.string (fun i _ => unhide HL i)
      have B9 := hide hB
      clear hO hB
      go_wp2
      go_ret
      exact ⟨rfl, unhide B9⟩
end Go.Proofs.Ytidkbnbnnhbbiaa
