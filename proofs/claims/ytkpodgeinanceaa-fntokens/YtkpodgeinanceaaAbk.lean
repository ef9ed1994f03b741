/-
  Contracts: keyBehind.
-/
import Derived.Test.YtkpodgeinanceaaAbb
namespace Go.Proofs.Ytkpodgeinanceaa
open Go.ChangeShapes Go.WideShapes Go.ChangeAt Go.RowKit
set_option linter.unusedVariables false

/-- the first word of the next round key, without the power; the old key behind it -/
def k0 (f : Nat → Nat) (i : Nat) : Nat := if i < 4 then f i ^^^ sub (f (12 + (i + 1) % 4)) else f i
def k1 (f : Nat → Nat) (p i : Nat) : Nat := if i = 0 then k0 f 0 ^^^ p else k0 f i
/-- the next round key: the row r of the column c -/
def nkc (f : Nat → Nat) (p r : Nat) : Nat → Nat
  | 0 => k1 f p r
  | c + 1 => f (4 * (c + 1) + r) ^^^ nkc f p r c
/-- the next round key -/
def nk (f : Nat → Nat) (p : Nat) (i : Nat) : Nat := nkc f p (i % 4) (i / 4)
theorem nk_near (f : Nat → Nat) (p i : Nat) (h : i < 4) : nk f p i = k1 f p i := by
  unfold nk
  rw [Nat.mod_eq_of_lt h, Nat.div_eq_of_lt h]
  rfl

theorem k1_lt (f : Nat → Nat) (p : Nat) (hf : ∀ i, f i < 256) (hp : p < 256) (i : Nat) : k1 f p i < 256 := by
  have h0 : ∀ i, k0 f i < 256 := fun i => by
    unfold k0; split
    · exact xor_lt _ _ (hf _) (sub_lt _ (hf _))
    · exact hf _
  unfold k1; split
  · exact xor_lt _ _ (h0 _) hp
  · exact h0 _
theorem nkc_lt (f : Nat → Nat) (p : Nat) (hf : ∀ i, f i < 256) (hp : p < 256) (r : Nat) : ∀ c, nkc f p r c < 256
  | 0 => k1_lt f p hf hp r
  | c + 1 => xor_lt _ _ (hf _) (nkc_lt f p hf hp r c)
theorem nk_lt (f : Nat → Nat) (p : Nat) (hf : ∀ i, f i < 256) (hp : p < 256) (i : Nat) : nk f p i < 256 := nkc_lt f p hf hp _ _
theorem nk_far (f : Nat → Nat) (p j : Nat) : nk f p (j + 4) = f (j + 4) ^^^ nk f p j := by
  unfold nk
  rw [show (j + 4) % 4 = j % 4 by omega, show (j + 4) / 4 = j / 4 + 1 by omega, nkc, show 4 * (j / 4 + 1) + j % 4 = j + 4 by omega]

set_option maxHeartbeats 1000000 in
theorem keyBehind_any (cb : Nat) (f : Nat → Nat) (p : Nat) (hf : ∀ i, f i < 256) (hp : p < 256) (w : World) (hT : Ar w cb 176 256 sub) :
    Calls Try.prog 87 #[.pointer (some ⟨cb, 0, none⟩), .agg (us 16 f).toArray, .int .u8 p] w fun e w' => e = .returned (.agg (us 16 (nk f p)).toArray) ∧ Below w.heap.size w w' := by
  have HF := hide hf
  have HT := hide hT
  clear hf hT
  go_enter Try.func87, Try.ntmps87
  go_upto_region 1 with fail
  have a1 := (Ar.new w 16 f 84).alloc (.cells #[.int .u8 0, .int .u8 0, .int .u8 0, .int .u8 0, .int .u8 0, .int .u8 0, .int .u8 0, .int .u8 0, .int .u8 0, .int .u8 0, .int .u8 0, .int .u8 0, .int .u8 0, .int .u8 0, .int .u8 0, .int .u8 0] 84)
  have a2 := z16_new (w.alloc (.cells (us 16 f).toArray 84)) 84
  rw [World.size_alloc] at a2
  have a3 := ((Below.refl w.heap.size w).alloc (Nat.le_refl _) (.cells (us 16 f).toArray 84)).alloc (by simp) (.cells #[.int .u8 0, .int .u8 0, .int .u8 0, .int .u8 0, .int .u8 0, .int .u8 0, .int .u8 0, .int .u8 0, .int .u8 0, .int .u8 0, .int .u8 0, .int .u8 0, .int .u8 0, .int .u8 0, .int .u8 0, .int .u8 0] 84)
  have a4 : ((w.alloc (.cells (us 16 f).toArray 84)).alloc (.cells #[.int .u8 0, .int .u8 0, .int .u8 0, .int .u8 0, .int .u8 0, .int .u8 0, .int .u8 0, .int .u8 0, .int .u8 0, .int .u8 0, .int .u8 0, .int .u8 0, .int .u8 0, .int .u8 0, .int .u8 0, .int .u8 0] 84)).heap.size = w.heap.size + 1 + 1 := by simp
  generalize ((w.alloc (.cells (us 16 f).toArray 84)).alloc (.cells #[.int .u8 0, .int .u8 0, .int .u8 0, .int .u8 0, .int .u8 0, .int .u8 0, .int .u8 0, .int .u8 0, .int .u8 0, .int .u8 0, .int .u8 0, .int .u8 0, .int .u8 0, .int .u8 0, .int .u8 0, .int .u8 0] 84)) = W at a1 a2 a3 a4 ⊢
  refine wp_region_list ?_
  refine wpList_load_mid rfl 84 (.tmp 4) rfl w.heap.size 0 rfl (us 16 f) _ a1.range Try.underlying84 rfl (by rw [us_length]; exact info_bl) ?_
  have b0 := z16_new W 84
  have b1 := a1.alloc (.cells #[.int .u8 0, .int .u8 0, .int .u8 0, .int .u8 0, .int .u8 0, .int .u8 0, .int .u8 0, .int .u8 0, .int .u8 0, .int .u8 0, .int .u8 0, .int .u8 0, .int .u8 0, .int .u8 0, .int .u8 0, .int .u8 0] 84)
  have b2 := a2.alloc (.cells #[.int .u8 0, .int .u8 0, .int .u8 0, .int .u8 0, .int .u8 0, .int .u8 0, .int .u8 0, .int .u8 0, .int .u8 0, .int .u8 0, .int .u8 0, .int .u8 0, .int .u8 0, .int .u8 0, .int .u8 0, .int .u8 0] 84)
  have b3 := a3.alloc a3.size (.cells #[.int .u8 0, .int .u8 0, .int .u8 0, .int .u8 0, .int .u8 0, .int .u8 0, .int .u8 0, .int .u8 0, .int .u8 0, .int .u8 0, .int .u8 0, .int .u8 0, .int .u8 0, .int .u8 0, .int .u8 0, .int .u8 0] 84)
  have hlf : (us 16 f).length = 16 := us_length _ _
  have HL := hide a1.range
  clear a1 a2 a3
  rw [a4] at b0
  go_wp2_with fail
  generalize W.alloc (.cells #[.int .u8 0, .int .u8 0, .int .u8 0, .int .u8 0, .int .u8 0, .int .u8 0, .int .u8 0, .int .u8 0, .int .u8 0, .int .u8 0, .int .u8 0, .int .u8 0, .int .u8 0, .int .u8 0, .int .u8 0, .int .u8 0] 84) = W2 at b0 b1 b2 b3 ⊢
  rw [b0.cellsPut]
  have c0 := b0.puts (g := f)
  have c1 := b1.others (b' := w.heap.size + 1 + 1) (o' := 0) (vs := us 16 f) (Or.inl (by omega))
  have c2 := b2.others (b' := w.heap.size + 1 + 1) (o' := 0) (vs := us 16 f) (Or.inl (by omega))
  have c3 := Go.Proofs.Ytkpodgeinanceaa.below_setCells (b := w.heap.size + 1 + 1) (by omega) (us 16 f) 0 _ b3
  generalize W2.setCells (w.heap.size + 1 + 1) 0 (us 16 f) = W3 at c0 c1 c2 c3 ⊢
  clear b0 b1 b2 b3 a4 HL
  have HC0 := hide c0
  have HC1 := hide c1
  have HC2 := hide c2
  have HC3 := hide c3
  clear c0 c1 c2 c3
  go_wp2_with fail
  go_loopw [11] (fun iv wr => ∃ k : Nat, k ≤ 4 ∧ iv = .int .i64 k ∧ Ar wr w.heap.size 0 16 f ∧ Ar wr (w.heap.size + 1) 0 16 (fun _ => 0) ∧ Ar wr (w.heap.size + 1 + 1) 0 16 (stp (k0 f) f k) ∧ Below w.heap.size w wr) (fun iv _ => 4 - (intOf iv).toNat)
  case atStart => exact ⟨0, by omega, rfl, unhide HC1, unhide HC2, (unhide HC0).stepNone, unhide HC3⟩
  case round =>
    obtain ⟨k, hk, rfl, h1, h2, h3, hbw⟩ := hrel
    have H1 := hide h1
    have H2 := hide h2
    have H3 := hide h3
    have HB := hide hbw
    by_cases hlt : k < 4
    · have s0 := h1.c0 (12 + (k + 1) % 4) (by omega)
      have s1 := h3.c0 k (by omega)
      have f1 := h3.f0 k (by omega)
      have hx := unhide HF (12 + (k + 1) % 4)
      have s2 := ((unhide HT).below hbw (unhide HT).lt).c (f (12 + (k + 1) % 4)) hx
      have e0 : stp (k0 f) f k k = f k := by simp [stp]
      rw [e0] at s1
      have e1 := hide (xorI (f k) (sub (f (12 + (k + 1) % 4))) (unhide HF _) (sub_lt _ hx))
      have e2 : Hid (k0 f k = f k ^^^ sub (f (12 + (k + 1) % 4))) := by unfold k0; exact if_pos hlt
      clear h1 h2 h3 hbw e0
      have i2 : IntKind.i64.wrap ((k : Int) + 1) = (k : Int) + 1 := wraps_i64 _ (by omega) (by omega)
      have j2 : Int.tmod ((k : Int) + 1) 4 = (((k + 1) % 4 : Nat) : Int) := by rw [Int.tmod_eq_emod_of_nonneg (by omega)]; omega
      have l2 : (k + 1) % 4 < 4 := by omega
      generalize (k + 1) % 4 = q at *
      generalize f k = x at *
      generalize f (12 + q) = y at *
      generalize sub y = z at *
      have m2 : IntKind.i64.wrap (q : Int) = (q : Int) := wraps_i64 _ (by omega) (by omega)
      have m3 : IntKind.i64.wrap (12 + (q : Int)) = 12 + (q : Int) := wraps_i64 _ (by omega) (by omega)
      have n2 : (0 : Int) ≤ 12 + (q : Int) ∧ 12 + (q : Int) < 16 := by omega
      have n3 : (0 : Int) ≤ (y : Int) ∧ (y : Int) < 256 := by omega
      have n4 : (12 + (q : Int)).toNat = 12 + q := by omega
      go_wp2_with fail
      go_region
      go_wp2
      rw [unhide e1]
      refine ⟨⟨k + 1, by omega, by go_num, ?_, ?_, ?_, ?_⟩, by simp [intOf]; omega⟩
      · exact ((unhide H1).other (by simp <;> omega)).drew
      · exact ((unhide H2).other (by simp)).drew
      · exact ((unhide H3).step (by omega) (unhide e2)).drew
      · exact ((unhide HB).setCell (by simp <;> omega) _).drew
    · have e : k = 4 := by omega
      subst e
      have s0 := h3.c0 0 (by omega)
      have f0 := h3.f0 0 (by omega)
      have e0 : stp (k0 f) f 4 0 = k0 f 0 := by simp [stp]
      rw [e0] at s0
      have hk0 : k0 f 0 < 256 := by unfold k0; rw [if_pos (by omega)]; exact xor_lt _ _ (unhide HF _) (sub_lt _ (unhide HF _))
      have e1 := hide (xorI (k0 f 0) p hk0 hp)
      have H3b : Hid (Ar (wr.setCell ⟨w.heap.size + 1 + 1, 0, none⟩ (.int .u8 ((k0 f 0 ^^^ p : Nat) : Int))) (w.heap.size + 1 + 1) 0 16 (stp (nk f p) f (0 + 4))) := h3.put0 (by omega) (by simp [stp, nk_near, k1]) (fun i hi hne => by
        unfold stp
        by_cases h4 : i < 4
        · rw [if_pos (by omega), if_pos h4, nk_near f p i h4, k1, if_neg hne]
        · rw [if_neg (by omega), if_neg h4])
      clear h1 h2 h3 hbw e0 H3
      generalize k0 f 0 = x at *
      go_wp2_with fail
      rw [unhide e1]
      have q1 := (unhide H1).other (a := ⟨w.heap.size + 1 + 1, 0, none⟩) (v := .int .u8 ((x ^^^ p : Nat) : Int)) (by simp <;> omega)
      have q2 := (unhide H2).other (a := ⟨w.heap.size + 1 + 1, 0, none⟩) (v := .int .u8 ((x ^^^ p : Nat) : Int)) (by simp)
      have q3 := unhide H3b
      have q4 := (unhide HB).setCell (p := ⟨w.heap.size + 1 + 1, 0, none⟩) (by simp <;> omega) (.int .u8 ((x ^^^ p : Nat) : Int))
      generalize wr.setCell ⟨w.heap.size + 1 + 1, 0, none⟩ (.int .u8 ((x ^^^ p : Nat) : Int)) = w4 at q1 q2 q3 q4 ⊢
      have Q1 := hide q1
      have Q2 := hide q2
      have Q3 := hide q3
      have Q4 := hide q4
      clear q1 q2 q3 q4 H1 H2 HB H3b
      go_loopw [9] (fun iv wx => ∃ j : Nat, j ≤ 12 ∧ iv = .int .i64 ((j : Int) + 4) ∧ Ar wx w.heap.size 0 16 f ∧ Ar wx (w.heap.size + 1) 0 16 (fun _ => 0) ∧ Ar wx (w.heap.size + 1 + 1) 0 16 (stp (nk f p) f (j + 4)) ∧ Below w.heap.size w wx) (fun iv _ => 16 - (intOf iv).toNat)
      case atStart => exact ⟨0, by omega, rfl, unhide Q1, unhide Q2, unhide Q3, unhide Q4⟩
      case round =>
        obtain ⟨j, hj, rfl, h1, h2, h3, hbw⟩ := hrel
        have H1 := hide h1
        have H2 := hide h2
        have H3 := hide h3
        have HB := hide hbw
        by_cases hlt : j < 12
        · have s0 := h3.c0 j (by omega)
          have s1 := h3.c0 (j + 4) (by omega)
          have f1 := h3.f0 (j + 4) (by omega)
          have e0 : stp (nk f p) f (j + 4) j = nk f p j := by simp [stp]
          have e3 : stp (nk f p) f (j + 4) (j + 4) = f (j + 4) := by simp [stp]
          rw [e0] at s0
          rw [e3] at s1
          have e1 := hide (xorI (f (j + 4)) (nk f p j) (unhide HF _) (nk_lt f p (unhide HF) hp j))
          have e2 : Hid (nk f p (j + 4) = f (j + 4) ^^^ nk f p j) := nk_far f p j
          clear h1 h2 h3 hbw e0 e3
          generalize f (j + 4) = x at *
          generalize nk f p j = y at *
          have i2 : IntKind.i64.wrap ((j : Int) + 4) = (j : Int) + 4 := wraps_i64 _ (by omega) (by omega)
          have i3 : IntKind.i64.wrap (j : Int) = (j : Int) := wraps_i64 _ (by omega) (by omega)
          have i4 : IntKind.i64.wrap ((j : Int) + 4 - 4) = (j : Int) := by rw [show (j : Int) + 4 - 4 = (j : Int) by omega]; exact i3
          have n2 : (0 : Int) ≤ (j : Int) + 4 ∧ (j : Int) + 4 < 16 := by omega
          have n3 : (0 : Int) ≤ (j : Int) ∧ (j : Int) < 16 := by omega
          have n4 : ((j : Int) + 4).toNat = j + 4 := by omega
          go_wp2_with fail
          go_region
          go_wp2
          rw [unhide e1]
          refine ⟨⟨j + 1, by omega, by go_num, ?_, ?_, ?_, ?_⟩, by simp [intOf]; omega⟩
          · exact ((unhide H1).other (by simp <;> omega)).drew
          · exact ((unhide H2).other (by simp)).drew
          · rw [show j + 1 + 4 = j + 4 + 1 by omega]
            exact ((unhide H3).step (by omega) (unhide e2)).drew
          · exact ((unhide HB).setCell (by simp <;> omega) _).drew
        · have e : j = 12 := by omega
          subst e
          have h4 := h3.stepEnd (n := 16)
          have HH := hide (h2.puts (g := nk f p))
          go_upto_region 12 with fail
          refine wp_region_list ?_
          refine wpList_load_mid rfl 84 (.tmp 7) rfl (w.heap.size + 1 + 1) 0 rfl (us 16 (nk f p)) _ h4.range Try.underlying84 rfl (by rw [us_length]; exact info_bl) ?_
          refine wpList_store_mid rfl 84 (.tmp 6) (.tmp 49) rfl (w.heap.size + 1) 0 (us 16 (nk f p)).toArray rfl rfl (by rw [us_size]; exact h2.there) (by rw [us_size]; exact info_bl) (us_one _ _) ?_
          refine wpList_nil ?_
          clear h1 h2 h3 h4 hbw H1 H2 H3
          go_wp2
          refine ret_arr 6 (w.heap.size + 1) 16 84 _ (nk f p) ?r1 ?r2 ?r3 (unhide HH) Try.underlying84 rfl info_bl ?_
          case r1 => rfl
          case r2 => rfl
          case r3 => rfl
          exact ⟨rfl, Go.Proofs.Ytkpodgeinanceaa.below_setCells (by omega) _ _ _ (unhide HB)⟩
end Go.Proofs.Ytkpodgeinanceaa
