/-
  Contracts: a table undone, a block unmixed.
-/
import Derived.Test.YtldlhdohkghikaaAbf
namespace Go.Proofs.Ytldlhdohkghikaa
open Go.ChangeShapes Go.WideShapes Go.ChangeAt Go.RowKit
set_option linter.unusedVariables false

theorem bs_all : ∀ x : Fin 256, back (sub x) = x ∧ sub (back x) = x := by decide +kernel
theorem back_sub (x : Nat) (h : x < 256) : back (sub x) = x := (bs_all ⟨x, h⟩).1
theorem sub_back (x : Nat) (h : x < 256) : sub (back x) = x := (bs_all ⟨x, h⟩).2
/-- the table undone as far as j -/
def bkT (j i : Nat) : Nat := if back i < j then back i else 0
theorem bkT_zero (i : Nat) : bkT 0 i = 0 := by unfold bkT; rw [if_neg (by omega)]
theorem bkT_at (j : Nat) (h : j < 256) : bkT (j + 1) (sub j) = j := by
  unfold bkT
  rw [back_sub j h, if_pos (by omega)]
theorem bkT_other (j i : Nat) (hi : i < 256) (hne : i ≠ sub j) : bkT (j + 1) i = bkT j i := by
  unfold bkT
  have h : back i ≠ j := fun e => hne (by rw [← e, sub_back i hi])
  by_cases e : back i < j
  · rw [if_pos e, if_pos (by omega)]
  · rw [if_neg e, if_neg (by omega)]
theorem bkT_end (i : Nat) (hi : i < 256) : bkT 256 i = back i := by
  unfold bkT
  rw [if_pos (back_lt i hi)]
set_option maxRecDepth 100000 in
set_option maxHeartbeats 1000000 in
theorem implUndone (w : World) :
    Calls Try.prog 42 #[.agg (us 256 sub).toArray] w fun e w' => e = .returned (.agg (us 256 back).toArray) ∧ Below w.heap.size w w' := by
  go_enter Try.func42, Try.ntmps42
  go_wp2_with fail
  rw [zero_tab]
  go_wp2_with fail
  rw [zero_tab]
  go_wp2_with fail
  have c0 := ((Ar.new w 256 sub 53).alloc (.cells (us 256 fun _ => 0).toArray 53)).alloc (.cells (us 256 fun _ => 0).toArray 53)
  have c1 := (Ar.new (w.alloc (.cells (us 256 sub).toArray 53)) 256 (fun _ => 0) 53).alloc (.cells (us 256 fun _ => 0).toArray 53)
  have c2 := Ar.new ((w.alloc (.cells (us 256 sub).toArray 53)).alloc (.cells (us 256 fun _ => 0).toArray 53)) 256 (fun _ => 0) 53
  have c3 := (((Below.refl w.heap.size w).alloc (Nat.le_refl _) (.cells (us 256 sub).toArray 53)).alloc (by simp) (.cells (us 256 fun _ => 0).toArray 53)).alloc (by simp; omega) (.cells (us 256 fun _ => 0).toArray 53)
  rw [World.size_alloc] at c1
  rw [World.size_alloc, World.size_alloc] at c2
  generalize (((w.alloc (.cells (us 256 sub).toArray 53)).alloc (.cells (us 256 fun _ => 0).toArray 53)).alloc (.cells (us 256 fun _ => 0).toArray 53)) = W at c0 c1 c2 c3 ⊢
  refine wp_load_mid 53 (.tmp 1) rfl w.heap.size 0 rfl (us 256 sub) _ c0.range Try.underlying53 rfl (by rw [us_length]; exact info_tab) ?_
  have C1 := hide c1
  have C2 : Hid (Ar W (w.heap.size + 1 + 1) 0 256 (bkT 0)) := c2.congr (fun i _ => (bkT_zero i).symm)
  have C3 := hide c3
  clear c0 c1 c2 c3
  go_wp2_with fail
  go_loopw [7] (fun iv wx => ∃ k : Nat, k ≤ 256 ∧ iv = .int .i64 k ∧ Ar wx (w.heap.size + 1) 0 256 (fun _ => 0) ∧ Ar wx (w.heap.size + 1 + 1) 0 256 (bkT k) ∧ Below w.heap.size w wx) (fun iv _ => 256 - (intOf iv).toNat)
  case atStart => exact ⟨0, by omega, rfl, unhide C1, unhide C2, unhide C3⟩
  case round =>
    obtain ⟨k, hk, rfl, h1, h3, hbw⟩ := hrel
    have H1 := hide h1
    have H3 := hide h3
    have HB := hide hbw
    by_cases hlt : k < 256
    · have hx := sub_lt k hlt
      have c0 := h3.c0 (sub k) hx
      have f0 := h3.f0 (sub k) hx
      have hI := idx_us 256 53 sub k hlt Try.underlying53 wr
      have e1 := hide (bkT_at k hlt)
      have e2 := hide (fun i (hi : i < 256) (hne : i ≠ sub k) => bkT_other k i hi hne)
      have w8 : IntKind.u8.wrap (k : Int) = (k : Int) := by rw [wrap_u8]; omega
      clear h1 h3 hbw
      generalize sub k = x at *
      generalize bkT k x = o at *
      have i1 : (0 : Int) ≤ (x : Int) ∧ (x : Int) < 256 := by omega
      go_wp2
      refine ⟨⟨k + 1, by omega, by go_num, ?_, ?_, ?_⟩, by simp [intOf]; omega⟩
      · exact (unhide H1).other (by simp)
      · exact (unhide H3).put0 hx (unhide e1) (fun i hi hne => unhide e2 i hi hne)
      · exact (unhide HB).setCell (by simp <;> omega) _
    · have e : k = 256 := by omega
      subst e
      have h4 := h3.congr (g := back) (fun i hi => bkT_end i hi)
      have HH := hide (h1.puts (g := back))
      go_upto_region 7 with fail
      refine wp_region_list ?_
      refine wpList_load_mid rfl 53 (.tmp 3) rfl (w.heap.size + 1 + 1) 0 rfl (us 256 back) _ h4.range Try.underlying53 rfl (by rw [us_length]; exact info_tab) ?_
      refine wpList_store_mid rfl 53 (.tmp 2) (.tmp 16) rfl (w.heap.size + 1) 0 (us 256 back).toArray rfl rfl (by rw [us_size]; exact h1.there) (by rw [us_size]; exact info_tab) (us_one _ _) ?_
      refine wpList_nil ?_
      clear h1 h3 h4 hbw H1 H3
      go_wp2
      refine ret_arr 2 (w.heap.size + 1) 256 53 _ back ?r1 ?r2 ?r3 (unhide HH) Try.underlying53 rfl info_tab ?_
      case r1 => rfl
      case r2 => rfl
      case r3 => rfl
      exact ⟨rfl, Go.Proofs.Ytldlhdohkghikaa.below_setCells (by omega) _ _ _ (unhide HB)⟩
set_option maxRecDepth 100000 in
theorem implUnmixed (f : Nat → Nat) (hf : ∀ i, f i < 256) (w : World) :
    Calls Try.prog 43 #[.agg (us 16 f).toArray] w fun e w' => e = .returned (.agg (us 16 (mxb (mxb (mxb f)))).toArray) ∧ Below w.heap.size w w' := by
  have h1 := hide (fun V => implBmixed f hf V)
  have h2 := hide (fun V => implBmixed (mxb f) (mxb_lt f hf) V)
  have h3 := hide (fun V => implBmixed (mxb (mxb f)) (mxb_lt _ (mxb_lt f hf)) V)
  generalize mxb (mxb (mxb f)) = f3 at *
  generalize mxb (mxb f) = f2 at *
  generalize mxb f = f1 at *
  have hl : (us 16 f3).length = 16 := us_length _ _
  go_enter Try.func43, Try.ntmps43
  go_upto_region 1 with fail
  have a1 := (Ar.new w 16 f 45).alloc (.cells #[.int .u8 0, .int .u8 0, .int .u8 0, .int .u8 0, .int .u8 0, .int .u8 0, .int .u8 0, .int .u8 0, .int .u8 0, .int .u8 0, .int .u8 0, .int .u8 0, .int .u8 0, .int .u8 0, .int .u8 0, .int .u8 0] 45)
  have a2 := z16_new (w.alloc (.cells (us 16 f).toArray 45)) 45
  rw [World.size_alloc] at a2
  have a3 := ((Below.refl w.heap.size w).alloc (Nat.le_refl _) (.cells (us 16 f).toArray 45)).alloc (by simp) (.cells #[.int .u8 0, .int .u8 0, .int .u8 0, .int .u8 0, .int .u8 0, .int .u8 0, .int .u8 0, .int .u8 0, .int .u8 0, .int .u8 0, .int .u8 0, .int .u8 0, .int .u8 0, .int .u8 0, .int .u8 0, .int .u8 0] 45)
  have a4 : ((w.alloc (.cells (us 16 f).toArray 45)).alloc (.cells #[.int .u8 0, .int .u8 0, .int .u8 0, .int .u8 0, .int .u8 0, .int .u8 0, .int .u8 0, .int .u8 0, .int .u8 0, .int .u8 0, .int .u8 0, .int .u8 0, .int .u8 0, .int .u8 0, .int .u8 0, .int .u8 0] 45)).heap.size = w.heap.size + 1 + 1 := by simp
  generalize ((w.alloc (.cells (us 16 f).toArray 45)).alloc (.cells #[.int .u8 0, .int .u8 0, .int .u8 0, .int .u8 0, .int .u8 0, .int .u8 0, .int .u8 0, .int .u8 0, .int .u8 0, .int .u8 0, .int .u8 0, .int .u8 0, .int .u8 0, .int .u8 0, .int .u8 0, .int .u8 0] 45)) = W at a1 a2 a3 a4 ⊢
  refine wp_region_list ?_
  refine wpList_load_mid rfl 45 (.tmp 1) rfl w.heap.size 0 rfl (us 16 f) _ a1.range Try.underlying45 rfl (by rw [us_length]; exact info_bl) ?_
  have A2 := hide a2
  have A3 := hide a3
  clear a1 a2 a3
  go_wp2_with (first
    | (go_at_call 38; with_reducible refine (unhide h1 _).mono ?_; rintro e w1 ⟨rfl, b1⟩)
    | (go_at_call 38; with_reducible refine (unhide h2 _).mono ?_; rintro e w2 ⟨rfl, b2⟩)
    | (go_at_call 38; with_reducible refine (unhide h3 _).mono ?_; rintro e w3 ⟨rfl, b3⟩))
  have bb := (b1.trans (b2.mono b1.size)).trans (b3.mono (Nat.le_trans b1.size b2.size))
  have C2 := (unhide A2).below bb (unhide A2).lt
  rw [C2.cellsPut]
  have HH := hide (C2.puts (g := f3))
  have HB := hide ((unhide A3).trans (bb.mono (unhide A3).size))
  clear b1 b2 b3 bb C2 A2 A3
  go_wp2
  refine ret_arr 2 (w.heap.size + 1) 16 45 _ f3 ?r1 ?r2 ?r3 (unhide HH) Try.underlying45 rfl info_bl ?_
  case r1 => rfl
  case r2 => rfl
  case r3 => rfl
  exact ⟨rfl, Go.Proofs.Ytldlhdohkghikaa.below_setCells (by omega) _ _ _ (unhide HB)⟩
end Go.Proofs.Ytldlhdohkghikaa
