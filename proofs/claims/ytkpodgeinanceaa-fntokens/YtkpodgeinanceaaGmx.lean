/-
  Contracts: a column mixed, of both sides.
-/
import Derived.Test.YtkpodgeinanceaaGmu
import Derived.Test.YtkpodgeinanceaaArr
namespace Go.Proofs.Ytkpodgeinanceaa
open Go.ChangeShapes Go.WideShapes Go.ChangeAt Go.RowKit
set_option linter.unusedVariables false

/-- what stands at i of a mixed column -/
def mx1 (p q r s : Nat) : Nat := dbl p ^^^ dbl q ^^^ q ^^^ r ^^^ s
def mixc (f : Nat → Nat) (i : Nat) : Nat := mx1 (f i) (f ((i + 1) % 4)) (f ((i + 2) % 4)) (f ((i + 3) % 4))
theorem mx1_lt (p q r s : Nat) (hp : p < 256) (hq : q < 256) (hr : r < 256) (hs : s < 256) : mx1 p q r s < 256 :=
  xor_lt _ _ (xor_lt _ _ (xor_lt _ _ (xor_lt _ _ (dbl_lt p hp) (dbl_lt q hq)) hq) hr) hs
theorem mixc_lt (f : Nat → Nat) (h : ∀ i, f i < 256) (i : Nat) : mixc f i < 256 := mx1_lt _ _ _ _ (h _) (h _) (h _) (h _)
theorem mx1I (p q r s : Nat) (hp : p < 256) (hq : q < 256) (hr : r < 256) (hs : s < 256) :
    bits .xor .u8 (bits .xor .u8 (bits .xor .u8 (bits .xor .u8 (dbl p : Nat) (dbl q : Nat)) q) r) s = ((mx1 p q r s : Nat) : Int) := by
  have k1 := dbl_lt p hp
  have k2 := dbl_lt q hq
  have k3 := xor_lt _ _ k1 k2
  have k4 := xor_lt _ _ k3 hq
  have k5 := xor_lt _ _ k4 hr
  rw [xorI _ _ k1 k2, xorI _ q k3 hq, xorI _ r k4 hr, xorI _ s k5 hs]
  rfl

/-- four cells of a block -/
abbrev S4 (b p0 p1 p2 p3 x0 x1 x2 x3 : Nat) (W : World) : Prop := W.cell? ⟨b, p0, none⟩ = some (.int .u8 x0) ∧ W.cell? ⟨b, p1, none⟩ = some (.int .u8 x1) ∧ W.cell? ⟨b, p2, none⟩ = some (.int .u8 x2) ∧ W.cell? ⟨b, p3, none⟩ = some (.int .u8 x3)
theorem s4_set {b p0 p1 p2 p3 x0 x1 x2 x3 b' k : Nat} {v : Value} {W : World} (h : S4 b p0 p1 p2 p3 x0 x1 x2 x3 W) (hne : b' ≠ b) : S4 b p0 p1 p2 p3 x0 x1 x2 x3 (W.setCell ⟨b', k, none⟩ v) :=
  ⟨(World.cell?_setCell_far W ⟨b', k, none⟩ _ v hne).trans h.1, (World.cell?_setCell_far W ⟨b', k, none⟩ _ v hne).trans h.2.1, (World.cell?_setCell_far W ⟨b', k, none⟩ _ v hne).trans h.2.2.1, (World.cell?_setCell_far W ⟨b', k, none⟩ _ v hne).trans h.2.2.2⟩

set_option maxHeartbeats 2000000 in
theorem implMixed (f : Nat → Nat) (hf : ∀ i, f i < 256) (w : World) :
    Calls Try.prog 102 #[.agg (us 4 f).toArray] w fun e w' => e = .returned (.agg (us 4 (mixc f)).toArray) ∧ Below w.heap.size w w' := by
  have HF := hide hf
  clear hf
  go_enter Try.func102, Try.ntmps102
  go_wp2_with fail
  go_loopw [6] (fun iv wr => ∃ k : Nat, k ≤ 4 ∧ iv = .int .i64 k ∧ Ar wr w.heap.size 0 4 f ∧ Ar wr (w.heap.size + 1) 0 4 (fun _ => 0) ∧ Ar wr (w.heap.size + 1 + 1) 0 4 (stp (mixc f) (fun _ => 0) k) ∧ Below w.heap.size w wr) (fun iv _ => 4 - (intOf iv).toNat)
  case atStart =>
    refine ⟨0, by omega, rfl, ?_, ?_, ?_, ?_⟩
    · exact ((Ar.new w 4 f _).alloc _).alloc _
    · have := (Ar.new (w.alloc (.cells (us 4 f).toArray 140)) 4 (fun _ => 0) 140).alloc (.cells (us 4 (fun _ => 0)).toArray 140)
      simpa [us_def, List.range_succ] using this
    · have := Ar.new ((w.alloc (.cells (us 4 f).toArray 140)).alloc (.cells (us 4 (fun _ => 0)).toArray 140)) 4 (fun _ => 0) 140
      exact Ar.stepNone (by simpa [us_def, List.range_succ] using this)
    · repeat (first | exact Below.refl _ _ | refine Below.alloc ?_ (by simp <;> omega) _)
  case round =>
    obtain ⟨k, hk, rfl, h1, h2, h3, hbw⟩ := hrel
    have H1 := hide h1
    have H2 := hide h2
    have H3 := hide h3
    have HB := hide hbw
    by_cases hlt : k < 4
    · have s0 := h1.c0 k (by omega)
      have s1 := h1.c0 ((k + 1) % 4) (by omega)
      have s2 := h1.c0 ((k + 2) % 4) (by omega)
      have s3 := h1.c0 ((k + 3) % 4) (by omega)
      have m0 := h3.c0 k hlt
      have f0 := h3.f0 k hlt
      have hD1 := hide (fun W => implDouble (f k) (unhide HF _) W)
      have hD2 := hide (fun W => implDouble (f ((k + 1) % 4)) (unhide HF _) W)
      have e1 := hide (mx1I (f k) (f ((k + 1) % 4)) (f ((k + 2) % 4)) (f ((k + 3) % 4)) (unhide HF _) (unhide HF _) (unhide HF _) (unhide HF _))
      clear h3 h2 h1 hbw
      have E0 := hide (show mixc f k = mx1 (f k) (f ((k + 1) % 4)) (f ((k + 2) % 4)) (f ((k + 3) % 4)) from rfl)
      generalize f k = x0 at *
      generalize f ((k + 1) % 4) = x1 at *
      generalize f ((k + 2) % 4) = x2 at *
      generalize f ((k + 3) % 4) = x3 at *
      generalize stp (mixc f) (fun _ => 0) k k = x4 at *
      have i2 : IntKind.i64.wrap ((k : Int) + 2) = (k : Int) + 2 := wraps_i64 _ (by omega) (by omega)
      have i3 : IntKind.i64.wrap ((k : Int) + 3) = (k : Int) + 3 := wraps_i64 _ (by omega) (by omega)
      have j2 : Int.tmod ((k : Int) + 2) 4 = (((k + 2) % 4 : Nat) : Int) := by rw [Int.tmod_eq_emod_of_nonneg (by omega)]; omega
      have j3 : Int.tmod ((k : Int) + 3) 4 = (((k + 3) % 4 : Nat) : Int) := by rw [Int.tmod_eq_emod_of_nonneg (by omega)]; omega
      have l2 : (k + 2) % 4 < 4 := by omega
      have l3 : (k + 3) % 4 < 4 := by omega
      generalize (k + 2) % 4 = p2 at *
      generalize (k + 3) % 4 = p3 at *
      have n2 : (0 : Int) ≤ (p2 : Int) ∧ (p2 : Int) < 4 := by omega
      have n3 : (0 : Int) ≤ (p3 : Int) ∧ (p3 : Int) < 4 := by omega
      have m2 : IntKind.i64.wrap (p2 : Int) = (p2 : Int) := wraps_i64 _ (by omega) (by omega)
      have m3 : IntKind.i64.wrap (p3 : Int) = (p3 : Int) := wraps_i64 _ (by omega) (by omega)
      go_wp2_with fail
      have hne : w.heap.size + 1 + 1 ≠ w.heap.size := by omega
      have hS : Hid (S4 w.heap.size k ((k + 1) % 4) p2 p3 x0 x1 x2 x3 wr) := ⟨s0, s1, s2, s3⟩
      go_region_held3 (fun W => S4 w.heap.size k ((k + 1) % 4) p2 p3 x0 x1 x2 x3 W) (first | assumption | exact s4_set (unhide hS) hne | exact unhide hS)
          (first | (go_at_call 88; with_reducible refine (unhide hD1 _).mono ?_; rintro e w1 ⟨rfl, rfl⟩) | (go_at_call 88; with_reducible refine (unhide hD2 _).mono ?_; rintro e w1 ⟨rfl, rfl⟩))
      go_wp2
      rw [unhide e1]
      refine ⟨⟨k + 1, by omega, by go_num, ?_, ?_, ?_, ?_⟩, by simp [intOf]; omega⟩
      · exact ((unhide H1).other hne).drew
      · exact ((unhide H2).other (by simp)).drew
      · exact ((unhide H3).step hlt (unhide E0)).drew
      · exact ((unhide HB).setCell (by simp <;> omega) _).drew
    · have e : k = 4 := by omega
      subst e
      have h4 := h3.stepEnd
      have c0 := h4.c0 0 (by omega)
      have c1 := h4.c0 1 (by omega)
      have c2 := h4.c0 2 (by omega)
      have c3 := h4.c0 3 (by omega)
      have d0 := h2.c0 0 (by omega)
      have d1 := h2.c0 1 (by omega)
      have d2 := h2.c0 2 (by omega)
      have d3 := h2.c0 3 (by omega)
      have g0 := h2.f0 0 (by omega)
      have g1 := h2.f0 1 (by omega)
      have g2 := h2.f0 2 (by omega)
      have g3 := h2.f0 3 (by omega)
      have h5 := hide (((((h2.stepNone (f := mixc f)).step (k := 0) (by omega) rfl).step (k := 1) (by omega) rfl).step (k := 2) (by omega) rfl).step (k := 3) (by omega) rfl).stepEnd
      clear h1 h2 h3 h4 hbw H1 H2 H3
      go_wp2
      refine ret_arr 2 (w.heap.size + 1) 4 140 _ (mixc f) ?r1 ?r2 ?r3 (unhide h5) Try.underlying140 rfl (by kernel_rfl) ?_
      case r1 => rfl
      case r2 => rfl
      case r3 => rfl
      refine ⟨rfl, ?_⟩
      iterate 4 refine Below.setCell ?_ (by simp <;> omega) _
      exact unhide HB
end Go.Proofs.Ytkpodgeinanceaa
