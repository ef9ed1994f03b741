/-
  Contracts: a copy of what came, of the model.
-/
import Derived.Test.YtmicpknilhiliaaStt
import Derived.Test.YtmicpknilhiliaaRci
namespace Go.Proofs.Ytmicpknilhiliaa.Rc
open Go.ChangeShapes Go.WideShapes Go.ChangeAt Go.RowKit Go.Deep
set_option linter.unusedVariables false
set_option maxRecDepth 100000

theorem Ro.rix {α : Type} {K : Kd α} {e : TypeId} {base : Nat} {w : World} {a : Option Addr} {n c : Nat} {L : List α} (h : Ro K e base w (.slice a n c) L) : Ri K base w.heap.size w a L ∧ L.length ≤ c ∧ n = L.length := by
  obtain ⟨a', c', e', h1, h2⟩ := h.form
  injection e' with e1 e2 e3
  subst e1
  subst e3
  exact ⟨h2, h1, e2⟩
set_option maxHeartbeats 4000000 in
theorem specOw (D : InflowD) (a : Option Addr) (c : Nat) (W : World) (hn : D.P.length ≤ 1048576) (h : Rd pieceK W a D.P) :
    Calls Try.prog 29 #[inflowV D a c] W fun e w' => ∃ a' c', e = .returned (inflowV D a' c') ∧ Ro pieceK 53 (W.heap.size + 2) w' (.slice a' D.P.length c') D.P ∧ Below W.heap.size W w' := by
  obtain ⟨V0, hV0⟩ : ∃ V, V = (W.alloc (.cells (inflowC D a c).toArray 39)).alloc (.cells #[.int .i64 0, .int .i64 0, .int .i64 0, .slice none 0 0] 39) := ⟨_, rfl⟩
  have B0 : Below W.heap.size W V0 := by rw [hV0]; exact ((Below.refl W.heap.size W).alloc (Nat.le_refl _) _).alloc (by simp) _
  have A0 := hide (show Bx V0 W.heap.size (inflowC D a c) by rw [hV0]; exact (Bx.new W _ _).alloc _)
  have Z0 := hide (show Bx V0 (W.heap.size + 1) [.int .i64 0, .int .i64 0, .int .i64 0, .slice none 0 0] by rw [hV0]; exact Bx.newAt (W.alloc _) _ _ _ (by simp))
  obtain ⟨V1, hV1⟩ : ∃ V, V = V0.alloc (.cells #[] 53) := ⟨_, rfl⟩
  have al : Below V0.heap.size V0 V1 := by rw [hV1]; exact (Below.refl _ _).alloc (Nat.le_refl _) _
  have sz0 := (unhide Z0).lt
  have L1 : Ro pieceK 53 (W.heap.size + 2) V1 (.slice (some ⟨V0.heap.size, 0, none⟩) 0 0) [] := by rw [hV1]; exact lit0Piece V0 (W.heap.size + 2) (by omega)
  obtain ⟨v', w', run, o', b', h'⟩ := joinPiece V1 (W.heap.size + 2) (.slice (some ⟨V0.heap.size, 0, none⟩) 0 0) [] D.P a c L1 ((h.below B0).below al) (by simp; omega) (by have := al.size; omega)
  rw [List.nil_append] at o'
  obtain ⟨a', c', e'⟩ := o'.opens
  subst e'
  have A1 := (unhide A0).below al
  have Z1 := (unhide Z0).below al
  have A2 := hide (A1.kept b'.size (h' _ A1.lt (fun g e => by cases e; show W.heap.size ≠ V0.heap.size; omega)))
  have Z2 := hide (Z1.kept b'.size (h' _ Z1.lt (fun g e => by cases e; show W.heap.size + 1 ≠ V0.heap.size; omega)))
  have O2 := hide o'
  have B2 := hide ((B0.trans (al.mono B0.size)).trans (b'.mono (by omega)))
  have RUN := hide run
  have HV0 := hide hV0
  have HV1 := hide hV1
  have a0 := (unhide A0).cv
  have a0l := (unhide A0).lt
  clear hV0 hV1 run o' b' h' A1 Z1 L1 al B0 h
  obtain ⟨li, re, fi, P⟩ := D
  dsimp only at *
  go_enter Try.func29, Try.ntmps29
  go_upto_region 1 with fail
  rw [← unhide HV0]
  clear HV0
  have GO : Hid (Ro pieceK 53 (W.heap.size + 2) (w'.setCell ⟨W.heap.size, 3, none⟩ (.slice a' P.length c')) (.slice a' P.length c') P) := (unhide O2).kq ((Kq.refl (fun q => q = W.heap.size) _).set rfl) (fun q hq => by omega)
  have A3 := hide ((unhide A2).set (i := 3) (u := .slice a' P.length c') (by simp))
  have Z3 := hide ((unhide Z2).other (c := W.heap.size) (i := 3) (u := .slice a' P.length c') (by omega))
  have B3 := hide ((unhide B2).setCell (p := ⟨W.heap.size, 3, none⟩) (Nat.le_refl _) (.slice a' P.length c'))
  have a2 := (unhide A2).cv
  have a2f := (unhide A2).fz
  have a2l := (unhide A2).lt
  clear A2 Z2 O2 B2
  go_upto_region 2 with (at_builtin; rw [← unhide HV1]; refine wpl_app rfl _ _ 37 rfl _ _ _ _ rfl rfl (unhide RUN) ?_)
  obtain ⟨W3, hW3⟩ : ∃ V, V = w'.setCell ⟨W.heap.size, 3, none⟩ (.slice a' P.length c') := ⟨_, rfl⟩
  rw [← hW3] at GO A3 Z3 B3 ⊢
  clear hW3 a0 a0l a2 a2f a2l HV1 RUN A0 Z0
  have a3 := (unhide A3).cv
  have a3l := (unhide A3).lt
  have z3 := (unhide Z3).cv
  have z3f := (unhide Z3).fz
  have z3l := (unhide Z3).lt
  have FIN : Hid (∀ U, Kq (fun q => q = W.heap.size + 1) W3 U → ∃ x y, Ending.returned (.agg #[.int .i64 li, .int .i64 re, .int .i64 fi, .slice a' P.length c']) = .returned (.agg #[.int .i64 li, .int .i64 re, .int .i64 fi, .slice x P.length y]) ∧ Ro pieceK 53 (W.heap.size + 2) U (.slice x P.length y) P ∧ Below W.heap.size W U) := fun U k => ⟨a', c', rfl, (unhide GO).kq k (fun q hq => by omega), (unhide B3).trans (k.below (base := W.heap.size) (unhide B3).size (fun q hq => by omega))⟩
  clear GO A3 Z3 B3
  go_wp2
  refine bodyPost_ret (v := .agg #[.int .i64 li, .int .i64 re, .int .i64 fi, .slice a' P.length c']) (by simp [results, Try.results29, go_sem, z3]) rfl (unhide FIN _ ?_)
  repeat (refine Kq.set ?_ rfl)
  exact Kq.refl _ _
end Go.Proofs.Ytmicpknilhiliaa.Rc
