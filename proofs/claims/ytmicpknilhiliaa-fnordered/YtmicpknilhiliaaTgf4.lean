/-
  Contracts of the program: a row with room, three rows put together, a piece put between others.
-/
import Derived.Test.YtmicpknilhiliaaTge4
import Derived.Test.YtmicpknilhiliaaStt
import Derived.Lib.AppendZeros
import Derived.Deep.DeepCutAuto
namespace Go.Proofs.Ytmicpknilhiliaa.Rc
open Go.ChangeShapes Go.WideShapes Go.ChangeAt Go.RowKit Go.Deep
set_option linter.unusedVariables false
set_option maxRecDepth 100000

set_option maxHeartbeats 2000000 in
theorem implGrow (n : Nat) (h1 : 1 ≤ n) (hn : n ≤ 100000) (w : World) :
    Calls Try.prog 54 #[.slice none 0 0, .int .i64 n] w fun e w' => ∃ v, e = .returned v ∧ Ro pieceK 53 w.heap.size w' v [] ∧ Below w.heap.size w w' := by
  obtain ⟨i0, hi, hz0, hz1, hz2⟩ := info_parts Try.infoPiece
  have RUN := hide (Lib.run_append_nil_zeros (P := Try.prog) w 37 3 37 53 i0 _ .i64 .i64 Try.underlying37 Try.underlying3 hi hz0 n (by omega) (by rw [hz1]; omega) (by omega) (by rw [hz2]; omega))
  have hcap : grownCap w n 0 53 ≤ maxLen := grownCap_le_maxLen w n 0 53 (by unfold maxLen; omega)
  have hge := grownCap_ge w n 0 53
  have HO := hide (fun cur hs => World.ownsRow_made (base := w.heap.size) (size := 2) (e := 53) w.drew cur (grownCap w n 0 53) (Nat.le_refl _) hcap hs)
  have B1 : Hid (∀ o, Below w.heap.size w (w.drew.alloc o)) := fun o => ((Below.refl _ _).drew).alloc (Nat.le_refl _) o
  have HS : Hid ((Builtin.zeroCells (Value.agg #[.int .i64 0, .string ⟨#[]⟩]).cells n ++ Builtin.zeroCells (Value.agg #[.int .i64 0, .string ⟨#[]⟩]).cells (grownCap w n 0 53 - n)).size = grownCap w n 0 53 * 2) := by
    show _ = _
    rw [Array.size_append, size_zeroCells, size_zeroCells]
    show n * 2 + (grownCap w n 0 53 - n) * 2 = _
    omega
  generalize Builtin.zeroCells (Value.agg #[.int .i64 0, .string ⟨#[]⟩]).cells n ++ Builtin.zeroCells (Value.agg #[.int .i64 0, .string ⟨#[]⟩]).cells (grownCap w n 0 53 - n) = cur at *
  generalize grownCap w n 0 53 = cp at *
  have e1 : IntKind.i64.wrap ((n : Int) - 0) = (n : Int) := by rw [IntKind.wrap_i64]; omega
  have e2 : ¬ (n : Int) < 0 := by omega
  have e3 : (0 : Int) < (n : Int) := by omega
  have e4 : (0 : Int) ≤ (cp : Int) := by omega
  clear hi hz0 hz1 hz2
  go_enter Try.func54, Try.ntmps54
  go_wp2_with (at_builtin; refine Lib.wpList_append_run _ rfl _ _ _ _ rfl _ _ rfl rfl _ _ (unhide RUN) ?_)
  go_ret
  exact ⟨_, rfl, unhide HO cur (unhide HS), unhide B1 _⟩
set_option maxHeartbeats 4000000 in
theorem implConcat (vb : Nat) (L1 L2 L3 : List PieceD) (a1 a2 a3 : Option Addr) (c1 c2 c3 : Nat) (w : World) (hv : Bx w vb [.slice a1 L1.length c1, .slice a2 L2.length c2, .slice a3 L3.length c3]) (r1 : Rd pieceK w a1 L1) (r2 : Rd pieceK w a2 L2) (r3 : Rd pieceK w a3 L3)
    (h1 : 1 ≤ L1.length + L2.length + L3.length) (m1 : L1.length ≤ 1000) (m2 : L2.length ≤ 1000) (m3 : L3.length ≤ 1000) :
    Calls Try.prog 52 #[.slice (some ⟨vb, 0, none⟩) 3 3] w fun e w' => ∃ v, e = .returned v ∧ Ro pieceK 53 w.heap.size w' v (L1 ++ L2 ++ L3) ∧ Below w.heap.size w w' := by
  obtain ⟨N, hN⟩ : ∃ N : Nat, N = L1.length + L2.length + L3.length := ⟨_, rfl⟩
  have HG := hide (implGrow N (by omega) (by omega) w)
  have HV := hide hv
  have R1 := hide r1
  have R2 := hide r2
  have R3 := hide r3
  have e0 : IntKind.i64.wrap (L1.length : Int) = (L1.length : Int) := by rw [IntKind.wrap_i64]; omega
  have e1 : IntKind.i64.wrap ((L1.length : Int) + (L2.length : Int)) = (L1.length : Int) + (L2.length : Int) := by rw [IntKind.wrap_i64]; omega
  have e2 : IntKind.i64.wrap ((L1.length : Int) + (L2.length : Int) + (L3.length : Int)) = (N : Int) := by rw [IntKind.wrap_i64]; omega
  have f0 : ¬ (L1.length : Int) < 0 := by omega
  have f1 : ¬ (L1.length : Int) + (L2.length : Int) < 0 := by omega
  have f2 : ¬ (N : Int) < 0 := by omega
  have x0 := hv.cv
  have x0l := hv.lt
  clear hv r1 r2 r3 hN h1
  go_enter Try.func52, Try.ntmps52
  go_wp2_with fail
  refine wp_loop_rounds 4 ?_
  rw [rounds_succ]
  go_wp2_with fail
  rw [rounds_succ]
  go_wp2_with fail
  rw [rounds_succ]
  go_wp2_with fail
  rw [rounds_succ]
  go_wp2_with fail
  refine (unhide HG).mono ?_
  rintro e w1 ⟨v0, rfl, o0, b0⟩
  obtain ⟨v1, w2, run1, o1, b1, _⟩ := joinPiece w1 w.heap.size v0 [] L1 a1 c1 o0 ((unhide R1).below b0) (by simp; omega) b0.size
  have B1 := b0.trans b1
  obtain ⟨v2, w3, run2, o2, b2, _⟩ := joinPiece w2 w.heap.size v1 ([] ++ L1) L2 a2 c2 o1 ((unhide R2).below B1) (by simp; omega) B1.size
  have B2 := B1.trans b2
  obtain ⟨v3, w4, run3, o3, b3, _⟩ := joinPiece w3 w.heap.size v2 ([] ++ L1 ++ L2) L3 a3 c3 o2 ((unhide R3).below B2) (by simp; omega) B2.size
  have B3 := hide (B2.trans b3)
  have O3 := hide o3
  have RUN1 := hide run1
  have RUN2 := hide run2
  have RUN3 := hide run3
  have y1 := ((unhide HV).below b0).cv
  have y1l := ((unhide HV).below b0).lt
  have y2 := ((unhide HV).below B1).cv
  have y2l := ((unhide HV).below B1).lt
  have y3 := ((unhide HV).below B2).cv
  have y3l := ((unhide HV).below B2).lt
  clear x0 x0l e0 e1 e2 f0 f1 f2 run1 run2 run3 o0 o1 o2 o3 b0 b1 b2 b3 B1 B2
  go_wp2_with fail
  refine wp_loop_rounds 4 ?_
  rw [rounds_succ]
  go_wp2_with (at_builtin; refine wpl_app rfl _ _ 37 rfl _ _ _ _ rfl rfl (unhide RUN1) ?_)
  rw [rounds_succ]
  go_wp2_with (at_builtin; refine wpl_app rfl _ _ 37 rfl _ _ _ _ rfl rfl (unhide RUN2) ?_)
  rw [rounds_succ]
  go_wp2_with (at_builtin; refine wpl_app rfl _ _ 37 rfl _ _ _ _ rfl rfl (unhide RUN3) ?_)
  rw [rounds_succ]
  go_wp2_with fail
  go_ret
  exact ⟨_, rfl, unhide O3, unhide B3⟩
end Go.Proofs.Ytmicpknilhiliaa.Rc
