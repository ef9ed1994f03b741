/-
  Contract: GoodSpace of the program.
-/
import Derived.Test.YtccfbkpelehldaaIgs
namespace Go.Proofs.Ytccfbkpelehldaa.Rc
open Go.ChangeShapes Go.WideShapes Go.ChangeAt Go.RowKit Go.Deep
set_option linter.unusedVariables false
set_option maxRecDepth 100000

theorem gs_alt (D : SpaceD) : gsB D = ((decide (-1 ≤ D.lg) && decide (D.lg ≤ 4611686018427387903)) && ((decide (D.S.length ≤ 60) && allS D.S) && rtB D.r)) := by
  unfold gsB
  cases allS D.S <;> cases (decide (-1 ≤ D.lg) && decide (D.lg ≤ 4611686018427387903)) <;> cases (decide (D.S.length ≤ 60)) <;> simp
set_option maxHeartbeats 2000000 in
theorem implGS (D : SpaceD) (hm : D.S.length ≤ 1048576) (W : World) (a : Option Addr) (c : Nat) (hc : D.S.length ≤ c) (h : RdSpace W a D) :
    Calls Try.prog 8 #[spaceV D a c] W fun e w' => e = .returned (.bool (gsB D)) ∧ Below W.heap.size W w' := by
  obtain ⟨V0, hV0⟩ : ∃ V, V = W.alloc (.cells (spaceC D a c).toArray 27) := ⟨_, rfl⟩
  have A0 := hide (show Bx V0 W.heap.size (spaceC D a c) by rw [hV0]; exact Bx.new W _ _)
  have B0 := hide (show Below W.heap.size W V0 by rw [hV0]; exact (Below.refl W.heap.size W).alloc (Nat.le_refl _) _)
  have HI := hide (btw (-1) D.lg 4611686018427387903)
  have HS := hide (implGo a c D.S V0 hm hc (h.below (unhide B0)))
  have HT := hide (implRt D.r)
  have HV0 := hide hV0
  clear h hV0 hm hc
  rw [gs_alt]
  have a0 := (unhide A0).cv
  have a0l := (unhide A0).lt
  generalize (decide (-1 ≤ D.lg) && decide (D.lg ≤ 4611686018427387903)) = r0 at *
  generalize (decide (D.S.length ≤ 60) && allS D.S) = r1 at *
  generalize rtB D.r = r2 at *
  cases r0
  case false =>
    go_enter Try.func8, Try.ntmps8
    go_upto_region 1 with fail
    rw [← unhide HV0]
    clear HV0
    go_wp2_with (go_at_call 31; refine (unhide HI _).mono ?_; rintro e w9 ⟨rfl, h9⟩; rw [h9]; clear h9 w9)
    go_ret
    exact ⟨rfl, unhide B0⟩
  cases r1
  case false =>
    go_enter Try.func8, Try.ntmps8
    go_upto_region 1 with fail
    rw [← unhide HV0]
    clear HV0
    go_wp2_with (go_at_call 31; refine (unhide HI _).mono ?_; rintro e w9 ⟨rfl, h9⟩; rw [h9]; clear h9 w9)
    refine (unhide HS).mono ?_
    rintro e w1 ⟨rfl, b1⟩
    have B1 := hide ((unhide B0).trans (b1.mono (unhide B0).size))
    clear b1
    go_wp2
    go_ret
    exact ⟨rfl, unhide B1⟩
  go_enter Try.func8, Try.ntmps8
  go_upto_region 1 with fail
  rw [← unhide HV0]
  clear HV0
  go_wp2_with (go_at_call 31; refine (unhide HI _).mono ?_; rintro e w9 ⟨rfl, h9⟩; rw [h9]; clear h9 w9)
  refine (unhide HS).mono ?_
  rintro e w1 ⟨rfl, b1⟩
  have B1 := hide ((unhide B0).trans (b1.mono (unhide B0).size))
  have a1 := ((unhide A0).below b1).cv
  have a1l := ((unhide A0).below b1).lt
  clear b1 a0 a0l
  go_wp2_with fail
  refine (unhide HT _).mono ?_
  rintro e w2 ⟨rfl, b2⟩
  have B2 := hide ((unhide B1).trans (b2.mono (unhide B1).size))
  clear b2
  go_wp2
  go_ret
  exact ⟨rfl, unhide B2⟩
end Go.Proofs.Ytccfbkpelehldaa.Rc
