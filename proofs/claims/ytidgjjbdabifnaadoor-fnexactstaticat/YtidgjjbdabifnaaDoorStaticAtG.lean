/-
  The law on StaticAt, walked out of the contracts of both sides.
-/
import Derived.Test.YtidgjjbdabifnaaDoorFsv
namespace Go.Proofs.YtidgjjbdabifnaaDoor.Rc
open Go.ChangeShapes Go.WideShapes Go.ChangeAt Go.RowKit Go.Deep
set_option linter.unusedVariables false
set_option maxRecDepth 100000

set_option maxHeartbeats 2000000 in
theorem staticAt_given (D : FieldD) (h0 : D.f0.size ≤ maxLen) (h1 : D.f1.size ≤ maxLen) (w : World) (hS : Sf w) :
    Calls Tryd.prog 4 #[fieldV D] w fun e w' => e = .returned (.bool true) ∧ Below w.heap.size w w' := by
  obtain ⟨W, hW⟩ : ∃ W, W = w.alloc (.cells #[.string D.f0, .string D.f1] 28) := ⟨_, rfl⟩
  have hbW : Below w.heap.size w W := by rw [hW]; exact (Below.refl w.heap.size w).alloc (Nat.le_refl _) _
  have hbx : Bx W w.heap.size [.string D.f0, .string D.f1] := by rw [hW]; exact Bx.new w _ _
  have HB0 := hide hbW
  have HX0 := hide hbx
  have HW := hide hW
  have HZ := hide (fun w => szField_any D 1048576 w h0 h1 (by omega))
  have HT := hide (toField_any D)
  have HP := hide (fun W => specSA D W)
  have HI := hide (fun W (b : Below w.heap.size w W) => implSA D W (hS.below b) h0 h1)
  have y := hbx.cv
  have yl := hbx.lt
  unfold atV2 at *
  generalize fsA sT D 0 = p at *
  generalize nmP D.f0 = q at *
  clear hW hbW hS hbx
  go_enter Tryd.func4, Tryd.ntmps4
  go_upto_region 1 with fail
  rw [← unhide HW]
  clear HW
  go_wp2_with fail
  refine (unhide HZ _).mono ?_
  rintro e w1 ⟨hz, b1⟩
  have B1 := hide ((unhide HB0).trans (b1.mono (unhide HB0).size))
  have X1 := hide ((unhide HX0).below b1)
  clear b1 y yl HB0 HX0
  rcases hz with rfl | ⟨r, rfl, hr⟩
  · go_wp2
    go_ret
    exact ⟨rfl, unhide B1⟩
  have hy : ¬ (r : Int) < 0 := by omega
  have y := (unhide X1).cv
  have yl := (unhide X1).lt
  go_wp2_with fail
  refine (unhide HT _).mono ?_
  rintro e w2 ⟨rfl, b2⟩
  have B2 := hide ((unhide B1).trans (b2.mono (unhide B1).size))
  have X2 := hide ((unhide X1).below b2)
  clear b2 y yl B1 X1
  go_wp2_with fail
  refine (unhide HP _).mono ?_
  rintro e w3 ⟨rfl, b3⟩
  have B3 := hide ((unhide B2).trans (b3.mono (unhide B2).size))
  have X3 := hide ((unhide X2).below b3)
  clear b3 B2 X2
  have y := (unhide X3).cv
  have yl := (unhide X3).lt
  go_wp2_with fail
  refine (unhide HT _).mono ?_
  rintro e w4 ⟨rfl, b4⟩
  have B4 := hide ((unhide B3).trans (b4.mono (unhide B3).size))
  clear b4 y yl B3 X3
  go_wp2_with fail
  refine (unhide HI _ (unhide B4)).mono ?_
  rintro e w5 ⟨rfl, b5⟩
  have B5 := hide ((unhide B4).trans (b5.mono (unhide B4).size))
  clear b5 B4
  go_wp2
  go_ret
  exact ⟨rfl, unhide B5⟩
end Go.Proofs.YtidgjjbdabifnaaDoor.Rc
