/-
  Contract: RoomIn of the program.
-/
import Derived.Test.YtpjpmlopmknllaaChg
namespace Go.Proofs.Ytpjpmlopmknllaa.Rc
open Go.ChangeShapes Go.WideShapes Go.ChangeAt Go.RowKit Go.Deep
set_option linter.unusedVariables false
set_option maxRecDepth 100000

set_option maxHeartbeats 4000000 in
theorem implRI (D : WindowD) (o : okWindow D) (w : World) : Calls Try.prog 12 #[windowV D] w fun e w' => e = .returned (.tuple #[.int .i64 (riN D (wgB D)), .bool (wgB D)]) ∧ Below w.heap.size w w' := by
  have Y0 := hide (Bx.new w (windowC D) 24)
  have B0 := hide ((Below.refl w.heap.size w).alloc (Nat.le_refl _) (.cells (windowC D).toArray 24))
  have HG := hide (implWG D o)
  clear o
  cases hg : wgB D with
  | false =>
    rw [hg] at HG
    clear hg
    go_enter Try.func12, Try.ntmps12
    go_wp2_with fail
    refine (unhide HG _).mono ?_
    rintro e w1 ⟨rfl, b1⟩
    have B1 := hide ((unhide B0).trans (b1.mono (unhide B0).size))
    clear b1 HG Y0 B0
    go_wp2
    go_ret2
    exact ⟨rfl, unhide B1⟩
  | true =>
    rw [hg] at HG
    obtain ⟨⟨a0, a1⟩, ⟨b0, b1⟩, ⟨c0, c1⟩, ⟨d0, d1⟩⟩ := wg_in hg
    clear hg
    have hr : riN D true = if D.f0 < D.f3 then 0 else D.f0 - D.f3 := rfl
    obtain ⟨f0, f1, f2, f3⟩ := D
    dsimp only at *
    by_cases hl : f0 < f3
    · rw [hr, if_pos hl]
      clear hr
      go_enter Try.func12, Try.ntmps12
      go_wp2_with fail
      refine (unhide HG _).mono ?_
      rintro e w1 ⟨rfl, b1⟩
      have y1 := ((unhide Y0).below b1).cv
      have B1 := hide ((unhide B0).trans (b1.mono (unhide B0).size))
      clear b1 HG Y0 B0
      go_wp2
      go_ret2
      exact ⟨rfl, unhide B1⟩
    · rw [hr, if_neg hl]
      clear hr
      go_enter Try.func12, Try.ntmps12
      go_wp2_with fail
      refine (unhide HG _).mono ?_
      rintro e w1 ⟨rfl, b1⟩
      have y1 := ((unhide Y0).below b1).cv
      have B1 := hide ((unhide B0).trans (b1.mono (unhide B0).size))
      clear b1 HG Y0 B0
      go_wp2
      all_goals
        go_ret2
        refine ⟨?_, unhide B1⟩
        first
        | rfl
        | (have e0 : f0 - f3 = 0 := by omega
           rw [e0])
end Go.Proofs.Ytpjpmlopmknllaa.Rc
