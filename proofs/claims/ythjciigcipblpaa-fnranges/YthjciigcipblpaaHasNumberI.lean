/-
  Contract: HasNumber of the program.
-/
import Derived.Test.YthjciigcipblpaaRgc
import Derived.Test.YthjciigcipblpaaInr
import Derived.Test.YthjciigcipblpaaGoodRangesI
namespace Go.Proofs.Ythjciigcipblpaa.Rc
open Go.ChangeShapes Go.WideShapes Go.ChangeAt Go.RowKit Go.Deep
set_option linter.unusedVariables false
set_option maxRecDepth 100000

set_option maxHeartbeats 1000000 in
theorem implHN (L : List RangeD) (n : Int) (hn : L.length ≤ 1048576) (ho : rgO L) (hi : okI n) (W : World) (a : Option Addr) (cap : Nat) (h : Rd rangeK W a L) :
    Calls Try.prog 14 #[.slice a L.length cap, .int .i64 n] W fun e w' => e = .returned (.tuple #[.bool (hnB L n), .bool (grB L)]) ∧ Below W.heap.size W w' := by
  have HG := hide (implGR L hn ho W a cap h)
  have HI := hide (fun V (b : Below W.heap.size W V) => implIn a cap L n V hn (h.below b))
  have HE : Hid (hnB L n = (grB L && hasB L n)) := rfl
  clear h ho
  cases hg : grB L with
  | false =>
    have H2 : Hid (hnB L n = false) := by show _ = _; rw [unhide HE, hg]; rfl
    rw [hg] at HG
    clear HE hg HI
    go_enter Try.func14, Try.ntmps14
    go_wp2_with fail
    refine (unhide HG).mono ?_
    rintro e w1 ⟨rfl, b1⟩
    have B1 := hide b1
    clear b1
    go_wp2
    go_ret2
    exact ⟨by rw [unhide H2]; rfl, unhide B1⟩
  | true =>
    have H2 : Hid (hnB L n = hasB L n) := by show _ = _; rw [unhide HE, hg]; rfl
    rw [hg] at HG
    clear HE hg
    go_enter Try.func14, Try.ntmps14
    go_wp2_with fail
    refine (unhide HG).mono ?_
    rintro e w1 ⟨rfl, b1⟩
    have B1 := hide b1
    clear b1
    go_wp2_with fail
    refine (unhide HI _ (unhide B1)).mono ?_
    rintro e w2 ⟨rfl, b2⟩
    have B2 := hide ((unhide B1).trans (b2.mono (unhide B1).size))
    clear b2
    go_wp2
    go_ret2
    exact ⟨by rw [unhide H2]; rfl, unhide B2⟩
end Go.Proofs.Ythjciigcipblpaa.Rc
