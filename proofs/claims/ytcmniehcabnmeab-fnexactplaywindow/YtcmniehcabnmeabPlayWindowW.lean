/-
  The law on PlayWindow, walked.
-/
import Derived.Test.YtcmniehcabnmeabPlayWindowG
import Derived.Test.YtcmniehcabnmeabPlayWindowI
import Derived.Test.YtcmniehcabnmeabOpGrow
namespace Go.Proofs.Ytcmniehcabnmeab.fnExactPlayWindow
open Go.ChangeShapes Go.WideShapes Go.ChangeAt Go.RowKit Rc
set_option linter.unusedVariables false

theorem pwLen (L : List GrowD) : (pwL L (pwB L)).length ≤ 1048576 := by
  cases h : pwB L with
  | false => exact Nat.zero_le _
  | true =>
    have h1 := of_decide_eq_true h
    show (pwS nwD L).length ≤ 1048576
    rw [pwS_len]
    omega
theorem walk (a : Option Addr) (c : Nat) (L : List GrowD) (m : L.length ≤ maxLen) (k : L.length ≤ c) (o : ∀ i, i < L.length → okGrow (gt growK L i)) (w : World) (h : Rd growK w a L) :
    Calls Try.prog 4 #[.slice a L.length c] w fun e w' => e = .returned (.bool true) ∧ Below w.heap.size w w' :=
  playWindow_given L (pwD L (pwB L)) (pwL L (pwB L)) (pwB L) w a c m h (pwLen L) (fun hm W a c h => specPW L hm W a c h) (fun hm W a c h => implPW L hm o W a c h)
end Go.Proofs.Ytcmniehcabnmeab.fnExactPlayWindow
