/-
  The law on ReadFields, walked.
-/
import Derived.Test.YtidgjjbdabifnabDoorReadFieldsG
namespace Go.Proofs.YtidgjjbdabifnabDoor.fnExactReadFields
open Go.ChangeShapes Go.WideShapes Go.ChangeAt Go.RowKit Go.Deep Rc
set_option linter.unusedVariables false
set_option maxRecDepth 100000

theorem rdI_len (l : List UInt8) : ((rdI l).getD []).length ≤ 1048576 := by
  cases h : rdI l with
  | none => exact Nat.zero_le _
  | some L =>
    have hg := (chk_some h).1
    unfold gdF at hg
    rw [Bool.and_eq_true, decide_eq_true_eq] at hg
    show L.length ≤ _
    omega
theorem specR (s : ByteArray) (hs : s.size ≤ 1048576) (W : World) :
    Calls Tryd.prog 5 #[.string s] W fun e w' => ∃ (a : Option Addr) (c : Nat), e = .returned (.tuple #[.slice a ((rdI s.data.toList).getD []).length c, .bool (rdI s.data.toList).isSome]) ∧ Rd fieldK w' a ((rdI s.data.toList).getD []) ∧ Below W.heap.size W w' := by
  have H := hide (specRF s W hs)
  rw [← rd_same] at H
  generalize rdI s.data.toList = o at *
  go_enter Tryd.func5, Tryd.ntmps5
  go_wp2_with fail
  refine (unhide H).mono ?_
  rintro e w1 ⟨⟨a, c, rfl, R⟩, B⟩
  have HP := hide (And.intro (ro_rix R).1.rd B)
  clear R B H
  go_wp2
  go_ret2
  exact ⟨a, c, rfl, unhide HP⟩
theorem walk (s : ByteArray) (_ : s.size ≤ maxLen) (w : World) (hS : Sf w) :
    Calls Tryd.prog 3 #[.string s] w fun e w' => e = .returned (.bool true) ∧ Below w.heap.size w w' :=
  readFields_given s ((rdI s.data.toList).getD []) (rdI s.data.toList).isSome w (rdI_len _) (fun hs W => specR s hs W) (fun hs W b => (implRF s W hs (hS.below b)).mono fun e w' ⟨⟨a, c, he, R⟩, B⟩ => ⟨a, c, he, (ro_rix R).1, B⟩)
end Go.Proofs.YtidgjjbdabifnabDoor.fnExactReadFields
