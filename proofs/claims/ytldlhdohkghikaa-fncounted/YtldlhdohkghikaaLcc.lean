/-
  Contracts: the model's AesCounter.
-/
import Derived.Test.YtldlhdohkghikaaLco
namespace Go.Proofs.Ytldlhdohkghikaa
open Go.ChangeShapes Go.WideShapes Go.ChangeAt Go.RowKit
set_option linter.unusedVariables false

theorem specAC_ok (k s t : ByteArray) (h : k.size = 16 ∧ s.size = 16 ∧ t.size ≤ 1500) (w : World) :
    Calls Try.prog 17 #[.string k, .string s, .string t] w fun e w' => e = .returned (.tuple #[.string (ctW k s t), .bool true]) ∧ Below w.heap.size w w' := by
  obtain ⟨hk, hs, ht⟩ := h
  have H1 := hide (fun W => specCounter k s t hk hs ht W)
  go_enter Try.func17, Try.ntmps17
  go_wp2_with fail
  refine (unhide H1 _).mono ?_
  rintro e w1 ⟨rfl, b1⟩
  have B1 := hide b1
  clear b1
  go_wp2
  go_ret2
  exact ⟨rfl, unhide B1⟩
theorem specAC_no (k s t : ByteArray) (h : ¬ (k.size = 16 ∧ s.size = 16 ∧ t.size ≤ 1500)) (hl : k.size ≤ 1048576) (hls : s.size ≤ 1048576) (hlt : t.size ≤ 1048576) (w : World) :
    Calls Try.prog 17 #[.string k, .string s, .string t] w fun e w' => e = .returned (.tuple #[.string ⟨#[]⟩, .bool false]) ∧ Below w.heap.size w w' := by
  by_cases hk : k.size = 16
  · by_cases hs : s.size = 16
    · have h1 : (1500 : Int) < (t.size : Int) := by omega
      go_enter Try.func17, Try.ntmps17
      go_wp2
      go_ret2
      exact ⟨rfl, Below.refl _ _⟩
    · have h1 : ((s.size : Int) != 16) = true := by simp; omega
      go_enter Try.func17, Try.ntmps17
      go_wp2
      go_ret2
      exact ⟨rfl, Below.refl _ _⟩
  · have h1 : ((k.size : Int) != 16) = true := by simp; omega
    go_enter Try.func17, Try.ntmps17
    go_wp2
    go_ret2
    exact ⟨rfl, Below.refl _ _⟩
end Go.Proofs.Ytldlhdohkghikaa
