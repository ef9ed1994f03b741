/-
  Contract: two rows of the same ranges are the same.
-/
import Derived.Test.YthjciigcipblpaaRga
import Derived.Laws.StructEq
namespace Go.Proofs.Ythjciigcipblpaa.Rc
open Go.ChangeShapes Go.WideShapes Go.ChangeAt Go.RowKit Go.Deep
set_option linter.unusedVariables false
set_option maxRecDepth 100000

set_option maxHeartbeats 2000000 in
theorem sameR_yes (a a' : Option Addr) (cap cap' : Nat) (L : List RangeD) (w : World) (hN : L.length ≤ 1048576) (h : Rd rangeK w a L) (h' : Rd rangeK w a' L) :
    Calls Try.prog 8 #[.slice a L.length cap, .slice a' L.length cap'] w fun e w' => e = .returned (.bool true) ∧ Below w.heap.size w w' := by
  have HR := hide h
  have HR' := hide h'
  clear h h'
  go_enter Try.func8, Try.ntmps8
  go_wp2
  go_loopw [13] (fun i wr => ∃ k : Nat, k ≤ L.length ∧ i = .int .i64 k ∧ Below w.heap.size w wr) (fun i _ => L.length - (intOf i).toNat)
  case atStart => exact ⟨0, Nat.zero_le _, rfl, Below.refl _ _⟩
  case round =>
    obtain ⟨k, hk, rfl, hbel⟩ := hrel
    by_cases hlt : k < L.length
    · rcases (unhide HR).below hbel with h0 | ⟨b, o, rfl, _, hel⟩
      · rw [h0] at hlt; exact absurd hlt (Nat.not_lt_zero _)
      rcases (unhide HR').below hbel with h0 | ⟨b', o', rfl, _, hel'⟩
      · rw [h0] at hlt; exact absurd hlt (Nat.not_lt_zero _)
      have c0 := range_r0 hel hlt
      have c1 := range_r1 hel hlt
      have d0 := range_r0 hel' hlt
      have d1 := range_r1 hel' hlt
      clear hel hel'
      have hnk : (k : Int) < (L.length : Int) := by omega
      have hk0 : (0 : Int) ≤ (k : Int) := by omega
      go_wp2_with fail
      go_quiet (fail)
      go_wp2
      exact ⟨⟨k + 1, by omega, by go_num, below_drewN hbel _⟩, by simp [intOf]; omega⟩
    · go_wp2
      go_ret
      exact ⟨rfl, hbel⟩
end Go.Proofs.Ythjciigcipblpaa.Rc
