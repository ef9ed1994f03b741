/-
  Contracts: two headers held against each other.
-/
import Derived.Test.YtmncpjikijbalaaHcp
namespace Go.Proofs.Ytmncpjikijbalaa
open Go.ChangeShapes Go.WideShapes Go.ChangeAt Go.RowKit
set_option linter.unusedVariables false
set_option maxRecDepth 100000

set_option maxHeartbeats 1000000 in
theorem sameInts_yes (b off n cap b' off' cap' : Nat) (V : Nat → Int) (w : World) (hn : n ≤ 1048576) (h : Ir w b off n V) (h' : Ir w b' off' n V) :
    Calls Try.prog 31 #[.slice (some ⟨b, off, none⟩) n cap, .slice (some ⟨b', off', none⟩) n cap'] w fun e w' => e = .returned (.bool true) ∧ Below w.heap.size w w' := by
  have HR := hide h
  have HR' := hide h'
  clear h h'
  go_enter Try.func31, Try.ntmps31
  go_wp2
  go_loopw [13] (fun i wr => ∃ k : Nat, k ≤ n ∧ i = .int .i64 k ∧ Below w.heap.size w wr) (fun i _ => n - (intOf i).toNat)
  case atStart => exact ⟨0, Nat.zero_le _, rfl, Below.refl _ _⟩
  case round =>
    obtain ⟨k, hk, rfl, hbel⟩ := hrel
    by_cases hlt : k < n
    · have hR := (unhide HR).below hbel
      have hcf := hR.cv k hlt
      have hR' := (unhide HR').below hbel
      have hcf' := hR'.cv k hlt
      have hnk : (k : Int) < (n : Int) := by omega
      have hk0 : (0 : Int) ≤ (k : Int) := by omega
      go_wp2_with fail
      go_quiet (fail)
      all_goals
        go_wp2
        exact ⟨⟨k + 1, by omega, by go_num, below_drewN hbel _⟩, by simp [intOf]; omega⟩
    · go_wp2
      go_ret
      exact ⟨rfl, hbel⟩
theorem sameInts_nil (a a' : Option Addr) (cap cap' : Nat) (w : World) :
    Calls Try.prog 31 #[.slice a 0 cap, .slice a' 0 cap'] w fun e w' => e = .returned (.bool true) ∧ Below w.heap.size w w' := by
  go_enter Try.func31, Try.ntmps31
  go_wp2
  go_loopw [13] (fun i wr => i = .int .i64 0 ∧ Below w.heap.size w wr) (fun i _ => 0)
  case atStart => exact ⟨rfl, Below.refl _ _⟩
  case round =>
    obtain ⟨rfl, hbel⟩ := hrel
    go_wp2
    go_ret
    exact ⟨rfl, hbel⟩
theorem sameInts_any (a a' : Option Addr) (n cap cap' : Nat) (V : Nat → Int) (w : World) (hn : n ≤ 1048576) (h : Ia w a n cap V) (h' : Ia w a' n cap' V) :
    Calls Try.prog 31 #[.slice a n cap, .slice a' n cap'] w fun e w' => e = .returned (.bool true) ∧ Below w.heap.size w w' := by
  rcases h with h0 | ⟨b, off, rfl, h⟩
  · subst h0
    exact sameInts_nil a a' cap cap' w
  · rcases h' with h0 | ⟨b', off', rfl, h'⟩
    · subst h0
      exact sameInts_nil _ a' cap cap' w
    · exact sameInts_yes b off n cap b' off' cap' V w hn h h'
set_option maxHeartbeats 1000000 in
theorem sameHd (f bi ve : Int) (d s t p : ByteArray) (ra ra' : Option Addr) (n cap cap' : Nat) (V : Nat → Int) (w : World) (hn : n ≤ 1048576) (h : Ia w ra n cap V) (h' : Ia w ra' n cap' V) :
    Calls Try.prog 12 #[hv f bi ve d s t p ra n cap, hv f bi ve d s t p ra' n cap'] w fun e w' => e = .returned (.bool true) ∧ Below w.heap.size w w' := by
  have HS := hide (fun (W : World) (b : Below w.heap.size w W) => sameInts_any ra ra' n cap cap' V W hn (h.below b) (h'.below b))
  clear h h'
  go_enter Try.func12, Try.ntmps12
  go_wp2_with fail
  refine (unhide HS _ (((Below.refl _ _).alloc (Nat.le_refl _) _).alloc (by simp) _)).mono ?_
  rintro e w2 ⟨rfl, b2⟩
  go_wp2
  go_ret
  exact ⟨rfl, (((Below.refl _ _).alloc (Nat.le_refl _) _).alloc (by simp) _).trans (b2.mono (by simp; omega))⟩
end Go.Proofs.Ytmncpjikijbalaa
