/-
  The law on KnownCapsules, walked.
-/
import Derived.Test.YtgieglpjkjncfaaKnownCapsulesG
import Derived.Test.YtgieglpjkjncfaaOpCapsule
namespace Go.Proofs.Ytgieglpjkjncfaa.fnExactKnownCapsules
open Go.ChangeShapes Go.WideShapes Go.ChangeAt Go.RowKit Rc
set_option linter.unusedVariables false

theorem ro_rd {α : Type} {K : Kd α} {e : TypeId} {base : Nat} {w : World} {a : Option Addr} {n c : Nat} {L : List α} (h : Ro K e base w (.slice a n c) L) : Ri K base w.heap.size w a L := by
  obtain ⟨a', c', hv, _, ri⟩ := h.form
  injection hv with h1 h2 h3
  subst h1
  exact ri
theorem knC_len (L : List CapsuleD) : (knC L).length ≤ 1048576 := by
  unfold knC
  split
  · rename_i h
    unfold gdL at h
    rw [Bool.and_eq_true, decide_eq_true_eq] at h
    have := knF_len L
    omega
  · exact Nat.zero_le _
theorem walk (a : Option Addr) (c : Nat) (L : List CapsuleD) (m : L.length ≤ maxLen) (k : L.length ≤ c) (o : ∀ i, i < L.length → okCapsule (gt capsuleK L i)) (w : World) (h : Rd capsuleK w a L) :
    Calls Try.prog 4 #[.slice a L.length c] w fun e w' => e = .returned (.bool true) ∧ Below w.heap.size w w' :=
  knownCapsules_given L (knC L) (gdL L) w a c m (fun i hi => (o i hi).2) h (knC_len L)
    (fun hm ho W a c h => (specKC L a c W hm ho h).mono fun e w' ⟨⟨a, c, he, R⟩, B⟩ => ⟨a, c, he, (ro_rd R).rd, B⟩)
    (fun hm ho W a c h => (implKC L a c W hm ho h).mono fun e w' ⟨⟨a, c, he, R⟩, B⟩ => ⟨a, c, he, ro_rd R, B⟩)
end Go.Proofs.Ytgieglpjkjncfaa.fnExactKnownCapsules
