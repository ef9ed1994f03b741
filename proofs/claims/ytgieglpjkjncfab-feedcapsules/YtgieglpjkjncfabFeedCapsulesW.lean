/-
  The law on FeedCapsules, walked.
-/
import Derived.Test.YtgieglpjkjncfabFeedCapsulesG
import Derived.Test.YtgieglpjkjncfabOpText
namespace Go.Proofs.Ytgieglpjkjncfab.fnExactFeedCapsules
open Go.ChangeShapes Go.WideShapes Go.ChangeAt Go.RowKit Rc
set_option linter.unusedVariables false

theorem feed_len (P : List ByteArray) : ((feed P).getD ([], 0)).1.length ≤ 1048576 := by
  cases h : feed P with
  | none => exact Nat.zero_le _
  | some x =>
    obtain ⟨L, n⟩ := x
    unfold feed at h
    split at h
    · cases ho : fdC (cat P).data.toList with
      | none => rw [ho] at h; cases h
      | some y =>
        obtain ⟨M, m⟩ := y
        rw [ho] at h
        unfold fedO at h
        injection h with h
        injection h with h _
        have := (fdC_k ho).2.1
        rw [h] at this
        show L.length ≤ _
        omega
    · cases h
theorem walk (a : Option Addr) (c : Nat) (L : List TextD) (m : L.length ≤ maxLen) (k : L.length ≤ c) (o : ∀ i, i < L.length → okText (gt textK L i)) (w : World) (h : Rd textK w a L) :
    Calls Try.prog 3 #[.slice a L.length c] w fun e w' => e = .returned (.bool true) ∧ Below w.heap.size w w' :=
  feedCapsules_given L ((feed L).getD ([], 0)).1 (((feed L).getD ([], 0)).2 : Int) (feed L).isSome w a c m (fun i hi => o i hi) h (feed_len L)
    (fun hm ho W a c h => (specFC L a c W hm ho h).mono fun e w' ⟨⟨a, c, he, R⟩, B⟩ => ⟨a, c, he, ro_rd R, B⟩)
    (fun hm ho W a c h => (implFC L a c W hm ho h).mono fun e w' ⟨⟨a, c, he, R⟩, B⟩ => ⟨a, c, he, ro_ri R, B⟩)
end Go.Proofs.Ytgieglpjkjncfab.fnExactFeedCapsules
