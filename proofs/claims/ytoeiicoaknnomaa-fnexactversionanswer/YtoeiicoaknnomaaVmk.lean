/-
  Contracts for the law on VersionAnswer: marks of headers, headers held against each other where both are zero.
-/
import Derived.Test.YtoeiicoaknnomaaVai
namespace Go.Proofs.Ytoeiicoaknnomaa.fnExactVersionAnswer
open Go.ChangeShapes Go.WideShapes Go.ChangeAt Go.RowKit
set_option linter.unusedVariables false

theorem eqIntS_nil (a b : Option Addr) (cap cap' : Nat) (w : World) :
    Calls Try.prog 10 #[.slice a 0 cap, .slice b 0 cap'] w fun e w' => e = .returned (.bool true) ∧ Below w.heap.size w w' := by
  go_enter Try.func10, Try.ntmps10
  go_wp2
  refine wp_loop_rounds 1 ?_
  rw [rounds_succ]
  go_wp2
  go_ret
  exact ⟨rfl, Below.refl _ _⟩
theorem eqHeader_h0 (w : World) : Calls Try.prog 9 #[h0, h0] w fun e w' => e = .returned (.bool true) ∧ Below w.heap.size w w' := by
  have HB := hide (fun W => eqIntS_nil none none 0 0 W)
  go_enter Try.func9, Try.ntmps9
  go_wp2_with (go_at_call 10; refine (unhide HB _).mono ?_; rintro e w2 ⟨rfl, hb2⟩)
  go_ret
  exact ⟨rfl, (((Below.refl _ _).alloc (Nat.le_refl _) _).alloc (by simp) _).trans (hb2.mono (by simp; omega))⟩
theorem markHeader_w (f bi ve : Int) (d s t p : ByteArray) (base g n cap : Nat) (V : Nat → Int) (w : World) (hn : n ≤ 1048576) (hI : Iw w base g n V) (k0 : Int) (hk0 : 0 ≤ k0) (hk1 : k0 ≤ 10000000) :
    Calls Try.prog 11 #[hv f bi ve d s t p (some ⟨g, 0, none⟩) n cap, .int .i64 k0] w fun e w' => e = .returned (.int .i64 (k0 + n)) ∧ Iw w' base g n (mks k0) ∧ w'.heap.size = w.heap.size + 1 ∧ (∀ k, k < w.heap.size → k ≠ g → w'.heap[k]? = w.heap[k]?) ∧ Below base w w' := by
  have HI := hide hI
  have hge := hI.ge
  have hlt := hI.lt
  clear hI
  go_enter Try.func11, Try.ntmps11
  go_wp2_with fail
  refine (markIntS_w base g n cap V _ hn ((unhide HI).below ((Below.refl _ _).alloc (Nat.le_refl _) _)) k0 hk0 hk1).mono ?_
  rintro e w2 ⟨rfl, hI2, hK2⟩
  go_wp2
  go_ret
  refine ⟨rfl, hI2, by rw [hK2.size]; simp, fun k hk hne => ?_, ?_⟩
  · rw [hK2.block k hne, Below.heap_alloc _ _ _ hk]
  · exact ((Below.refl base w).alloc (by omega) _).trans (hK2.below hge)
theorem heldHeader_w (f bi ve : Int) (d s t p : ByteArray) (base g n cap : Nat) (w : World) (hn : n ≤ 1048576) (k0 : Int) (hk0 : 0 ≤ k0) (hk1 : k0 ≤ 10000000) (hI : Iw w base g n (mks k0)) :
    Calls Try.prog 13 #[hv f bi ve d s t p (some ⟨g, 0, none⟩) n cap, .int .i64 k0] w fun e w' => e = .returned (.int .i64 (k0 + n)) ∧ Below w.heap.size w w' := by
  have HI := hide hI
  clear hI
  have hk : ¬ k0 + (n : Int) < 0 := by omega
  go_enter Try.func13, Try.ntmps13
  go_wp2_with (go_at_call 23; refine (heldIntS_w base g n cap _ hn k0 hk0 hk1 ((unhide HI).below ((Below.refl _ _).alloc (Nat.le_refl _) _))).mono ?_; rintro e w2 ⟨rfl, rfl⟩)
  go_ret
  exact ⟨rfl, (Below.refl _ _).alloc (Nat.le_refl _) _⟩
theorem markHeader_h0 (k0 : Int) (w : World) : Calls Try.prog 11 #[h0, .int .i64 k0] w fun e w' => e = .returned (.int .i64 k0) ∧ Below w.heap.size w w' := by
  have HM := hide (fun W => markIntS_nil none 0 k0 W)
  go_enter Try.func11, Try.ntmps11
  go_wp2_with (go_at_call 12; refine (unhide HM _).mono ?_; rintro e w2 ⟨rfl, rfl⟩)
  go_ret
  exact ⟨rfl, (Below.refl _ _).alloc (Nat.le_refl _) _⟩
theorem heldHeader_h0 (k0 : Int) (hk : ¬ k0 < 0) (w : World) : Calls Try.prog 13 #[h0, .int .i64 k0] w fun e w' => e = .returned (.int .i64 k0) ∧ Below w.heap.size w w' := by
  have HM := hide (fun W => heldIntS_nil none 0 k0 W)
  go_enter Try.func13, Try.ntmps13
  go_wp2_with (go_at_call 23; refine (unhide HM _).mono ?_; rintro e w2 ⟨rfl, rfl⟩)
  go_ret
  exact ⟨rfl, (Below.refl _ _).alloc (Nat.le_refl _) _⟩
end Go.Proofs.Ytoeiicoaknnomaa.fnExactVersionAnswer
