/-
  Contracts: a text with one bit turned.
-/
import Derived.Test.YtldlhdohkghikaaGba
import Derived.Test.YtldlhdohkghikaaDra
namespace Go.Proofs.Ytldlhdohkghikaa
open Go.ChangeShapes Go.WideShapes Go.ChangeAt Go.RowKit
set_option linter.unusedVariables false

theorem turn_ne : ∀ x : Fin 256, ∀ j : Fin 8, (x : Nat) ^^^ 2 ^ (j : Nat) ≠ (x : Nat) := by decide +kernel
theorem pow8 (j : Nat) (h : j < 8) : (2 : Int) ^ j % 256 = ((2 ^ j : Nat) : Int) ∧ 2 ^ j < 256 := by
  have e : j = 0 ∨ j = 1 ∨ j = 2 ∨ j = 3 ∨ j = 4 ∨ j = 5 ∨ j = 6 ∨ j = 7 := by omega
  rcases e with rfl | rfl | rfl | rfl | rfl | rfl | rfl | rfl <;> exact ⟨by decide, by decide⟩
/-- one bit turned -/
def trB (f : Nat → Nat) (q j i : Nat) : Nat := if i = q then f q ^^^ 2 ^ j else f i
theorem trB_lt (f : Nat → Nat) (hf : ∀ i, f i < 256) (q j : Nat) (hj : j < 8) (i : Nat) : trB f q j i < 256 := by
  unfold trB
  split
  · exact xor_lt _ _ (hf q) (pow8 j hj).2
  · exact hf i
theorem trB_ne (s : ByteArray) (q j : Nat) (hq : q < 16) (hj : j < 8) : bq 16 (trB (at8 s) q j) ≠ s := fun e => by
  have h := at8_bq 16 (trB (at8 s) q j) q hq (trB_lt _ (at8_lt s) q j hj q)
  rw [e] at h
  unfold trB at h
  rw [if_pos rfl] at h
  exact turn_ne ⟨at8 s q, at8_lt s q⟩ ⟨j, hj⟩ h.symm
set_option maxRecDepth 100000 in
set_option maxHeartbeats 1000000 in
theorem turned16 (s : ByteArray) (hs : s.size = 16) (r : Nat) (hr : r < 1000003) (w : World) :
    Calls Try.prog 12 #[.string s, .int .i64 r] w fun e w' => ∃ t : ByteArray, e = .returned (.string t) ∧ t.size = 16 ∧ t ≠ s ∧ Below w.heap.size w w' := by
  go_enter Try.func12, Try.ntmps12
  go_wp2_with fail
  obtain ⟨cap, W, hcv, hbW, hcW, hsz⟩ := conv_ar w s
  rw [hcv, hs]
  rw [hs] at hcW
  have hq : r % 128 / 8 < 16 := by omega
  have hj : r % 8 < 8 := by omega
  have c0 := hcW.c0 (r % 128 / 8) hq
  have f0 := hcW.f0 (r % 128 / 8) hq
  have e1 := xorI (at8 s (r % 128 / 8)) (2 ^ (r % 8)) (at8_lt s _) (pow8 _ hj).2
  rw [← (pow8 _ hj).1] at e1
  have A1 := hcW.put0 (g := trB (at8 s) (r % 128 / 8) (r % 8)) (x := at8 s (r % 128 / 8) ^^^ 2 ^ (r % 8)) hq (by unfold trB; rw [if_pos rfl]) (fun i _ hne => by unfold trB; rw [if_neg hne])
  have B1 := hide (hbW.setCell (p := ⟨w.heap.size, r % 128 / 8, none⟩) (Nat.le_refl _) (.int .u8 ((at8 s (r % 128 / 8) ^^^ 2 ^ (r % 8) : Nat) : Int)))
  have hst := hide (ar_string A1 (fun i _ => trB_lt _ (at8_lt s) _ _ hj i) cap)
  have hne := hide (trB_ne s (r % 128 / 8) (r % 8) hq hj)
  have hz := hide (bq_size 16 (trB (at8 s) (r % 128 / 8) (r % 8)))
  have E1 := hide e1
  generalize bq 16 (trB (at8 s) (r % 128 / 8) (r % 8)) = t at *
  clear hcv hcW hbW hsz A1 hq hj e1
  go_wp2_with fail
  rw [unhide E1, unhide hst]
  go_wp2
  go_ret
  exact ⟨t, rfl, unhide hz, unhide hne, unhide B1⟩
end Go.Proofs.Ytldlhdohkghikaa
