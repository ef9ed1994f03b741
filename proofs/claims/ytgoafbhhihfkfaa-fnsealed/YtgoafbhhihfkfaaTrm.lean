/-
  Contracts: a text with one bit turned, of any length.
-/
import Derived.Test.YtgoafbhhihfkfaaGfpX
import Derived.Test.YtgoafbhhihfkfaaArrX
namespace Go.Proofs.Ytgoafbhhihfkfaa
open Go.ChangeShapes Go.WideShapes Go.ChangeAt Go.RowKit
set_option linter.unusedVariables false

theorem turn_none : ∀ x : Fin 256, ∀ j : Fin 8, (x : Nat) ^^^ 2 ^ (j : Nat) ≠ (x : Nat) := by decide +kernel
theorem pow_8 (j : Nat) (h : j < 8) : (2 : Int) ^ j % 256 = ((2 ^ j : Nat) : Int) ∧ 2 ^ j < 256 := by
  have e : j = 0 ∨ j = 1 ∨ j = 2 ∨ j = 3 ∨ j = 4 ∨ j = 5 ∨ j = 6 ∨ j = 7 := by omega
  rcases e with rfl | rfl | rfl | rfl | rfl | rfl | rfl | rfl <;> exact ⟨by decide, by decide⟩
/-- one bit turned -/
def tuB (f : Nat → Nat) (q d i : Nat) : Nat := if i = q then f q ^^^ d else f i
theorem tuB_lt (f : Nat → Nat) (hf : ∀ i, f i < 256) (q d : Nat) (hd : d < 256) (i : Nat) : tuB f q d i < 256 := by
  unfold tuB
  split
  · exact xor_lt _ _ (hf q) hd
  · exact hf i
/-- a text with the byte q xored with d -/
def tuW (s : ByteArray) (q d : Nat) : ByteArray := bq s.size (tuB (at8 s) q d)
theorem tuW_size (s : ByteArray) (q d : Nat) : (tuW s q d).size = s.size := bq_size _ _
theorem tuW_at (s : ByteArray) (q d : Nat) (hd : d < 256) (i : Nat) (hi : i < s.size) : at8 (tuW s q d) i = tuB (at8 s) q d i := at8_bq _ _ i hi (tuB_lt _ (at8_lt s) q d hd i)
set_option maxRecDepth 100000 in
set_option maxHeartbeats 1000000 in
theorem turnedN (s : ByteArray) (hs : 0 < s.size) (hsm : s.size ≤ 10000) (r : Nat) (hr : r < 1000003) (w : World) :
    Calls Try.prog 24 #[.string s, .int .i64 r] w fun e w' => ∃ q d : Nat, q < s.size ∧ 0 < d ∧ d < 256 ∧ e = .returned (.string (tuW s q d)) ∧ Below w.heap.size w w' := by
  obtain ⟨n, hn⟩ : ∃ n : Nat, s.size = n := ⟨_, rfl⟩
  rw [hn] at hs hsm
  obtain ⟨k, hk⟩ : ∃ k : Nat, k = r % (8 * n) := ⟨_, rfl⟩
  have hkl : k < 8 * n := by rw [hk]; exact Nat.mod_lt _ (by omega)
  have hkI : Int.tmod (r : Int) (8 * (n : Int)) = (k : Int) := by
    rw [Int.tmod_eq_emod_of_nonneg (by omega), hk]
    simp
  have hkE : (r : Int) % (8 * (n : Int)) = (k : Int) := by rw [hk]; simp
  have h8n : ¬ (8 * (n : Int) = 0) := by omega
  have hq : k / 8 < n := by omega
  have hj : k % 8 < 8 := by omega
  go_enter Try.func24, Try.ntmps24
  go_wp2_with fail
  obtain ⟨cap, W, hcv, hbW, hcW, hsz⟩ := conv_ar w s
  rw [hcv, hn]
  rw [hn] at hcW
  have c0 := hcW.c0 (k / 8) hq
  have f0 := hcW.f0 (k / 8) hq
  have e1 := xorI (at8 s (k / 8)) (2 ^ (k % 8)) (at8_lt s _) (pow_8 _ hj).2
  rw [← (pow_8 _ hj).1] at e1
  have A1 := hcW.put0 (g := tuB (at8 s) (k / 8) (2 ^ (k % 8))) (x := at8 s (k / 8) ^^^ 2 ^ (k % 8)) hq (by unfold tuB; rw [if_pos rfl]) (fun i _ hne => by unfold tuB; rw [if_neg hne])
  have B1 := hide (hbW.setCell (p := ⟨w.heap.size, k / 8, none⟩) (Nat.le_refl _) (.int .u8 ((at8 s (k / 8) ^^^ 2 ^ (k % 8) : Nat) : Int)))
  have hst := hide (ar_string A1 (fun i _ => tuB_lt _ (at8_lt s) _ _ (pow_8 _ hj).2 i) cap)
  have E1 := hide e1
  have HK := hide (And.intro hk hn)
  clear hcv hcW hbW hsz A1 e1 hk
  go_wp2_with fail
  rw [unhide E1, unhide hst]
  go_wp2
  go_ret
  exact ⟨k / 8, 2 ^ (k % 8), by rw [(unhide HK).2]; exact hq, Nat.two_pow_pos _, (pow_8 _ hj).2, by unfold tuW; rw [(unhide HK).2]; rfl, unhide B1⟩
end Go.Proofs.Ytgoafbhhihfkfaa
