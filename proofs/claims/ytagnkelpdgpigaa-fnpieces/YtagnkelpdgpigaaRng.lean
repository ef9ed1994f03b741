/-
  Contracts: lists of ranges, as the program and the model look at them.
-/
import Derived.Test.YtagnkelpdgpigaaBase
import Derived.WalkKit
import Derived.ProofKit
import Derived.OpenShut
import Derived.ShutString
import Derived.WalkSpells
import Derived.WalkSmall
import Derived.Deep.QuietTactic
import Derived.BigQuiet
namespace Go.Proofs.Ytagnkelpdgpigaa
open Go.ChangeShapes Go.WideShapes Go.ChangeAt Go.RowKit
set_option linter.unusedVariables false

/-- A slice of n ranges at a: nil, or cells that hold From and To of each. -/
structure Rr (w : World) (b off n : Nat) (F T : Nat → Int) : Prop where
  lt : n = 0 ∨ b < w.heap.size
  cf : ∀ i, i < n → w.cell? ⟨b, off + i * 2, none⟩ = some (.int .i64 (F i))
  ct : ∀ i, i < n → w.cell? ⟨b, off + i * 2 + 1, none⟩ = some (.int .i64 (T i))
  bf : ∀ i, i < n → -9223372036854775808 ≤ F i ∧ F i ≤ 9223372036854775807
  bt : ∀ i, i < n → -9223372036854775808 ≤ T i ∧ T i ≤ 9223372036854775807
theorem Rr.below {w w' : World} {b off n : Nat} {F T : Nat → Int} (h : Rr w b off n F T) (hb : Below w.heap.size w w') : Rr w' b off n F T := by
  refine ⟨?_, ?_, ?_, h.bf, h.bt⟩
  · rcases h.lt with h1 | h1
    · exact Or.inl h1
    · exact Or.inr (Nat.lt_of_lt_of_le h1 hb.size)
  · intro i hi
    rcases h.lt with h1 | h1
    · omega
    · exact (hb.cell (p := ⟨b, off + i * 2, none⟩) h1).trans (h.cf i hi)
  · intro i hi
    rcases h.lt with h1 | h1
    · omega
    · exact (hb.cell (p := ⟨b, off + i * 2 + 1, none⟩) h1).trans (h.ct i hi)
/-- a good range behind the one ahead of it -/
def okR (F T : Nat → Int) (i : Nat) : Bool := decide (0 ≤ F i ∧ F i ≤ T i ∧ T i ≤ 4611686018427387903 ∧ (i = 0 ∨ T i ≤ F (i - 1) - 2))
def allR (F T : Nat → Int) (n : Nat) : Bool := (List.range n).all (okR F T)
theorem allR_no {F T : Nat → Int} {n k : Nat} (hk : k < n) (h : okR F T k = false) : allR F T n = false := by
  unfold allR
  rw [List.all_eq_false]
  exact ⟨k, List.mem_range.2 hk, by simp [h]⟩
theorem allR_yes {F T : Nat → Int} {n : Nat} (h : ∀ j, j < n → okR F T j = true) : allR F T n = true := by
  unfold allR
  rw [List.all_eq_true]
  exact fun j hj => h j (List.mem_range.1 hj)

theorem bdrew {B : Nat} {a w : World} (n : Nat) (h : Below B a w) : Below B a (w.drewN n) := below_drewN h n
theorem okR_zero {F T : Nat → Int} (h : 0 ≤ F 0 ∧ F 0 ≤ T 0 ∧ T 0 ≤ 4611686018427387903) : okR F T 0 = true := by simp [okR]; omega
theorem okR_succ {F T : Nat → Int} {j : Nat} (h : 0 ≤ F (j + 1) ∧ F (j + 1) ≤ T (j + 1) ∧ T (j + 1) ≤ 4611686018427387903) (hq : T (j + 1) ≤ F j - 2) : okR F T (j + 1) = true := by
  unfold okR; rw [decide_eq_true_eq]; exact ⟨h.1, h.2.1, h.2.2, Or.inr (by simpa using hq)⟩
theorem okR_no {F T : Nat → Int} {k : Nat} (h : ¬ (0 ≤ F k ∧ F k ≤ T k ∧ T k ≤ 4611686018427387903)) : okR F T k = false := by
  unfold okR; rw [decide_eq_false_iff_not]; omega
theorem okR_no_succ {F T : Nat → Int} {j : Nat} (hq : ¬ T (j + 1) ≤ F j - 2) : okR F T (j + 1) = false := by
  unfold okR; rw [decide_eq_false_iff_not]; simp; omega
theorem okR_lo {F T : Nat → Int} {k : Nat} (h : okR F T k = true) : 0 ≤ F k ∧ F k ≤ 4611686018427387903 := by
  unfold okR at h; rw [decide_eq_true_eq] at h; omega
theorem upto_succ {P : Nat → Bool} {k : Nat} (h : ∀ j, j < k → P j = true) (hk : P k = true) : ∀ j, j < k + 1 → P j = true := by
  intro j hj
  by_cases e : j = k
  · rw [e]; exact hk
  · exact h j (by omega)

set_option maxHeartbeats 1000000 in
theorem falling_any (b off n cap : Nat) (F T : Nat → Int) (w : World) (hn : n ≤ 1048576) (h : Rr w b off n F T) :
    Calls Try.prog 20 #[.slice (some ⟨b, off, none⟩) n cap] w fun e w' => e = .returned (.bool (allR F T n)) ∧ Below w.heap.size w w' := by
  have HR := h
  go_enter Try.func20, Try.ntmps20
  go_wp2
  go_loopw [7] (fun i wr => ∃ k : Nat, k ≤ n ∧ i = .int .i64 k ∧ (∀ j, j < k → okR F T j = true) ∧ Below w.heap.size w wr) (fun i _ => n - (intOf i).toNat)
  case atStart => exact ⟨0, Nat.zero_le _, rfl, fun j hj => by omega, Below.refl _ _⟩
  case round =>
    obtain ⟨k, hk, rfl, hok, hbel⟩ := hrel
    by_cases hlt : k < n
    · have hR := HR.below hbel
      have hcf := hR.cf k hlt
      have hct := hR.ct k hlt
      have hbf := hR.bf k hlt
      have hbt := hR.bt k hlt
      have hbs := hbel.size
      by_cases hg : 0 ≤ F k ∧ F k ≤ T k ∧ T k ≤ 4611686018427387903
      · have HG := hide hg
        obtain ⟨hg1, hg2, hg3⟩ := hg
        cases k with
        | zero =>
          clear hok
          simp only [Nat.zero_mul, Nat.add_zero] at hcf hct
          go_wp2
          go_quiet (fail)
          go_wp2
          exact ⟨⟨1, by omega, rfl, upto_succ (k := 0) (fun j hj => by omega) (okR_zero (unhide HG)), bdrew _ (hbel.alloc hbs _)⟩, by simp [intOf]; omega⟩
        | succ j =>
          have hp := okR_lo (hok j (by omega))
          obtain ⟨hp1, hp2⟩ := hp
          have hcp := hR.cf j (by omega)
          have HO := hide hok
          have wj : IntKind.i64.wrap (j : Int) = j := wraps_i64 _ (by omega) (by omega)
          have wf : IntKind.i64.wrap (F j - 2) = F j - 2 := by rw [IntKind.wrap_i64]; omega
          have hj0 : (0 : Int) ≤ (j : Int) := by omega
          have hjn : (j : Int) < (n : Int) := by omega
          have hbw : b < wr.heap.size := by rcases hR.lt with h1 | h1 <;> omega
          clear hok
          by_cases hq : T (j + 1) ≤ F j - 2
          · have HQ := hide hq
            go_wp2
            go_quiet (fail)
            go_wp2
            exact ⟨⟨j + 2, by omega, by go_num, upto_succ (unhide HO) (okR_succ (unhide HG) (unhide HQ)), bdrew _ (hbel.alloc hbs _)⟩, by simp [intOf]; omega⟩
          · have HQ : Hid (allR F T n = false) := allR_no hlt (okR_no_succ hq)
            go_wp2
            go_quiet (fail)
            go_wp2
            go_ret
            exact ⟨by rw [unhide HQ]; rfl, bdrew _ (hbel.alloc hbs _)⟩
      · have HN : Hid (allR F T n = false) := allR_no hlt (okR_no hg)
        clear hok
        by_cases h1 : 0 ≤ F k
        · by_cases h2 : F k ≤ T k
          · have h3 : 4611686018427387903 < T k := by omega
            clear hg
            go_wp2
            go_ret
            exact ⟨by rw [unhide HN]; rfl, hbel.alloc hbs _⟩
          · clear hg
            go_wp2
            go_ret
            exact ⟨by rw [unhide HN]; rfl, hbel.alloc hbs _⟩
        · clear hg
          go_wp2
          go_ret
          exact ⟨by rw [unhide HN]; rfl, hbel.alloc hbs _⟩
    · go_wp2
      go_ret
      exact ⟨by rw [allR_yes (fun j hj => hok j (by omega))]; rfl, hbel⟩

theorem l1In_yes (n lo hi : Int) (w : World) (h1 : lo ≤ n) (h2 : n ≤ hi) :
    Calls Try.prog 15 #[.int .i64 n, .int .i64 lo, .int .i64 hi] w fun e w' => e = .returned (.bool true) ∧ w' = w := by
  go_enter Try.func15, Try.ntmps15
  go_wp2
  go_ret
  exact ⟨by simp, rfl⟩
theorem l1In_no (n lo hi : Int) (w : World) (h : ¬ (lo ≤ n ∧ n ≤ hi)) :
    Calls Try.prog 15 #[.int .i64 n, .int .i64 lo, .int .i64 hi] w fun e w' => e = .returned (.bool false) ∧ w' = w := by
  by_cases h1 : lo ≤ n
  · have h2 : decide (n ≤ hi) = false := by simp; omega
    clear h
    go_enter Try.func15, Try.ntmps15
    go_wp2
    go_ret
    exact ⟨rfl, rfl⟩
  · have h2 : decide (lo ≤ n) = false := by simp; omega
    clear h
    go_enter Try.func15, Try.ntmps15
    go_wp2
    go_ret
    exact ⟨rfl, rfl⟩
theorem l1Known_yes (n : Int) (w : World) (h1 : 0 ≤ n) (h2 : n ≤ 4611686018427387903) :
    Calls Try.prog 26 #[.int .i64 n] w fun e w' => e = .returned (.bool true) ∧ w' = w := by
  have HI := hide (fun w => l1In_yes n 0 4611686018427387903 w h1 h2)
  go_enter Try.func26, Try.ntmps26
  go_wp2_with (go_at_call 15; refine (unhide HI _).mono ?_; rintro e w' ⟨rfl, rfl⟩)
  go_ret
  exact ⟨rfl, rfl⟩
theorem l1Known_no (n : Int) (w : World) (h : ¬ (0 ≤ n ∧ n ≤ 4611686018427387903)) :
    Calls Try.prog 26 #[.int .i64 n] w fun e w' => e = .returned (.bool false) ∧ w' = w := by
  have HI := hide (fun w => l1In_no n 0 4611686018427387903 w h)
  clear h
  go_enter Try.func26, Try.ntmps26
  go_wp2_with (go_at_call 15; refine (unhide HI _).mono ?_; rintro e w' ⟨rfl, rfl⟩)
  go_ret
  exact ⟨rfl, rfl⟩

end Go.Proofs.Ytagnkelpdgpigaa
