/-
  Rows of structs of several cells, as lists of cells.
-/
import Derived.Test.YtpjmnnaiegdjmaaDoorBase
namespace Go.Proofs.YtpjmnnaiegdjmaaDoor
open Go.ChangeShapes Go.WideShapes Go.ChangeAt Go.RowKit
set_option linter.unusedVariables false

theorem fl_len {α : Type} (f : α → List Value) (n : Nat) (hf : ∀ x, (f x).length = n) : ∀ L : List α, (L.flatMap f).length = L.length * n
  | [] => by simp
  | x :: L => by rw [List.flatMap_cons, List.length_append, hf, fl_len f n hf L, List.length_cons, Nat.add_mul]; omega
theorem fl_at {α : Type} (f : α → List Value) (n : Nat) (hf : ∀ x, (f x).length = n) (d : α) : ∀ (L : List α) (k j : Nat), k < L.length → j < n → (L.flatMap f)[k * n + j]? = (f (L.getD k d))[j]?
  | [], k, j, h, _ => absurd h (Nat.not_lt_zero _)
  | x :: L, 0, j, _, hj => by
    rw [List.flatMap_cons, Nat.zero_mul, Nat.zero_add, List.getElem?_append_left (by rw [hf]; exact hj)]
    rfl
  | x :: L, k + 1, j, h, hj => by
    rw [List.flatMap_cons, List.getElem?_append_right (by rw [hf, Nat.add_mul]; omega), hf, show (k + 1) * n + j - n = k * n + j by rw [Nat.add_mul]; omega, fl_at f n hf d L k j (by simpa using h) hj]
    rfl
theorem fl_get {α : Type} (f : α → List Value) (n : Nat) (hn : 0 < n) (hf : ∀ x, (f x).length = n) (d : α) (L : List α) (q : Nat) (u : Value) (h : (L.flatMap f)[q]? = some u) : ∃ k j, k < L.length ∧ j < n ∧ q = k * n + j ∧ (f (L.getD k d))[j]? = some u := by
  have hq : q < L.length * n := by
    have := (List.getElem?_eq_some_iff.1 h).1
    rw [fl_len f n hf] at this
    exact this
  have hk : q / n < L.length := Nat.div_lt_of_lt_mul (by rw [Nat.mul_comm]; exact hq)
  have hj : q % n < n := Nat.mod_lt _ hn
  have e : q = q / n * n + q % n := by rw [Nat.mul_comm]; exact (Nat.div_add_mod q n).symm
  refine ⟨q / n, q % n, hk, hj, e, ?_⟩
  rw [← fl_at f n hf d L _ _ hk hj, ← e]
  exact h
end Go.Proofs.YtpjmnnaiegdjmaaDoor
