/-
  Contract: JoinRanges of the model.
-/
import Derived.Test.YtccfbkpelehldaaRgc
namespace Go.Proofs.Ytccfbkpelehldaa.Rc
open Go.ChangeShapes Go.WideShapes Go.ChangeAt Go.RowKit Go.Deep
set_option linter.unusedVariables false
set_option maxRecDepth 100000

theorem bd_put : ∀ (L : List RangeD) (x : RangeD) (p : Bool), (∀ r ∈ L, bdR r) → bdR x → ∀ r ∈ putG L x p, bdR r
  | [], x, p, _, hx, r, hr => by
    cases p with
    | true => cases hr
    | false => rw [putG] at hr; simp at hr; rw [hr]; exact hx
  | y :: l, x, p, hL, hx, r, hr => by
    have hl : ∀ r ∈ l, bdR r := fun r h => hL r (List.mem_cons_of_mem _ h)
    have hy := hL y (List.mem_cons_self)
    rw [putG] at hr
    split at hr
    · rcases List.mem_cons.1 hr with rfl | h
      · exact hy
      · exact bd_put l x p hl hx r h
    · split at hr
      · cases p with
        | true =>
          rcases List.mem_cons.1 hr with rfl | h
          · exact hy
          · exact bd_put l x true hl hx r h
        | false =>
          rcases List.mem_cons.1 hr with rfl | h
          · exact hx
          · rcases List.mem_cons.1 h with rfl | h
            · exact hy
            · exact bd_put l x true hl hx r h
      · exact bd_put l (mrg y x) p hl (bd_mrg hy hx) r hr
/-- ranges joined -/
def jnG (A B : List RangeD) : List RangeD := B.foldl (fun o r => putG o r false) A
theorem jnG_step (A B : List RangeD) (k : Nat) (h : k < B.length) : jnG A (B.take (k + 1)) = putG (jnG A (B.take k)) (gt rangeK B k) false := by
  unfold jnG
  rw [List.take_succ_eq_append_getElem h, List.foldl_append, gt_of rangeK B k h]
  rfl
theorem jnG_len : ∀ (B A : List RangeD), (jnG A B).length ≤ A.length + B.length
  | [], A => Nat.le_refl _
  | x :: B, A => by
    have h := jnG_len B (putG A x false)
    have h2 := putG_len A x false
    show (jnG (putG A x false) B).length ≤ _
    rw [List.length_cons]
    omega
theorem jnG_bd : ∀ (B A : List RangeD), (∀ r ∈ A, bdR r) → (∀ r ∈ B, bdR r) → ∀ r ∈ jnG A B, bdR r
  | [], A, hA, _ => hA
  | x :: B, A, hA, hB => jnG_bd B (putG A x false) (bd_put A x false hA (hB x (List.mem_cons_self))) (fun r h => hB r (List.mem_cons_of_mem _ h))
theorem gr_mem {L : List RangeD} (h : grB L = true) : ∀ r ∈ L, bdR r := by
  intro r hr
  obtain ⟨i, hi, rfl⟩ := List.getElem_of_mem hr
  have := gr_bd h i hi
  rwa [gt_of rangeK L i hi] at this
theorem gr_len {L : List RangeD} (h : grB L = true) : L.length ≤ 20 := by unfold grB at h; rw [Bool.and_eq_true, decide_eq_true_eq] at h; exact h.1
/-- whether ranges are joined, and to what -/
def jnB (A B : List RangeD) : Bool := grB A && (grB B && decide ((jnG A B).length ≤ 20))
def jnL (A B : List RangeD) : Bool → List RangeD
  | true => jnG A B
  | false => []
theorem jnL_len (A B : List RangeD) : (jnL A B (jnB A B)).length ≤ 20 := by
  cases e : jnB A B with
  | true => unfold jnB at e; simp only [Bool.and_eq_true, decide_eq_true_eq] at e; exact e.2.2
  | false => exact Nat.zero_le _
/-- what is answered -/
def JRP (A B : List RangeD) (W : World) (e : Ending) (w' : World) : Prop := ∃ (a9 : Option Addr) (c9 : Nat), e = .returned (.tuple #[.slice a9 (jnL A B (jnB A B)).length c9, .bool (jnB A B)]) ∧ Rd rangeK w' a9 (jnL A B (jnB A B)) ∧ Below W.heap.size W w'
theorem JRP.no {A B : List RangeD} {W w' : World} (h : jnB A B = false) (b : Below W.heap.size W w') : JRP A B W (.returned (.tuple #[.slice none 0 0, .bool false])) w' := ⟨none, 0, by rw [h]; rfl, by rw [h]; exact Or.inl rfl, b⟩
theorem JRP.yes {A B : List RangeD} {W w' : World} {a : Option Addr} {c : Nat} (h : jnB A B = true) (hr : Rd rangeK w' a (jnG A B)) (b : Below W.heap.size W w') : JRP A B W (.returned (.tuple #[.slice a (jnG A B).length c, .bool true])) w' := ⟨a, c, by rw [h]; rfl, by rw [h]; exact hr, b⟩
end Go.Proofs.Ytccfbkpelehldaa.Rc
