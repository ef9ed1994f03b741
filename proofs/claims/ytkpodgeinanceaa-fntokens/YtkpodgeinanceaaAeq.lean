/-
  Blocks of sixteen bytes compared.
-/
import Derived.Test.YtkpodgeinanceaaAbo
import Derived.Laws.StructEq
namespace Go.Proofs.Ytkpodgeinanceaa
open Go.ChangeShapes Go.WideShapes Go.ChangeAt Go.RowKit
set_option linter.unusedVariables false
set_option maxRecDepth 100000

theorem part_us (n : Nat) (f : Nat → Nat) (i : Nat) (h : i < n) (w : World) : (part 5 (us n f).toArray (i * 1)).run Try.prog w = .ok (.int .u8 (f i : Nat)) w := by
  have hus : (us n f)[i]? = some (.int .u8 (f i : Nat)) := by simp [us_def, h]
  have hs := size_u8 w
  simp [part, isAgg, run_underlying Try.underlying5, hus, go_sem]
set_option maxHeartbeats 1000000 in
theorem eqN (d n : Nat) (t : TypeId) (f g : Nat → Nat) (hu : Try.prog.underlying t = some (.array n 5)) (w : World) :
    (Op.equalIn (d + 1 + 1) t (.agg (us n f).toArray) (.agg (us n g).toArray)).run Try.prog w = .ok ((List.range n).all fun i => f i == g i) w := by
  have hE : ∀ (a b : Nat) (w : World), (Op.equalIn (d + 1) 5 (.int .u8 (a : Int)) (.int .u8 (b : Int))).run Try.prog w = .ok (a == b) w := fun a b w => by
    rw [run_equalIn_int w d 5 .u8 .u8 a b Try.underlying5]
    by_cases h : a = b
    · subst h; simp
    · have h2 : ¬ ((a : Int) = (b : Int)) := by omega
      rw [beq_eq_false_iff_ne.2 h, beq_eq_false_iff_ne.2 h2]
  generalize d + 1 = e at hE ⊢
  have hs := size_u8 w
  simp only [Op.equalIn, Sem.run_bind, run_underlying hu, Result.andThen_ok, hs, Std.Legacy.Range.forIn_eq_forIn_range', Std.Legacy.Range.size]
  have key : ∀ l : List Nat, (∀ i ∈ l, i < n) → Sem.run Try.prog (forIn l ((none : Option Bool), ()) fun i __s => do
      let a ← part 5 (us n f).toArray (i * 1)
      let b ← part 5 (us n g).toArray (i * 1)
      let r ← Op.equalIn e 5 a b
      if (!r) = true then pure (ForInStep.done (some false, ())) else pure (ForInStep.yield (none, ()))) w = .ok (if l.all (fun i => f i == g i) then (none, ()) else (some false, ())) w := by
    intro l
    induction l with
    | nil => intro _; simp
    | cons i l ih =>
      intro h
      have hi := h i (by simp)
      simp only [List.forIn_cons, Sem.run_bind, part_us n f i hi, part_us n g i hi, Result.andThen_ok, hE]
      by_cases hfg : f i = g i
      · have e1 : (f i == g i) = true := by simp [hfg]
        simp only [e1, Bool.not_true, Bool.false_eq_true, if_false, Sem.run_pure, Result.andThen_ok, List.all_cons, Bool.true_and]
        exact ih (fun j hj => h j (by simp [hj]))
      · have e1 : (f i == g i) = false := by simp [hfg]
        simp only [e1, Bool.not_false, if_true, Sem.run_pure, Result.andThen_ok, List.all_cons, Bool.false_and, Bool.false_eq_true, if_false]
  rw [show (n - 0 + 1 - 1) / 1 = n by omega, ← List.range_eq_range', key _ (by simp)]
  by_cases h : ((List.range n).all fun i => f i == g i) = true
  · rw [if_pos h, h]
    simp
  · rw [if_neg h, Bool.not_eq_true _ |>.mp h]
    simp
theorem eq16_yes (t : TypeId) (f g : Nat → Nat) (hu : Try.prog.underlying t = some (.array 16 5)) (h : ∀ i, i < 16 → f i = g i) (w : World) :
    (Op.equalIn 10000 t (.agg (us 16 f).toArray) (.agg (us 16 g).toArray)).run Try.prog w = .ok true w := by
  rw [show (10000 : Nat) = 9998 + 1 + 1 from rfl, eqN 9998 16 t f g hu w]
  congr 1
  rw [List.all_eq_true]
  intro i hi
  simp [h i (by simpa using hi)]
theorem eq16_no (t : TypeId) (f g : Nat → Nat) (hu : Try.prog.underlying t = some (.array 16 5)) (i : Nat) (hi : i < 16) (h : f i ≠ g i) (w : World) :
    (Op.equalIn 10000 t (.agg (us 16 f).toArray) (.agg (us 16 g).toArray)).run Try.prog w = .ok false w := by
  rw [show (10000 : Nat) = 9998 + 1 + 1 from rfl, eqN 9998 16 t f g hu w]
  congr 1
  rw [List.all_eq_false]
  exact ⟨i, by simpa using hi, by simp [h]⟩
theorem guard16 : Try.prog.eqGuardType Try.prog.depth 84 = false := by kernel_rfl
end Go.Proofs.Ytkpodgeinanceaa
