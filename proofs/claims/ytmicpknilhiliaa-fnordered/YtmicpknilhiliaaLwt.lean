/-
  A drawn region that ends in a send: what the walk asks, checked once of its operations.
-/
import Derived.Test.YtmicpknilhiliaaTgr4
namespace Go.Proofs.Ytmicpknilhiliaa.Rc
open Go.Conc
set_option linter.unusedVariables false

/-- the last operation, mute -/
def mute (o : Oper) : Oper := { o with op := .assign (.const (.bool true)) }
def lastsB (ops : Array Oper) (n : Nat) : Bool :=
  (ops.size == n + 1) && ((List.range ops.size).all (fun i => ((ops[i]?).map (fun o => o.after.toList.all (fun e => Region.binds .any e && decide (e.on < i)))).getD false) &&
    (List.range n).all (fun j => (List.range (n + 1)).any (fun m => decide (j < m) && ((ops[m]?).map (fun o => o.after.toList.any (fun e => e.on == j))).getD false)))
theorem lasts_of {ops : Array Oper} {n : Nat} (h : lastsB ops n = true) : Lasts ops n := by
  unfold lastsB at h
  simp only [Bool.and_eq_true, beq_iff_eq, List.all_eq_true, List.mem_range] at h
  obtain ⟨h1, h2, h3⟩ := h
  refine ⟨h1, fun i o ho e he => ?_, fun j hj => ?_⟩
  · have h4 := h2 i (Array.getElem?_eq_some_iff.1 ho).1
    rw [ho] at h4
    simp only [Option.map_some, Option.getD_some, List.all_eq_true, Bool.and_eq_true, decide_eq_true_eq] at h4
    exact h4 e (Array.mem_toList_iff.2 he)
  · have h4 := h3 j hj
    rw [List.any_eq_true] at h4
    obtain ⟨m, hm, h5⟩ := h4
    simp only [Bool.and_eq_true, decide_eq_true_eq] at h5
    obtain ⟨h6, h7⟩ := h5
    cases ho : ops[m]? with
    | none => rw [ho] at h7; simp at h7
    | some o =>
      rw [ho] at h7
      simp only [Option.map_some, Option.getD_some, List.any_eq_true, beq_iff_eq] at h7
      obtain ⟨e, he, h8⟩ := h7
      exact ⟨m, o, h6, ho, e, Array.mem_toList_iff.1 he, h8⟩
section
variable {P : Program} {ops : Array Oper} {Q Q₁ : Exit → Act → World → Prop}
theorem mute_ne {n i : Nat} {o : Oper} (h : i ≠ n) : (ops.setIfInBounds n (mute o))[i]? = ops[i]? := Array.getElem?_setIfInBounds_ne (fun e => h e.symm)
theorem mute_at {n : Nat} {o : Oper} (h : ops[n]? = some o) : (ops.setIfInBounds n (mute o))[n]? = some (mute o) := by
  have := (Array.getElem?_eq_some_iff.1 h).1
  simp [this]
theorem mute_yielded {n : Nat} {o : Oper} (h : ops[n]? = some o) (t : Array Value) : yielded (ops.setIfInBounds n (mute o)) t = yielded ops t := by
  funext j
  unfold yielded
  have e : ((ops.setIfInBounds n (mute o))[j]?).bind (·.dst) = (ops[j]?).bind (·.dst) := by
    by_cases hj : j = n
    · subst hj
      rw [mute_at h, h]
      rfl
    · rw [mute_ne hj]
  rw [e]
theorem mute_ready {n : Nat} {o : Oper} (h : ops[n]? = some o) (listed : Array Bool) : Region.ready .any (ops.setIfInBounds n (mute o)) listed = Region.ready .any ops listed := by
  unfold Region.ready
  rw [Array.size_setIfInBounds]
  refine List.filter_congr (fun j _ => ?_)
  by_cases hj : j = n
  · subst hj
    rw [mute_at h, h]
    rfl
  · rw [mute_ne hj]
theorem mute_wp {n : Nat} {o : Oper} (h : ops[n]? = some o) (hd : o.dst = none) (hg : o.guard = none) (K : Act → World → Prop) (a : Act) (w : World) (hw : wpOp P (ops.setIfInBounds n (mute o)) Q₁ n K a w) : K a w := by
  unfold wpOp at hw
  rw [mute_at h] at hw
  have h1 : ∀ y, Region.wanted (mute o) y = true := fun y => by unfold Region.wanted mute; simp only [hg]
  simp only [h1, if_true] at hw
  have hd' : (mute o).dst = none := hd
  rcases hw with hw | ⟨hw, _⟩
  · unfold Oper.wp at hw
    simp [execOp, mute, Oper.upon, hd, Act.put] at hw
    exact hw
  · unfold Oper.asks at hw
    have := hw.1
    simp [execOp, mute, noRoomEvent] at this
/-- the drawn region with a send last -/
theorem wp_send_last {id n : Nat} {o : Oper} {S : World → Prop} {a : Act} {w : World} (hm : P.follows .mixedOrders = true) (L : lastsB ops n = true) (ho : ops[n]? = some o) (hd : o.dst = none) (hg : o.guard = none)
    (hQ : ∀ e a w, e ≠ .normal → Q₁ e a w → Q e a w) (hN : ∀ a w, Q₁ .normal a w → Lw P ops Q [n] a w) (hS : S w.drew)
    (h : S w.drew → wpAnyH P .any (ops.setIfInBounds n (mute o)) Q₁ S (ops.setIfInBounds n (mute o)).size (Array.replicate (ops.setIfInBounds n (mute o)).size false) a w.drew) : (Code.region id ops true).wp P Q a w :=
  wp_lw_last hm (lasts_of L) (by simp) (mute_ready ho) (fun _ h => mute_ne h) (mute_yielded ho) hQ hN (mute_wp ho hd hg) hS h
theorem wp_send_then {id n : Nat} {o : Oper} {S : World → Prop} {a : Act} {w : World} (hm : P.follows .mixedOrders = true) (L : lastsB ops n = true) (ho : ops[n]? = some o) (hd : o.dst = none) (hg : o.guard = none) (hS : S w.drew)
    (h : S w.drew → wpAnyH P .any (ops.setIfInBounds n (mute o)) (Exit.then (Lw P ops Q [n]) Q) S (ops.setIfInBounds n (mute o)).size (Array.replicate (ops.setIfInBounds n (mute o)).size false) a w.drew) : (Code.region id ops true).wp P Q a w :=
  wp_send_last hm L ho hd hg (fun e a w hne h => by cases e <;> first | exact absurd rfl hne | exact h) (fun _ _ h => h) hS h
end
/-- what is left behind a reading is not read again -/
theorem rd_again {D : InflowD} (g : GoodI D) : rdE (rdE D 4000) 4000 = rdE D 4000 ∧ rdO (rdE D 4000) 4000 = ⟨#[]⟩ := by
  obtain ⟨li, re, fi, P⟩ := D
  have gc := g.can
  have gl := g.l1
  have gr := g.r0
  have gh := g.hi
  dsimp only at gc gl gr gh
  cases P with
  | nil => exact ⟨rfl, rfl⟩
  | cons p Q =>
    obtain ⟨c1, c2, c3⟩ := gc
    have ep : pE p = p.f0 + p.f1.size := rfl
    have hp4 := (gh p (List.mem_cons_self)).1
    by_cases hp : p.f0 = re
    · have hn : rdN p 4000 = p.f1.size := by unfold rdN; split <;> omega
      have e1 : rdE ⟨li, re, fi, p :: Q⟩ 4000 = ⟨li, re + (p.f1.size : Int), fi, Q⟩ := by
        have : rdE ⟨li, re, fi, p :: Q⟩ 4000 = rdL ⟨li, re, fi, p :: Q⟩ p Q (rdN p 4000) := by unfold rdE; dsimp only; rw [if_pos ⟨hp, by decide⟩]
        rw [this, hn]
        unfold rdL
        dsimp only
        rw [if_pos rfl]
      rw [e1]
      cases Q with
      | nil => exact ⟨rfl, rfl⟩
      | cons p2 Q2 =>
        have h2 : ¬ p2.f0 = re + (p.f1.size : Int) := by have := c3.1; omega
        have e2 : rdO ⟨li, re + (p.f1.size : Int), fi, p2 :: Q2⟩ 4000 = ⟨#[]⟩ := by unfold rdO; dsimp only; rw [if_neg (fun q => h2 q.1)]
        have e3 : rdE ⟨li, re + (p.f1.size : Int), fi, p2 :: Q2⟩ 4000 = ⟨li, re + (p.f1.size : Int), fi, p2 :: Q2⟩ := by unfold rdE; dsimp only; rw [if_neg (fun q => h2 q.1)]
        exact ⟨e3, e2⟩
    · have e2 : rdO ⟨li, re, fi, p :: Q⟩ 4000 = ⟨#[]⟩ := by unfold rdO; dsimp only; rw [if_neg (fun q => hp q.1)]
      have e3 : rdE ⟨li, re, fi, p :: Q⟩ 4000 = ⟨li, re, fi, p :: Q⟩ := by unfold rdE; dsimp only; rw [if_neg (fun q => hp q.1)]
      rw [e3]
      exact ⟨e3, e2⟩
end Go.Proofs.Ytmicpknilhiliaa.Rc
