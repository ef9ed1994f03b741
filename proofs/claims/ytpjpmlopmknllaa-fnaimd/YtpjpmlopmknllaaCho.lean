/-
  Contracts: the change that a grow is, and what it makes of a window, of the program.
-/
import Derived.Test.YtpjpmlopmknllaaChm
import Derived.Test.YtpjpmlopmknllaaWnp
namespace Go.Proofs.Ytpjpmlopmknllaa.Rc
open Go.ChangeShapes Go.WideShapes Go.ChangeAt Go.RowKit Go.Deep
set_option linter.unusedVariables false
set_option maxRecDepth 100000

/-- the change as a value -/
def chV (g : GrowD) : Value :=
  if g.f0 = 1 then .iface 60 (.agg #[.int .i64 g.f1]) else if g.f0 = 2 then .iface 64 (.agg #[.int .i64 g.f1, .int .i64 g.f2]) else if g.f0 = 3 then .iface 55 (.agg #[.int .i64 g.f1, .int .i64 g.f2, .int .i64 g.f3]) else if g.f0 = 4 then .iface 62 (.agg #[]) else .iface 75 (.agg #[])
/-- what changed answers of it -/
def grY (D : WindowD) (g : GrowD) : WindowD := if g.f0 = 1 then sbD D g.f1 (sbB D g.f1) else if g.f0 = 2 then abD D g.f1 g.f2 (abB D g.f1 g.f2) else if g.f0 = 3 then lbD D g.f1 g.f2 g.f3 (lbB D g.f1 g.f2 g.f3) else if g.f0 = 4 then swD D (wgB D) else wndZ
theorem grY_is {D : WindowD} {g : GrowD} (h : grO D g = true) : grY D g = grX D g := by
  unfold grY grX
  unfold grO at h
  by_cases h1 : g.f0 = 1
  · rw [if_pos h1, if_pos h1]
  · by_cases h2 : g.f0 = 2
    · rw [if_neg h1, if_neg h1, if_pos h2, if_pos h2]
    · by_cases h3 : g.f0 = 3
      · rw [if_neg h1, if_neg h1, if_neg h2, if_neg h2, if_pos h3, if_pos h3]
      · by_cases h4 : g.f0 = 4
        · rw [if_neg h1, if_neg h1, if_neg h2, if_neg h2, if_neg h3, if_neg h3, if_pos h4, if_pos h4]
        · rw [if_neg h1, if_neg h2, if_neg h3, if_neg h4] at h
          exact absurd h (by decide)
theorem chAny (D : WindowD) (g : GrowD) (w : World) : Calls Try.prog 22 #[windowV D, chV g] w fun e w' => e = .returned (.tuple #[windowV (grY D g), .bool (grO D g)]) ∧ Below w.heap.size w w' := by
  unfold grY grO chV
  by_cases h1 : g.f0 = 1
  · rw [if_pos h1, if_pos h1, if_pos h1]
    exact chg_s g.f1 D w
  · by_cases h2 : g.f0 = 2
    · rw [if_neg h1, if_neg h1, if_neg h1, if_pos h2, if_pos h2, if_pos h2]
      exact chg_a g.f1 g.f2 D w
    · by_cases h3 : g.f0 = 3
      · rw [if_neg h1, if_neg h1, if_neg h1, if_neg h2, if_neg h2, if_neg h2, if_pos h3, if_pos h3, if_pos h3]
        exact chg_x g.f1 g.f2 g.f3 D w
      · by_cases h4 : g.f0 = 4
        · rw [if_neg h1, if_neg h1, if_neg h1, if_neg h2, if_neg h2, if_neg h2, if_neg h3, if_neg h3, if_neg h3, if_pos h4, if_pos h4, if_pos h4]
          exact chg_w D w
        · rw [if_neg h1, if_neg h1, if_neg h1, if_neg h2, if_neg h2, if_neg h2, if_neg h3, if_neg h3, if_neg h3, if_neg h4, if_neg h4, if_neg h4]
          exact chg_u D w
set_option maxHeartbeats 4000000 in
theorem implCho (g : GrowD) (w : World) : Calls Try.prog 31 #[growV g] w fun e w' => e = .returned (chV g) ∧ Below w.heap.size w w' := by
  have Y0 := (Bx.new w (growC g) 67).cv
  unfold chV
  obtain ⟨f0, f1, f2, f3⟩ := g
  dsimp only at *
  by_cases h1 : f0 = 1
  · rw [if_pos h1]
    have t1 : (f0 == (1 : Int)) = true := beq_iff_eq.2 h1
    go_enter Try.func31, Try.ntmps31
    go_wp2
    go_ret
    exact ⟨rfl, (Below.refl w.heap.size w).alloc (Nat.le_refl _) _⟩
  · skip
    by_cases h2 : f0 = 2
    · rw [if_neg h1, if_pos h2]
      have t2 : (f0 == (2 : Int)) = true := beq_iff_eq.2 h2
      have t1 : (f0 == (1 : Int)) = false := beq_eq_false_iff_ne.2 h1
      go_enter Try.func31, Try.ntmps31
      go_wp2
      go_ret
      exact ⟨rfl, (Below.refl w.heap.size w).alloc (Nat.le_refl _) _⟩
    · skip
      by_cases h3 : f0 = 3
      · rw [if_neg h1, if_neg h2, if_pos h3]
        have t3 : (f0 == (3 : Int)) = true := beq_iff_eq.2 h3
        have t1 : (f0 == (1 : Int)) = false := beq_eq_false_iff_ne.2 h1
        have t2 : (f0 == (2 : Int)) = false := beq_eq_false_iff_ne.2 h2
        go_enter Try.func31, Try.ntmps31
        go_wp2
        go_ret
        exact ⟨rfl, (Below.refl w.heap.size w).alloc (Nat.le_refl _) _⟩
      · skip
        by_cases h4 : f0 = 4
        · rw [if_neg h1, if_neg h2, if_neg h3, if_pos h4]
          have t4 : (f0 == (4 : Int)) = true := beq_iff_eq.2 h4
          have t1 : (f0 == (1 : Int)) = false := beq_eq_false_iff_ne.2 h1
          have t2 : (f0 == (2 : Int)) = false := beq_eq_false_iff_ne.2 h2
          have t3 : (f0 == (3 : Int)) = false := beq_eq_false_iff_ne.2 h3
          go_enter Try.func31, Try.ntmps31
          go_wp2
          go_ret
          exact ⟨rfl, (Below.refl w.heap.size w).alloc (Nat.le_refl _) _⟩
        · rw [if_neg h1, if_neg h2, if_neg h3, if_neg h4]
          have t1 : (f0 == (1 : Int)) = false := beq_eq_false_iff_ne.2 h1
          have t2 : (f0 == (2 : Int)) = false := beq_eq_false_iff_ne.2 h2
          have t3 : (f0 == (3 : Int)) = false := beq_eq_false_iff_ne.2 h3
          have t4 : (f0 == (4 : Int)) = false := beq_eq_false_iff_ne.2 h4
          go_enter Try.func31, Try.ntmps31
          go_wp2
          go_ret
          exact ⟨rfl, (Below.refl w.heap.size w).alloc (Nat.le_refl _) _⟩
end Go.Proofs.Ytpjpmlopmknllaa.Rc
