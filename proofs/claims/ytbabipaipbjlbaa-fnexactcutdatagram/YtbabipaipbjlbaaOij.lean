/-
  Rows of numbers that the call owns.
-/
import Derived.Test.YtbabipaipbjlbaaHcp
import Derived.Deep.AppendLies
import Derived.Laws.OwnMore
namespace Go.Proofs.Ytbabipaipbjlbaa
open Go.ChangeShapes Go.WideShapes Go.ChangeAt Go.RowKit
set_option linter.unusedVariables false
set_option maxRecDepth 100000

def iv (n : Nat) (V : Nat → Int) : List Value := (List.range n).map fun i => .int .i64 (V i)
theorem iv_length (n : Nat) (V : Nat → Int) : (iv n V).length = n := by simp [iv]
theorem iv_succ (n : Nat) (V : Nat → Int) : iv n V ++ [.int .i64 (V n)] = iv (n + 1) V := by simp [iv, List.range_succ]
/-- a row of numbers of the call's own -/
def Oi (base : Nat) (w : World) (v : Value) (n : Nat) (V : Nat → Int) : Prop := w.ownsRow base 3 1 v n (iv n V)
theorem Oi.below {base : Nat} {w w' : World} {v : Value} {n : Nat} {V : Nat → Int} (h : Oi base w v n V) (hg : w.grownBy w' v.ownBlock) (hb : base ≤ w.heap.size) : Below base w w' :=
  ⟨hg.os, hg.tape, hg.output, hg.size, fun k hk => hg.block k (by omega) (fun e => by have := (World.ownsRow.lt (w := w) h k e.symm).1; omega)⟩
theorem Oi.nil (base : Nat) (w : World) (V : Nat → Int) : Oi base w (.slice none 0 0) 0 V := World.ownsRow_nil _ _ _ _
theorem Oi.lit (base : Nat) (w : World) (V : Nat → Int) (hb : base ≤ w.heap.size) : Oi base (w.alloc (.cells #[.int .i64 (V 0)] 3)) (.slice (some ⟨w.heap.size, 0, none⟩) 1 1) 1 V :=
  World.ownsRow_lit (base := base) (e := 3) (size := 1) w #[.int .i64 (V 0)] 1 hb (by unfold maxLen; omega) rfl
theorem Oi.opens {base : Nat} {w : World} {v : Value} {n : Nat} {V : Nat → Int} (h : Oi base w v n V) : ∃ a cap, v = .slice a n cap := by
  rcases h.2 with ⟨rfl, e⟩ | ⟨g, cap, cur, rfl, _⟩
  · exact ⟨none, 0, by rw [e]⟩
  · exact ⟨_, _, rfl⟩
end Go.Proofs.Ytbabipaipbjlbaa
