/-
  Rows of words, and of numbers, that the call owns.
-/
import Derived.Test.YtpjmnnaiegdjmaaDoorArw
import Derived.Test.YtpjmnnaiegdjmaaDoorAri
import Derived.Deep.AppendLies
import Derived.Deep.Cut
namespace Go.Proofs.YtpjmnnaiegdjmaaDoor
open Go.ChangeShapes Go.WideShapes Go.ChangeAt Go.RowKit
set_option linter.unusedVariables false

theorem uw_append (n m : Nat) (f : Nat → Nat) : uw n f ++ uw m (fun i => f (n + i)) = uw (n + m) f := by
  simp only [uw_def]
  rw [List.range_add, List.map_append, List.map_map]
  rfl
/-- a row of the call's own -/
def Ow (base : Nat) (w : World) (v : Value) (n : Nat) (f : Nat → Nat) : Prop := w.ownsRow base 88 1 v n (uw n f)
theorem Ow.below {base : Nat} {w w' : World} {v : Value} {n : Nat} {f : Nat → Nat} (h : Ow base w v n f) (hg : w.grownBy w' v.ownBlock) (hb : base ≤ w.heap.size) : Below base w w' :=
  ⟨hg.os, hg.tape, hg.output, hg.size, fun k hk => hg.block k (by omega) (fun e => by have := (World.ownsRow.lt (w := w) h k e.symm).1; omega)⟩
theorem Ow.kept {base : Nat} {w w' : World} {v : Value} {n : Nat} {f : Nat → Nat} (h : Ow base w v n f) (hb : Below w.heap.size w w') : Ow base w' v n f := by
  refine ⟨h.1, ?_⟩
  rcases h.2 with hn | ⟨g, cap, cur, rfl, hg, hgg, rest⟩
  · exact .inl hn
  · refine .inr ⟨g, cap, cur, rfl, hg, ?_, rest⟩
    rw [hb.block g (Array.getElem?_eq_some_iff.1 hgg).1]
    exact hgg
theorem Ow.nil (base : Nat) (w : World) (f : Nat → Nat) : Ow base w (.slice none 0 0) 0 f := by
  unfold Ow
  rw [uw_def]
  exact World.ownsRow_nil _ _ _ _
theorem Ow.grow {base : Nat} {w : World} {v : Value} {n m : Nat} {f : Nat → Nat} (h : w.ownsRow base 88 1 v (n + m) (uw n f ++ uw m (fun i => f (n + i)))) : Ow base w v (n + m) f := by
  unfold Ow
  rw [← uw_append]
  exact h
theorem ui_append (n m : Nat) (f : Nat → Nat) : ui n f ++ ui m (fun i => f (n + i)) = ui (n + m) f := by
  simp only [ui_def]
  rw [List.range_add, List.map_append, List.map_map]
  rfl
/-- a row of the call's own -/
def Oi (base : Nat) (w : World) (v : Value) (n : Nat) (f : Nat → Nat) : Prop := w.ownsRow base 3 1 v n (ui n f)
theorem Oi.below {base : Nat} {w w' : World} {v : Value} {n : Nat} {f : Nat → Nat} (h : Oi base w v n f) (hg : w.grownBy w' v.ownBlock) (hb : base ≤ w.heap.size) : Below base w w' :=
  ⟨hg.os, hg.tape, hg.output, hg.size, fun k hk => hg.block k (by omega) (fun e => by have := (World.ownsRow.lt (w := w) h k e.symm).1; omega)⟩
theorem Oi.kept {base : Nat} {w w' : World} {v : Value} {n : Nat} {f : Nat → Nat} (h : Oi base w v n f) (hb : Below w.heap.size w w') : Oi base w' v n f := by
  refine ⟨h.1, ?_⟩
  rcases h.2 with hn | ⟨g, cap, cur, rfl, hg, hgg, rest⟩
  · exact .inl hn
  · refine .inr ⟨g, cap, cur, rfl, hg, ?_, rest⟩
    rw [hb.block g (Array.getElem?_eq_some_iff.1 hgg).1]
    exact hgg
theorem Oi.nil (base : Nat) (w : World) (f : Nat → Nat) : Oi base w (.slice none 0 0) 0 f := by
  unfold Oi
  rw [ui_def]
  exact World.ownsRow_nil _ _ _ _
theorem Oi.grow {base : Nat} {w : World} {v : Value} {n m : Nat} {f : Nat → Nat} (h : w.ownsRow base 3 1 v (n + m) (ui n f ++ ui m (fun i => f (n + i)))) : Oi base w v (n + m) f := by
  unfold Oi
  rw [← ui_append]
  exact h
theorem Ow.opens {base : Nat} {w : World} {v : Value} {n : Nat} {f : Nat → Nat} (h : Ow base w v n f) : ∃ a cap, v = .slice a n cap ∧ (0 < n → ∃ g, a = some ⟨g, 0, none⟩ ∧ base ≤ g ∧ Aw w g 0 n f) := by
  have h0 : w.ownsRow base 88 1 v n (uw n f) := h
  rcases h.2 with ⟨rfl, h1⟩ | ⟨g, cap, cur, rfl, hg, hgg, rest⟩
  · exact ⟨none, 0, by rw [h1], fun h2 => by omega⟩
  · refine ⟨some ⟨g, 0, none⟩, cap, rfl, fun h2 => ⟨g, rfl, hg, ⟨fun i hi => ?_, fun i hi => ?_, (Array.getElem?_eq_some_iff.1 hgg).1⟩⟩⟩
    · rw [Nat.zero_add, h0.cellAt i (by omega)]
      simp [uw_def, hi]
    · rw [Nat.zero_add]; exact h0.frozenAt i
theorem Oi.opens {base : Nat} {w : World} {v : Value} {n : Nat} {f : Nat → Nat} (h : Oi base w v n f) : ∃ a cap, v = .slice a n cap ∧ (0 < n → ∃ g, a = some ⟨g, 0, none⟩ ∧ base ≤ g ∧ Ai w g 0 n f) := by
  have h0 : w.ownsRow base 3 1 v n (ui n f) := h
  rcases h.2 with ⟨rfl, h1⟩ | ⟨g, cap, cur, rfl, hg, hgg, rest⟩
  · exact ⟨none, 0, by rw [h1], fun h2 => by omega⟩
  · refine ⟨some ⟨g, 0, none⟩, cap, rfl, fun h2 => ⟨g, rfl, hg, ⟨fun i hi => ?_, fun i hi => ?_, (Array.getElem?_eq_some_iff.1 hgg).1⟩⟩⟩
    · rw [Nat.zero_add, h0.cellAt i (by omega)]
      simp [ui_def, hi]
    · rw [Nat.zero_add]; exact h0.frozenAt i
theorem Ow.mono {base base' : Nat} {w : World} {v : Value} {n : Nat} {f : Nat → Nat} (h : Ow base' w v n f) (hb : base ≤ base') : Ow base w v n f := by
  refine ⟨h.1, ?_⟩
  rcases h.2 with h1 | ⟨g, cap, cur, h1, hg, rest⟩
  · exact Or.inl h1
  · exact Or.inr ⟨g, cap, cur, h1, Nat.le_trans hb hg, rest⟩
theorem Oi.mono {base base' : Nat} {w : World} {v : Value} {n : Nat} {f : Nat → Nat} (h : Oi base' w v n f) (hb : base ≤ base') : Oi base w v n f := by
  refine ⟨h.1, ?_⟩
  rcases h.2 with h1 | ⟨g, cap, cur, h1, hg, rest⟩
  · exact Or.inl h1
  · exact Or.inr ⟨g, cap, cur, h1, Nat.le_trans hb hg, rest⟩
theorem new_w (w : World) (x : Nat) : Aw (w.alloc (.cells #[.int .u32 (x : Int)] 88)) w.heap.size 0 1 (fun _ => x) := by
  have h := Aw.new w 1 (fun _ => x) 88
  rw [uw_def] at h
  exact h
theorem info_u32i : ∃ i, Tryd.prog.info? 88 = some i ∧ i.zero = some (.int .u32 0) ∧ i.size = 1 ∧ i.bytes = 4 := info_parts info_u32
theorem info_i64i : ∃ i, Tryd.prog.info? 3 = some i ∧ i.zero = some (.int .i64 0) ∧ i.size = 1 ∧ i.bytes = 8 := info_parts info_i64
end Go.Proofs.YtpjmnnaiegdjmaaDoor
