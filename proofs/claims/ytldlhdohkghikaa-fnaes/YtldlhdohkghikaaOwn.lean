/-
  A row of bytes that the call owns, as a function of the place: grown, read as a text.
-/
import Derived.Test.YtldlhdohkghikaaAbo
import Derived.Deep.AppendLies
namespace Go.Proofs.Ytldlhdohkghikaa
open Go.ChangeShapes Go.WideShapes Go.ChangeAt Go.RowKit
set_option linter.unusedVariables false

theorem us_append (n m : Nat) (f : Nat → Nat) : us n f ++ us m (fun i => f (n + i)) = us (n + m) f := by
  simp only [us_def]
  rw [List.range_add, List.map_append, List.map_map]
  rfl
/-- a row of the call's own -/
def Ob (base : Nat) (w : World) (v : Value) (n : Nat) (f : Nat → Nat) : Prop := w.ownsRow base 5 1 v n (us n f)
theorem Ob.below {base : Nat} {w w' : World} {v : Value} {n : Nat} {f : Nat → Nat} (h : Ob base w v n f) (hg : w.grownBy w' v.ownBlock) (hb : base ≤ w.heap.size) : Below base w w' :=
  ⟨hg.os, hg.tape, hg.output, hg.size, fun k hk => hg.block k (by omega) (fun e => by have := (World.ownsRow.lt (w := w) h k e.symm).1; omega)⟩
theorem Ob.kept {base : Nat} {w w' : World} {v : Value} {n : Nat} {f : Nat → Nat} (h : Ob base w v n f) (hb : Below w.heap.size w w') : Ob base w' v n f := by
  refine ⟨h.1, ?_⟩
  rcases h.2 with hn | ⟨g, cap, cur, rfl, hg, hgg, rest⟩
  · exact .inl hn
  · refine .inr ⟨g, cap, cur, rfl, hg, ?_, rest⟩
    rw [hb.block g (Array.getElem?_eq_some_iff.1 hgg).1]
    exact hgg
theorem Ob.nil (base : Nat) (w : World) (f : Nat → Nat) : Ob base w (.slice none 0 0) 0 f := by
  unfold Ob
  rw [us_def]
  exact World.ownsRow_nil _ _ _ _
theorem Ob.grow {base : Nat} {w : World} {v : Value} {n m : Nat} {f : Nat → Nat} (h : w.ownsRow base 5 1 v (n + m) (us n f ++ us m (fun i => f (n + i)))) : Ob base w v (n + m) f := by
  unfold Ob
  rw [← us_append]
  exact h
theorem us_bytes (n : Nat) (f : Nat → Nat) (hf : ∀ i, i < n → f i < 256) : us n f = ((List.range n).map fun i => UInt8.ofNat (f i)).map fun (x : UInt8) => Value.int .u8 (x.toNat : Int) := by
  simp only [us_def]
  rw [List.map_map]
  refine List.map_congr_left fun i hi => ?_
  have := hf i (List.mem_range.1 hi)
  simp [UInt8.toNat_ofNat']
  omega
theorem Ob.string {base : Nat} {w : World} {v : Value} {n : Nat} {f : Nat → Nat} (h : Ob base w v n f) (hf : ∀ i, i < n → f i < 256) : (convert 22 9 v).run Try.prog w = .ok (.string (bq n f)) w := by
  have hc := fun g => @World.ownsRow.cells w base 5 1 v n (us n f) h g
  rcases h.2 with ⟨rfl, h0⟩ | ⟨g, cap, cur, rfl, _, _, _, _, _, _⟩
  · subst h0
    exact run_convert_bytes_nil w 22 5 Try.underlying22 Try.underlying5 0 0 9 Try.underlying9
  · have := run_convert_bytes_back (P := Try.prog) w 22 9 5 ⟨g, 0, none⟩ cap ((List.range n).map fun i => UInt8.ofNat (f i)) Try.underlying22 Try.underlying5 Try.underlying9 (by
      intro j hj
      refine hc g rfl j _ ?_
      rw [us_bytes n f hf]
      simp at hj
      simp [hj])
    simpa [bq] using this
theorem take_us (N p m : Nat) (f : Nat → Nat) (h : p + m ≤ N) : List.take m (List.drop p (us N f)) = us m (fun i => f (p + i)) := by
  apply List.ext_getElem
  · simp [us_def]; omega
  · intro i h1 h2
    simp [us_def]
/-- a row of an array of blocks that was loaded -/
theorem idx_rows (R : Nat) (t : TypeId) (f : Nat → Nat) (k : Nat) (hk : k < R) (hu : Try.prog.underlying t = some (.array R 45)) (w : World) :
    (Instr.index t (.agg (us (16 * R) f).toArray) (.int .i64 k)).run Try.prog w = .ok (.agg (us 16 (fun i => f (16 * k + i))).toArray) w := by
  have h0 : (0 : Int) ≤ (k : Int) ∧ (k : Int) < (R : Int) := by omega
  have hs : (Go.sizeOf 45).run Try.prog w = .ok 16 w := by
    cases hq : Try.prog.info? 45 with
    | none => have := info_bl; simp [hq] at this
    | some i => have h9 := info_bl; simp [hq] at h9; simp [sizeOf, typeInfo, hq, h9]
  have he := take_us (16 * R) (k * 16) 16 f (by omega)
  rw [Nat.mul_comm 16 k]
  simp [Instr.index, run_underlying hu, asIntOf, h0, hs, part, isAgg, run_underlying Try.underlying45, he, go_sem]
  intro h9
  omega
end Go.Proofs.Ytldlhdohkghikaa
