/-
  A row of bytes that the call owns, as a function of the place: grown, read as a text.
-/
import Derived.Test.YtkpodgeinanceaaArs
import Derived.Deep.AppendLies
import Derived.Deep.Cut
namespace Go.Proofs.Ytkpodgeinanceaa
open Go.ChangeShapes Go.WideShapes Go.ChangeAt Go.RowKit
set_option linter.unusedVariables false

theorem us_append (n m : Nat) (f : Nat → Nat) : us n f ++ us m (fun i => f (n + i)) = us (n + m) f := by
  simp only [us_def]
  rw [List.range_add, List.map_append, List.map_map]
  rfl
/-- a row of the call's own -/
def Ob (base : Nat) (w : World) (v : Value) (n : Nat) (f : Nat → Nat) : Prop := w.ownsRow base 5 1 v n (us n f)
theorem Ob.below {base : Nat} {w w' : World} {v : Value} {n : Nat} {f : Nat → Nat} (h : Ob base w v n f) (hg : w.grownBy w' v.ownBlock) (hb : base ≤ w.heap.size) : Below base w w' :=
  ⟨hg.os, hg.tape, hg.output, hg.size, fun k hk => hg.block k (by omega) (fun e => by have := (World.ownsRow.lt (w := w) h k e.symm).1; omega)⟩
theorem Ob.kept {base : Nat} {w w' : World} {v : Value} {n : Nat} {f : Nat → Nat} (h : Ob base w v n f) (hb : Below w.heap.size w w') : Ob base w' v n f := by
  refine ⟨h.1, ?_⟩
  rcases h.2 with hn | ⟨g, cap, cur, rfl, hg, hgg, rest⟩
  · exact .inl hn
  · refine .inr ⟨g, cap, cur, rfl, hg, ?_, rest⟩
    rw [hb.block g (Array.getElem?_eq_some_iff.1 hgg).1]
    exact hgg
theorem Ob.nil (base : Nat) (w : World) (f : Nat → Nat) : Ob base w (.slice none 0 0) 0 f := by
  unfold Ob
  rw [us_def]
  exact World.ownsRow_nil _ _ _ _
theorem Ob.grow {base : Nat} {w : World} {v : Value} {n m : Nat} {f : Nat → Nat} (h : w.ownsRow base 5 1 v (n + m) (us n f ++ us m (fun i => f (n + i)))) : Ob base w v (n + m) f := by
  unfold Ob
  rw [← us_append]
  exact h
theorem us_bytes (n : Nat) (f : Nat → Nat) (hf : ∀ i, i < n → f i < 256) : us n f = ((List.range n).map fun i => UInt8.ofNat (f i)).map fun (x : UInt8) => Value.int .u8 (x.toNat : Int) := by
  simp only [us_def]
  rw [List.map_map]
  refine List.map_congr_left fun i hi => ?_
  have := hf i (List.mem_range.1 hi)
  simp [UInt8.toNat_ofNat']
  omega
theorem Ob.string {base : Nat} {w : World} {v : Value} {n : Nat} {f : Nat → Nat} (h : Ob base w v n f) (hf : ∀ i, i < n → f i < 256) : (convert 32 9 v).run Try.prog w = .ok (.string (bq n f)) w := by
  have hc := fun g => @World.ownsRow.cells w base 5 1 v n (us n f) h g
  rcases h.2 with ⟨rfl, h0⟩ | ⟨g, cap, cur, rfl, _, _, _, _, _, _⟩
  · subst h0
    exact run_convert_bytes_nil w 32 5 Try.underlying32 Try.underlying5 0 0 9 Try.underlying9
  · have := run_convert_bytes_back (P := Try.prog) w 32 9 5 ⟨g, 0, none⟩ cap ((List.range n).map fun i => UInt8.ofNat (f i)) Try.underlying32 Try.underlying5 Try.underlying9 (by
      intro j hj
      refine hc g rfl j _ ?_
      rw [us_bytes n f hf]
      simp at hj
      simp [hj])
    simpa [bq] using this
theorem info_u8j : ∃ i, Try.prog.info? 5 = some i ∧ i.zero = some (.int .u8 0) ∧ i.size = 1 ∧ i.bytes = 1 := info_parts info_u8
end Go.Proofs.Ytkpodgeinanceaa
