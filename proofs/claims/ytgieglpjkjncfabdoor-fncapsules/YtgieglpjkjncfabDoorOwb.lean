/-
  Contracts: texts put behind a slice that the call owns.
-/
import Derived.Test.YtgieglpjkjncfabDoorApl
import Derived.Lib.AppendStr
namespace Go.Proofs.YtgieglpjkjncfabDoor
open Go.ChangeShapes Go.WideShapes Go.ChangeAt Go.RowKit
set_option linter.unusedVariables false
set_option maxRecDepth 100000

theorem vb_le (n : Int) : (vb n).length ≤ 8 := by have := vb_length n; have := vsz_le n; omega
/-- v is the call's own slice of the bytes xs -/
def Ow (base : Nat) (w : World) (v : Value) (xs : List UInt8) : Prop := w.ownsRow base 5 1 v xs.length (bs xs)
theorem Ow.alloc {base : Nat} {w : World} {v : Value} {xs : List UInt8} (h : Ow base w v xs) (o : Obj) : Ow base (w.alloc o) v xs := World.ownsRow.alloc h o
theorem Ow.drew {base : Nat} {w : World} {v : Value} {xs : List UInt8} (h : Ow base w v xs) : Ow base w.drew v xs := h
/-- a row of whole numbers: not a row of bytes -/
theorem Ow.far {base : Nat} {w : World} {v : Value} {xs : List UInt8} (h : Ow base w v xs) {p : Nat} {cur : Array Value} {t : TypeId} {fr : Nat × Nat} (hp : w.heap[p]? = some (.cells cur t fr)) (ht : t ≠ 5) : v.ownBlock ≠ some p := by
  rcases h.2 with ⟨rfl, _⟩ | ⟨g, cap, cur', rfl, _, hg, _⟩
  · simp [Value.ownBlock]
  · intro e
    simp [Value.ownBlock] at e
    subst e
    rw [hp] at hg
    simp at hg
    exact ht hg.2.1
theorem Ow.shape {base : Nat} {w : World} {v : Value} {xs : List UInt8} (h : Ow base w v xs) : ∃ a c, v = .slice a xs.length c := by
  rcases h.2 with ⟨rfl, e⟩ | ⟨g, cap, cur, rfl, _⟩
  · exact ⟨none, 0, by rw [e]⟩
  · exact ⟨_, _, rfl⟩
theorem appendVarint_ow (v : Value) (xs : List UInt8) (n : Int) (w : World) (base : Nat) (h : Ow base w v xs) (hbase : base ≤ w.heap.size) (htz : Tz w) (hg1 : 1 < base) (hlen : xs.length ≤ 1099511627776) (h0 : 0 ≤ n) (h1 : n ≤ 4611686018427387903) :
    Calls Tryd.prog 41 #[v, .int .i64 n] w fun e w' => ∃ v', e = .returned v' ∧ Ow base w' v' (xs ++ vb n) ∧ Gr w w' v v' := by
  refine (appendVarint_any v xs n w base h hbase htz hg1 hlen h0 h1).mono ?_
  rintro e w' ⟨v', rfl, ho, hg⟩
  refine ⟨v', rfl, ?_, hg⟩
  unfold Ow
  rw [List.length_append, vb_length]
  exact ho

theorem strCells_bs (s : ByteArray) : Lib.strCells s = bs s.data.toList := by
  simp [Lib.strCells, bs]
theorem Ow.below {base : Nat} {w w' : World} {v : Value} {xs : List UInt8} (h : Ow base w v xs) (hg : w.grownBy w' v.ownBlock) (hb : base ≤ w.heap.size) : Below base w w' :=
  ⟨hg.os, hg.tape, hg.output, hg.size, fun k hk => hg.block k (by omega) (fun e => by have := (World.ownsRow.lt h k e.symm).1; omega)⟩

/-- what is no row of bytes is as it was -/
def Kn (w w' : World) : Prop := ∀ (k : Nat) (cur : Array Value) (t : TypeId) (fr : Nat × Nat), w.heap[k]? = some (.cells cur t fr) → t ≠ 5 → w'.heap[k]? = some (.cells cur t fr)
theorem Kn.trans {a b c : World} (h : Kn a b) (k : Kn b c) : Kn a c := fun i cur t fr hi ht => k i cur t fr (h i cur t fr hi ht) ht
theorem Ow.kn {base : Nat} {w w' : World} {v : Value} {xs : List UInt8} (h : Ow base w v xs) (hg : w.grownBy w' v.ownBlock) : Kn w w' := fun i cur t fr hi ht => by
  have hl : i < w.heap.size := by
    rcases Nat.lt_or_ge i w.heap.size with h' | h'
    · exact h'
    · rw [Array.getElem?_eq_none h'] at hi; cases hi
  rw [hg.block i hl (fun e => h.far hi ht e.symm), hi]

set_option maxHeartbeats 1000000 in
theorem appendSized_ow (v : Value) (xs : List UInt8) (s : ByteArray) (w : World) (base : Nat) (h : Ow base w v xs) (hbase : base ≤ w.heap.size) (htz : Tz w) (hg1 : 1 < base) (hlen : xs.length ≤ 1048576) (hs : s.size ≤ 1048576) :
    Calls Tryd.prog 19 #[v, .string s] w fun e w' => ∃ v', e = .returned v' ∧ Ow base w' v' (xs ++ (vb s.size ++ s.data.toList)) ∧ Below base w w' ∧ Kn w w' := by
  obtain ⟨i0, hi, hz0, hz1, hz2⟩ := info_parts Tryd.info5
  have HV := hide (appendVarint_ow v xs s.size w base h hbase htz hg1 (by omega) (by omega) (by omega))
  have HO := hide h
  have hvl := vb_length s.size
  have hvz := vsz_le s.size
  clear h htz
  go_enter Tryd.func19, Tryd.ntmps19
  go_wp2_with fail
  refine (unhide HV).mono ?_
  rintro e w2 ⟨v2, rfl, how2, hgr2⟩
  have hb2 := hgr2.below (unhide HO) hbase
  have hs2 := hb2.size
  go_wp2_with (at_builtin; refine Lib.wpList_append_own_string _ rfl _ _ 22 9 rfl base 5 i0 Tryd.underlying22 Tryd.underlying9 hi hz0 hz1 hz2 _ _ _ rfl how2 s rfl ?c1 ?c2 ?c3 ?_)
  case c1 => rw [List.length_append]; unfold maxLen; omega
  case c2 => rw [List.length_append]; omega
  case c3 => omega
  intro v3 w3 ho3 hg3 _
  have B3 : Below base w w3 := hb2.trans (how2.below hg3 (by omega))
  have O3 : Ow base w3 v3 (xs ++ (vb s.size ++ s.data.toList)) := by
    unfold Ow
    rw [strCells_bs, ← bs_append] at ho3
    have e : xs.length + vsz s.size + s.size = (xs ++ (vb s.size ++ s.data.toList)).length := by simp [List.length_append, hvl]; omega
    rw [e, List.append_assoc] at ho3
    exact ho3
  have K3 : Kn w w3 := ((unhide HO).kn hgr2.grown).trans (how2.kn hg3)
  clear ho3 hg3 how2 hgr2
  go_wp2
  go_ret
  exact ⟨_, rfl, O3, B3, K3⟩
theorem ow_text {base : Nat} {w w' : World} {v v' : Value} {xs : List UInt8} {s : ByteArray} (h : Ow base w v xs) {m : Nat} (ho : w'.ownsRow base 5 1 v' m (bs xs ++ Lib.strCells s)) (hm : m = xs.length + s.size) : Ow base w' v' (xs ++ s.data.toList) := by
  subst hm
  unfold Ow
  rw [strCells_bs, ← bs_append] at ho
  have e : xs.length + s.size = (xs ++ s.data.toList).length := by simp [List.length_append]
  rw [e] at ho
  exact ho
theorem Ow.later {base : Nat} {w w' : World} {v : Value} {xs : List UInt8} (h : Ow base w v xs) (hb : Below w.heap.size w w') : Ow base w' v xs := by
  refine World.ownsRow.kept h (row := none) ⟨hb.os, hb.tape, hb.output, hb.size, fun k hk _ => hb.block k hk⟩ ?_
  cases hv : v.ownBlock with
  | none => exact Or.inl rfl
  | some k => exact Or.inr (by simp)
theorem Gr.of_alloc {w w' : World} {o : Obj} {v v' : Value} (h : Gr (w.alloc o) w' v v') : Gr w w' v v' := ((Gr.refl w v).alloc o).trans h
theorem heap_new (w : World) (o : Obj) : (w.alloc o).heap[w.heap.size]? = some o := by
  show (w.heap.push o)[w.heap.size]? = _
  simp

theorem heap_old (w : World) (o : Obj) (k : Nat) (x : Obj) (h : w.heap[k]? = some x) : (w.alloc o).heap[k]? = some x := by
  have hl : k < w.heap.size := by
    rcases Nat.lt_or_ge k w.heap.size with h' | h'
    · exact h'
    · rw [Array.getElem?_eq_none h'] at h; cases h
  rw [Below.heap_alloc w o k hl]; exact h
theorem cell_in {w : World} {p : Nat} {cur : Array Value} {t : TypeId} {fr : Nat × Nat} (h : w.heap[p]? = some (.cells cur t fr)) (i : Nat) : w.cell? ⟨p, i, none⟩ = cur[i]? := cell_of_row w p i cur t fr h
theorem Tz.below {w w' : World} (h : Tz w) (hb : Below w.heap.size w w') : Tz w' := h.kept hb (World.block_lt_of_cell? w _ h.c0)


theorem hlow {w : World} {k : Nat} {x : Obj} (h : w.heap[k]? = some x) : k < w.heap.size := by
  rcases Nat.lt_or_ge k w.heap.size with h' | h'
  · exact h'
  · rw [Array.getElem?_eq_none h'] at h; cases h
end Go.Proofs.YtgieglpjkjncfabDoor
