/-
  Tables marked by the laws, and the marks held. Entries marked by the laws.
-/
import Derived.Test.YtbabipaipbjlbaaTcp
import Derived.Test.YtbabipaipbjlbaaStx
import Derived.Deep.Slices
namespace Go.Proofs.Ytbabipaipbjlbaa
open Go.ChangeShapes Go.WideShapes Go.ChangeAt Go.RowKit
set_option linter.unusedVariables false
set_option maxRecDepth 100000

/-- all old blocks but those of P are kept -/
structure Kq (P : Nat → Prop) (w w' : World) : Prop where
  os : w'.os = w.os
  tape : w'.tape = w.tape
  output : w'.output = w.output
  size : w.heap.size ≤ w'.heap.size
  block : ∀ q, q < w.heap.size → ¬ P q → w'.heap[q]? = w.heap[q]?
theorem Kq.refl (P : Nat → Prop) (w : World) : Kq P w w := ⟨rfl, rfl, rfl, Nat.le_refl _, fun _ _ _ => rfl⟩
theorem Kq.trans {P : Nat → Prop} {w w1 w2 : World} (h : Kq P w w1) (k : Kq P w1 w2) : Kq P w w2 :=
  ⟨k.os.trans h.os, k.tape.trans h.tape, k.output.trans h.output, Nat.le_trans h.size k.size, fun q hq hn => (k.block q (Nat.lt_of_lt_of_le hq h.size) hn).trans (h.block q hq hn)⟩
theorem Kq.of {P : Nat → Prop} {w w' : World} (h : Below w.heap.size w w') : Kq P w w' := ⟨h.os, h.tape, h.output, h.size, fun k hk _ => h.block k hk⟩
theorem Kq.imp {P Q : Nat → Prop} {w w' : World} (h : Kq P w w') (hpq : ∀ q, P q → Q q) : Kq Q w w' := ⟨h.os, h.tape, h.output, h.size, fun q hq hn => h.block q hq (fun p => hn (hpq q p))⟩
theorem Kq.set {P : Nat → Prop} {w w' : World} (h : Kq P w w') {g i : Nat} {u : Value} (hg : P g) : Kq P w (w'.setCell ⟨g, i, none⟩ u) :=
  ⟨h.os, h.tape, h.output, by simpa using h.size, fun q hq hn => (Below.heap_setCell w' ⟨g, i, none⟩ u q (by show q ≠ g; intro e; exact hn (e ▸ hg))).trans (h.block q hq hn)⟩
theorem Kq.below {P : Nat → Prop} {w w' : World} {base : Nat} (h : Kq P w w') (hb : base ≤ w.heap.size) (hP : ∀ q, P q → base ≤ q) : Below base w w' :=
  ⟨h.os, h.tape, h.output, h.size, fun k hk => h.block k (by omega) (fun p => by have := hP k p; omega)⟩
/-- cells of a row that may be written -/
structure Rg (w : World) (g N : Nat) (f : Nat → Value) : Prop where
  lt : g < w.heap.size
  c : ∀ o, o < N → w.cell? ⟨g, o, none⟩ = some (f o)
  fz : ∀ o, w.frozen? ⟨g, o, none⟩ = false
theorem Rg.kept {w w' : World} {g N : Nat} {f : Nat → Value} (h : Rg w g N f) (hs : w.heap.size ≤ w'.heap.size) (e : w'.heap[g]? = w.heap[g]?) : Rg w' g N f :=
  ⟨Nat.lt_of_lt_of_le h.lt hs, fun o ho => (World.cell?_of_block (a := ⟨g, o, none⟩) e).trans (h.c o ho), fun o => (World.frozen?_of_block (a := ⟨g, o, none⟩) e).trans (h.fz o)⟩
theorem Rg.below {w w' : World} {g N : Nat} {f : Nat → Value} (h : Rg w g N f) (hb : Below w.heap.size w w') : Rg w' g N f := h.kept hb.size (hb.block g h.lt)
theorem Rg.set {w : World} {g N : Nat} {f : Nat → Value} (h : Rg w g N f) (j : Nat) (hj : j < N) (u : Value) : Rg (w.setCell ⟨g, j, none⟩ u) g N (fun o => if o = j then u else f o) := by
  refine ⟨by simpa using h.lt, fun o ho => ?_, fun o => by simpa using h.fz o⟩
  by_cases e : o = j
  · subst e; rw [if_pos rfl]; exact World.cell?_setCell_same _ _ _ (h.c o ho)
  · rw [if_neg e, set_off (fun q => e q.symm)]; exact h.c o ho
/-- allocs marked from k on -/
def mkA (k n : Nat) : List AlD := (List.range n).map fun i => ⟨mtT (k + 2 * i), mtT (k + 2 * i + 1)⟩
theorem mkA_len (k n : Nat) : (mkA k n).length = n := by simp [mkA]
theorem mkA_at (k n i : Nat) (h : i < n) : aA (mkA k n) i = ⟨mtT (k + 2 * i), mtT (k + 2 * i + 1)⟩ := by simp [aA, mkA, List.getD, h]
/-- cells of allocs, the first i marked -/
def mcA (L : List AlD) (k i o : Nat) : Value := if o < 2 * i then (if o % 2 = 0 then .string (mtT (k + o)) else .string (mtT (k + o))) else (if o % 2 = 0 then .string (aA L (o / 2)).i else .string (aA L (o / 2)).b)
theorem al_rg {w : World} {g : Nat} {L : List AlD} (h : Al w g 0 L) (hf : ∀ o, w.frozen? ⟨g, o, none⟩ = false) (k : Nat) : Rg w g (L.length * 2) (mcA L k 0) := by
  refine ⟨h.lt, fun o ho => ?_, hf⟩
  unfold mcA
  rw [if_neg (by omega)]
  by_cases e : o % 2 = 0
  · rw [if_pos e]
    have := h.ci (o / 2) (by omega)
    rw [show 0 + o / 2 * 2 = o by omega] at this
    exact this
  · rw [if_neg e]
    have := h.cb (o / 2) (by omega)
    rw [show 0 + o / 2 * 2 + 1 = o by omega] at this
    exact this
theorem rg_al {w : World} {g : Nat} {L : List AlD} {k : Nat} (h : Rg w g (L.length * 2) (mcA L k L.length)) : Al w g 0 (mkA k L.length) := by
  refine ⟨h.lt, fun i hi => ?_, fun i hi => ?_⟩
  · rw [mkA_len] at hi
    rw [mkA_at k _ i hi, Nat.zero_add, h.c (i * 2) (by omega)]
    unfold mcA
    rw [if_pos (by omega), if_pos (by omega), Nat.mul_comm]
  · rw [mkA_len] at hi
    rw [mkA_at k _ i hi, Nat.zero_add, h.c (i * 2 + 1) (by omega)]
    unfold mcA
    rw [if_pos (by omega), if_neg (by omega), Nat.mul_comm, Nat.add_assoc]
theorem mcA_step {w : World} {g : Nat} {L : List AlD} {k i : Nat} {a b : ByteArray} (ha : a = mtT (k + 2 * i)) (hb : b = mtT (k + 2 * i + 1)) (h : Rg w g (L.length * 2) (fun o => if o = i * 2 + 1 then .string b else if o = i * 2 then .string a else mcA L k i o)) : Rg w g (L.length * 2) (mcA L k (i + 1)) := by
  refine ⟨h.lt, fun o ho => ?_, h.fz⟩
  rw [h.c o ho]
  unfold mcA
  by_cases e1 : o = i * 2 + 1
  · subst e1
    rw [if_pos rfl, if_pos (by omega), if_neg (by omega), hb, show k + 2 * i + 1 = k + (i * 2 + 1) by omega]
  · rw [if_neg e1]
    by_cases e2 : o = i * 2
    · subst e2
      rw [if_pos rfl, if_pos (by omega), if_pos (by omega), ha, show k + 2 * i = k + i * 2 by omega]
    · rw [if_neg e2]
      by_cases e3 : o < 2 * i
      · rw [if_pos e3, if_pos (show o < 2 * (i + 1) by omega)]
      · rw [if_neg e3, if_neg (show ¬ o < 2 * (i + 1) by omega)]
end Go.Proofs.Ytbabipaipbjlbaa
namespace Go.Proofs.Ytbabipaipbjlbaa
open Go.ChangeShapes Go.WideShapes Go.ChangeAt Go.RowKit Go.Deep
set_option linter.unusedVariables false
set_option maxRecDepth 100000

/-- an entry's cells -/
def enF (D : EnD) (r : Value) (j : Nat) : Value :=
  if j = 0 then .int .i64 D.sl else if j = 1 then .int .i64 D.sv else if j = 2 then .int .i64 D.nc else if j = 3 then .string D.k else if j = 4 then .bool D.t else if j = 5 then r else .int .i64 D.nx
def rf (L : List EnD) (V : Nat → Value) (o : Nat) : Value := enF (eA L (o / 7)) (V (o / 7)) (o % 7)
/-- an entry marked from k on -/
def mE (k : Nat) (D : EnD) : EnD := ⟨k, (k + 1 : Nat), (k + 2 : Nat), mtT (k + 3), decide ((k + 4) % 3 = 0), mkA (k + 5) D.S.length, (k + 5 + 2 * D.S.length : Nat)⟩
/-- the mark ahead of entry i -/
def kA (k0 : Nat) (L : List EnD) : Nat → Nat
  | 0 => k0
  | i + 1 => kA k0 L i + 6 + 2 * (eA L i).S.length
/-- the first i entries marked -/
def Lm (k0 : Nat) (L : List EnD) (i : Nat) : List EnD := (List.range L.length).map fun j => if j < i then mE (kA k0 L j) (eA L j) else eA L j
theorem Lm_len (k0 : Nat) (L : List EnD) (i : Nat) : (Lm k0 L i).length = L.length := by simp [Lm]
theorem Lm_at (k0 : Nat) (L : List EnD) (i j : Nat) (h : j < L.length) : eA (Lm k0 L i) j = if j < i then mE (kA k0 L j) (eA L j) else eA L j := by simp [eA, Lm, List.getD, h]
theorem Lm_S (k0 : Nat) (L : List EnD) (i j : Nat) (h : j < L.length) : (eA (Lm k0 L i) j).S.length = (eA L j).S.length := by
  rw [Lm_at k0 L i j h]
  by_cases e : j < i
  · rw [if_pos e]; exact mkA_len _ _
  · rw [if_neg e]
theorem Lm_zero (k0 : Nat) (L : List EnD) (j : Nat) (h : j < L.length) : eA (Lm k0 L 0) j = eA L j := by rw [Lm_at k0 L 0 j h, if_neg (Nat.not_lt_zero _)]
/-- the blocks of a table -/
def Tb (g : Nat) (B : Nat → Nat) (L : List EnD) (q : Nat) : Prop := q = g ∨ ∃ i, i < L.length ∧ (eA L i).S ≠ [] ∧ q = B i
theorem ce_rg {w : World} {g : Nat} {L : List EnD} {V : Nat → Value} (hl : g < w.heap.size) (hf : ∀ o, w.frozen? ⟨g, o, none⟩ = false) (h : ∀ i, i < L.length → Ce w g (i * 7) (eA L i) (V i)) : Rg w g (L.length * 7) (rf L V) := by
  refine ⟨hl, fun o ho => ?_, hf⟩
  have hi : o / 7 < L.length := by omega
  have hc := h (o / 7) hi
  have ho7 : o / 7 * 7 + o % 7 = o := by omega
  unfold rf enF
  have hj : o % 7 < 7 := Nat.mod_lt _ (by omega)
  generalize o / 7 = i at *
  generalize o % 7 = j at *
  subst ho7
  match j, hj with
  | 0, _ => exact hc.c0
  | 1, _ => exact hc.c1
  | 2, _ => exact hc.c2
  | 3, _ => exact hc.c3
  | 4, _ => exact hc.c4
  | 5, _ => exact hc.c5
  | 6, _ => exact hc.c6
theorem rg_ce {w : World} {g N : Nat} {L : List EnD} {V : Nat → Value} (h : Rg w g N (rf L V)) (i : Nat) (hi : i * 7 + 7 ≤ N) : Ce w g (i * 7) (eA L i) (V i) := by
  have e : ∀ j, j < 7 → w.cell? ⟨g, i * 7 + j, none⟩ = some (enF (eA L i) (V i) j) := fun j hj => by
    rw [h.c (i * 7 + j) (by omega)]
    unfold rf
    rw [show (i * 7 + j) / 7 = i by omega, show (i * 7 + j) % 7 = j by omega]
  exact ⟨e 0 (by omega), e 1 (by omega), e 2 (by omega), e 3 (by omega), e 4 (by omega), e 5 (by omega), e 6 (by omega)⟩
theorem Ao.kq {base : Nat} {w w' : World} {g : Nat} {L : List AlD} {P : Nat → Prop} (h : Ao base w g L) (k : Kq P w w') (hn : ¬ P g) : Ao base w' g L :=
  ⟨h.ge, h.al.move k.size (fun j => World.cell?_of_block (a := ⟨g, j, none⟩) (k.block g h.al.lt hn)), fun o => (World.frozen?_of_block (a := ⟨g, o, none⟩) (k.block g h.al.lt hn)).trans (h.fz o)⟩
theorem Rg.kq {w w' : World} {g N : Nat} {f : Nat → Value} {P : Nat → Prop} (h : Rg w g N f) (k : Kq P w w') (hn : ¬ P g) : Rg w' g N f := h.kept k.size (k.block g h.lt hn)
/-- a table in the midst of being marked -/
structure Mk (base : Nat) (w : World) (g : Nat) (B : Nat → Nat) (ra : Nat → Option Addr) (cp : Nat → Nat) (L : List EnD) (k0 i : Nat) : Prop where
  rg : Rg w g (L.length * 7) (rf (Lm k0 L i) (fun j => .slice (ra j) (eA L j).S.length (cp j)))
  ro : ∀ j, j < L.length → (eA L j).S = [] ∨ ra j = some ⟨B j, 0, none⟩ ∧ B j ≠ g ∧ Ao base w (B j) (eA (Lm k0 L i) j).S
theorem rg_step {w : World} {g : Nat} {L : List EnD} {V : Nat → Value} {k0 i : Nat} {f : Nat → Value} (hi : i < L.length) (h : Rg w g (L.length * 7) f)
    (hf : ∀ o, o < L.length * 7 → f o = if o = i * 7 + 6 then .int .i64 ((kA k0 L i + 5 + 2 * (eA L i).S.length : Nat) : Int) else if o = i * 7 + 4 then .bool (decide ((kA k0 L i + 4) % 3 = 0)) else if o = i * 7 + 3 then .string (mtT (kA k0 L i + 3)) else if o = i * 7 + 2 then .int .i64 ((kA k0 L i + 2 : Nat) : Int) else if o = i * 7 + 1 then .int .i64 ((kA k0 L i + 1 : Nat) : Int) else if o = i * 7 then .int .i64 (kA k0 L i : Int) else rf (Lm k0 L i) V o) :
    Rg w g (L.length * 7) (rf (Lm k0 L (i + 1)) V) := by
  refine ⟨h.lt, fun o ho => ?_, h.fz⟩
  rw [h.c o ho, hf o ho]
  congr 1
  have hq : o / 7 < L.length := by omega
  by_cases e : o / 7 = i
  · have hj : o % 7 < 7 := Nat.mod_lt _ (by omega)
    have ho7 : o = i * 7 + o % 7 := by omega
    unfold rf enF
    rw [e, Lm_at k0 L (i + 1) i hi, if_pos (Nat.lt_succ_self i), Lm_at k0 L i i hi, if_neg (Nat.lt_irrefl i)]
    generalize o % 7 = j at *
    subst ho7
    match j, hj with
    | 0, _ => simp [mE]
    | 1, _ => simp [mE]
    | 2, _ => simp [mE]
    | 3, _ => simp [mE]
    | 4, _ => simp [mE]
    | 5, _ => simp
    | 6, _ => simp [mE]
  · rw [if_neg (by omega), if_neg (by omega), if_neg (by omega), if_neg (by omega), if_neg (by omega), if_neg (by omega)]
    unfold rf
    rw [Lm_at k0 L (i + 1) _ hq, Lm_at k0 L i _ hq]
    by_cases e2 : o / 7 < i
    · rw [if_pos e2, if_pos (by omega)]
    · rw [if_neg e2, if_neg (by omega)]
end Go.Proofs.Ytbabipaipbjlbaa
