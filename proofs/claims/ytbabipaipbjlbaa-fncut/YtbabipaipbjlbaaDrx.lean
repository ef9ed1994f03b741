/-
  Contracts: the headers that the model draws.
-/
import Derived.Test.YtbabipaipbjlbaaXasX
import Derived.Test.YtbabipaipbjlbaaPrfX
import Derived.Deep.DeepCutAuto
import Derived.Deep.CutBlock
namespace Go.Proofs.Ytbabipaipbjlbaa.Dr
open Go.ChangeShapes Go.WideShapes Go.ChangeAt Go.RowKit
set_option linter.unusedVariables false
set_option maxRecDepth 100000

/-- a header's cells in a block of the call's own -/
structure Hx (w : World) (g : Nat) : Prop where
  lt : g < w.heap.size
  fz : ∀ o, w.frozen? ⟨g, o, none⟩ = false
  ci : ∀ i, i < 3 → ∃ x : Int, w.cell? ⟨g, i, none⟩ = some (.int .i64 x)
  ct : ∀ i, 3 ≤ i → i < 7 → ∃ t : ByteArray, w.cell? ⟨g, i, none⟩ = some (.string t)
  c7 : w.cell? ⟨g, 7, none⟩ = some (.slice none 0 0)
theorem Hx.block {w w' : World} {g : Nat} (h : Hx w g) (e : w'.heap[g]? = w.heap[g]?) (hz : w.heap.size ≤ w'.heap.size) : Hx w' g :=
  ⟨Nat.lt_of_lt_of_le h.lt hz, fun o => (World.frozen?_of_block (a := ⟨g, o, none⟩) e).trans (h.fz o),
    fun i hi => by obtain ⟨x, hx⟩ := h.ci i hi; exact ⟨x, (World.cell?_of_block (a := ⟨g, i, none⟩) e).trans hx⟩,
    fun i hi hj => by obtain ⟨x, hx⟩ := h.ct i hi hj; exact ⟨x, (World.cell?_of_block (a := ⟨g, i, none⟩) e).trans hx⟩,
    (World.cell?_of_block (a := ⟨g, 7, none⟩) e).trans h.c7⟩
theorem Hx.kx {cb g : Nat} {w w' : World} (h : Hx w g) (k : Kx cb w w') (hne : g ≠ cb) : Hx w' g := h.block (k.block g h.lt hne) k.size
theorem Hx.below {g : Nat} {w w' : World} (h : Hx w g) (k : Below w.heap.size w w') : Hx w' g := h.block (k.block g h.lt) k.size
theorem Hx.other {b o g : Nat} {w : World} (h : Hx w g) (v : Value) (hne : g ≠ b) : Hx (w.setCell ⟨b, o, none⟩ v) g :=
  h.block (Below.heap_setCell w ⟨b, o, none⟩ v g hne) (by simp [World.setCell])
theorem Hx.int {o g : Nat} {w : World} (h : Hx w g) (ho : o < 3) (x : Int) : Hx (w.setCell ⟨g, o, none⟩ (.int .i64 x)) g := by
  obtain ⟨y, hy⟩ := h.ci o ho
  refine ⟨by simpa [World.setCell] using h.lt, fun q => by rw [World.frozen?_setCell]; exact h.fz q, fun i hi => ?_, fun i hi hj => ?_, ?_⟩
  · by_cases e : i = o
    · subst e
      exact ⟨x, World.cell?_setCell_same _ _ _ hy⟩
    · obtain ⟨z, hz⟩ := h.ci i hi
      exact ⟨z, by rw [World.cell?_setCell_other _ _ _ _ (by intro e'; simp at e' <;> omega)]; exact hz⟩
  · obtain ⟨z, hz⟩ := h.ct i hi hj
    exact ⟨z, by rw [World.cell?_setCell_other _ _ _ _ (by intro e'; simp at e' <;> omega)]; exact hz⟩
  · rw [World.cell?_setCell_other _ _ _ _ (by intro e'; simp at e' <;> omega)]; exact h.c7
theorem Hx.txt {o g : Nat} {w : World} (h : Hx w g) (ho : 3 ≤ o) (ho2 : o < 7) (x : ByteArray) : Hx (w.setCell ⟨g, o, none⟩ (.string x)) g := by
  obtain ⟨y, hy⟩ := h.ct o ho ho2
  refine ⟨by simpa [World.setCell] using h.lt, fun q => by rw [World.frozen?_setCell]; exact h.fz q, fun i hi => ?_, fun i hi hj => ?_, ?_⟩
  · obtain ⟨z, hz⟩ := h.ci i hi
    exact ⟨z, by rw [World.cell?_setCell_other _ _ _ _ (by intro e'; simp at e' <;> omega)]; exact hz⟩
  · by_cases e : i = o
    · subst e
      exact ⟨x, World.cell?_setCell_same _ _ _ hy⟩
    · obtain ⟨z, hz⟩ := h.ct i hi hj
      exact ⟨z, by rw [World.cell?_setCell_other _ _ _ _ (by intro e'; simp at e' <;> omega)]; exact hz⟩
  · rw [World.cell?_setCell_other _ _ _ _ (by intro e'; simp at e' <;> omega)]; exact h.c7
theorem Hx.new (w : World) (t : TypeId) (x y z : Int) (a b c d : ByteArray) : Hx (w.alloc (.cells #[.int .i64 x, .int .i64 y, .int .i64 z, .string a, .string b, .string c, .string d, .slice none 0 0] t)) w.heap.size := by
  refine ⟨by simp, fun o => by simp, fun i hi => ?_, fun i hi hj => ?_, by simp⟩
  · have h3 : i = 0 ∨ i = 1 ∨ i = 2 := by omega
    rcases h3 with rfl | rfl | rfl
    · exact ⟨x, by simp⟩
    · exact ⟨y, by simp⟩
    · exact ⟨z, by simp⟩
  · have h3 : i = 3 ∨ i = 4 ∨ i = 5 ∨ i = 6 := by omega
    rcases h3 with rfl | rfl | rfl | rfl
    · exact ⟨a, by simp⟩
    · exact ⟨b, by simp⟩
    · exact ⟨c, by simp⟩
    · exact ⟨d, by simp⟩
/-- a header's cells while it is drawn: its texts are short, its versions lie in a row of the call's own from block B on -/
structure Hy (w : World) (g B M : Nat) : Prop where
  lt : g < w.heap.size
  fz : ∀ o, w.frozen? ⟨g, o, none⟩ = false
  ci : ∀ i, i < 3 → ∃ x : Int, w.cell? ⟨g, i, none⟩ = some (.int .i64 x)
  ct : ∀ i, 3 ≤ i → i < 7 → ∃ t : ByteArray, w.cell? ⟨g, i, none⟩ = some (.string t) ∧ t.size ≤ 2000
  c7 : ∃ (a : Option Addr) (n cap : Nat) (V : Nat → Int), w.cell? ⟨g, 7, none⟩ = some (.slice a n cap) ∧ Oi B w (.slice a n cap) n V ∧ (n ≤ M ∧ ∀ i, i < n → 0 ≤ V i ∧ V i ≤ 4294967295)
theorem oi_keep {B : Nat} {w w' : World} {v : Value} {n : Nat} {V : Nat → Int} (h : Oi B w v n V) (k : ∀ g, B ≤ g → g < w.heap.size → w'.heap[g]? = w.heap[g]?) : Oi B w' v n V := by
  refine ⟨h.1, ?_⟩
  rcases h.2 with hn | ⟨g, cap, cur, rfl, hg, hgg, rest⟩
  · exact .inl hn
  · exact .inr ⟨g, cap, cur, rfl, hg, (k g hg (Array.getElem?_eq_some_iff.1 hgg).1).trans hgg, rest⟩
theorem Hy.keep {w w' : World} {g B M : Nat} (h : Hy w g B M) (e : w'.heap[g]? = w.heap[g]?) (hz : w.heap.size ≤ w'.heap.size) (k : ∀ q, B ≤ q → q < w.heap.size → w'.heap[q]? = w.heap[q]?) : Hy w' g B M := by
  obtain ⟨a, n, cap, V, h1, h2, h3⟩ := h.c7
  exact ⟨Nat.lt_of_lt_of_le h.lt hz, fun o => (World.frozen?_of_block (a := ⟨g, o, none⟩) e).trans (h.fz o),
    fun i hi => by obtain ⟨x, hx⟩ := h.ci i hi; exact ⟨x, (World.cell?_of_block (a := ⟨g, i, none⟩) e).trans hx⟩,
    fun i hi hj => by obtain ⟨x, hx, hy⟩ := h.ct i hi hj; exact ⟨x, (World.cell?_of_block (a := ⟨g, i, none⟩) e).trans hx, hy⟩,
    ⟨a, n, cap, V, (World.cell?_of_block (a := ⟨g, 7, none⟩) e).trans h1, oi_keep h2 k, h3⟩⟩
theorem Hy.kx {cb g B M : Nat} {w w' : World} (h : Hy w g B M) (k : Kx cb w w') (hne : g ≠ cb) (hc : cb < B) : Hy w' g B M := h.keep (k.block g h.lt hne) k.size (fun q hq hl => k.block q hl (by omega))
theorem Hy.below {g B M : Nat} {w w' : World} (h : Hy w g B M) (k : Below w.heap.size w w') : Hy w' g B M := h.keep (k.block g h.lt) k.size (fun q _ hl => k.block q hl)
theorem Hy.int {o g B M : Nat} {w : World} (h : Hy w g B M) (hg : g < B) (ho : o < 3) (x : Int) : Hy (w.setCell ⟨g, o, none⟩ (.int .i64 x)) g B M := by
  obtain ⟨y, hy⟩ := h.ci o ho
  obtain ⟨a, n, cap, V, h1, h2, h3⟩ := h.c7
  refine ⟨by simpa [World.setCell] using h.lt, fun q => by rw [World.frozen?_setCell]; exact h.fz q, fun i hi => ?_, fun i hi hj => ?_, ⟨a, n, cap, V, ?_, ?_, h3⟩⟩
  · by_cases e : i = o
    · subst e
      exact ⟨x, World.cell?_setCell_same _ _ _ hy⟩
    · obtain ⟨z, hz⟩ := h.ci i hi
      exact ⟨z, by rw [World.cell?_setCell_other _ _ _ _ (by intro e'; simp at e' <;> omega)]; exact hz⟩
  · obtain ⟨z, hz, hz2⟩ := h.ct i hi hj
    exact ⟨z, by rw [World.cell?_setCell_other _ _ _ _ (by intro e'; simp at e' <;> omega)]; exact hz, hz2⟩
  · rw [World.cell?_setCell_other _ _ _ _ (by intro e'; simp at e' <;> omega)]; exact h1
  · exact oi_keep h2 (fun q hq hl => Below.heap_setCell w ⟨g, o, none⟩ _ q (by show q ≠ g; omega))
theorem Hy.txt {o g B M : Nat} {w : World} (h : Hy w g B M) (hg : g < B) (ho : 3 ≤ o) (ho2 : o < 7) (x : ByteArray) (hx : x.size ≤ 2000) : Hy (w.setCell ⟨g, o, none⟩ (.string x)) g B M := by
  obtain ⟨y, hy, _⟩ := h.ct o ho ho2
  obtain ⟨a, n, cap, V, h1, h2, h3⟩ := h.c7
  refine ⟨by simpa [World.setCell] using h.lt, fun q => by rw [World.frozen?_setCell]; exact h.fz q, fun i hi => ?_, fun i hi hj => ?_, ⟨a, n, cap, V, ?_, ?_, h3⟩⟩
  · obtain ⟨z, hz⟩ := h.ci i hi
    exact ⟨z, by rw [World.cell?_setCell_other _ _ _ _ (by intro e'; simp at e' <;> omega)]; exact hz⟩
  · by_cases e : i = o
    · subst e
      exact ⟨x, World.cell?_setCell_same _ _ _ hy, hx⟩
    · obtain ⟨z, hz, hz2⟩ := h.ct i hi hj
      exact ⟨z, by rw [World.cell?_setCell_other _ _ _ _ (by intro e'; simp at e' <;> omega)]; exact hz, hz2⟩
  · rw [World.cell?_setCell_other _ _ _ _ (by intro e'; simp at e' <;> omega)]; exact h1
  · exact oi_keep h2 (fun q hq hl => Below.heap_setCell w ⟨g, o, none⟩ _ q (by show q ≠ g; omega))
theorem Hy.row {g B M Q : Nat} {w : World} (h : Hy w g B M) (hg : g < B) (a : Option Addr) (n cap : Nat) (V : Nat → Int) (h2 : Oi B w (.slice a n cap) n V) (hn : n ≤ Q ∧ ∀ i, i < n → 0 ≤ V i ∧ V i ≤ 4294967295) : Hy (w.setCell ⟨g, 7, none⟩ (.slice a n cap)) g B Q := by
  obtain ⟨a0, n0, cap0, V0, h1, _, _⟩ := h.c7
  refine ⟨by simpa [World.setCell] using h.lt, fun q => by rw [World.frozen?_setCell]; exact h.fz q, fun i hi => ?_, fun i hi hj => ?_, ⟨a, n, cap, V, World.cell?_setCell_same _ _ _ h1, ?_, hn⟩⟩
  · obtain ⟨z, hz⟩ := h.ci i hi
    exact ⟨z, by rw [World.cell?_setCell_other _ _ _ _ (by intro e'; simp at e' <;> omega)]; exact hz⟩
  · obtain ⟨z, hz, hz2⟩ := h.ct i hi hj
    exact ⟨z, by rw [World.cell?_setCell_other _ _ _ _ (by intro e'; simp at e' <;> omega)]; exact hz, hz2⟩
  · exact oi_keep h2 (fun q hq hl => Below.heap_setCell w ⟨g, 7, none⟩ _ q (by show q ≠ g; omega))
theorem Hy.new (w : World) (x y : Int) (t u : ByteArray) (ht : t.size ≤ 2000) (hu : u.size ≤ 2000) : Hy (w.alloc (.cells #[.int .i64 x, .int .i64 y, .int .i64 0, .string t, .string ⟨#[]⟩, .string ⟨#[]⟩, .string u, .slice none 0 0] 49)) w.heap.size (w.heap.size + 1) 0 := by
  refine ⟨by simp, fun o => by simp, fun i hi => ?_, fun i hi hj => ?_, ⟨none, 0, 0, fun _ => 0, by simp, Oi.nil _ _ _, by omega, fun i hi => absurd hi (Nat.not_lt_zero i)⟩⟩
  · have h3 : i = 0 ∨ i = 1 ∨ i = 2 := by omega
    rcases h3 with rfl | rfl | rfl
    · exact ⟨x, by simp⟩
    · exact ⟨y, by simp⟩
    · exact ⟨0, by simp⟩
  · have h3 : i = 3 ∨ i = 4 ∨ i = 5 ∨ i = 6 := by omega
    rcases h3 with rfl | rfl | rfl | rfl
    · exact ⟨t, by simp, ht⟩
    · exact ⟨_, by simp; rfl, by show 0 ≤ _; omega⟩
    · exact ⟨_, by simp; rfl, by show 0 ≤ _; omega⟩
    · exact ⟨u, by simp, hu⟩
theorem Hy.most {g B M Q : Nat} {w : World} (h : Hy w g B M) (hq : M ≤ Q) : Hy w g B Q := by
  obtain ⟨a, n, cap, V, h1, h2, h3⟩ := h.c7
  exact ⟨h.lt, h.fz, h.ci, h.ct, ⟨a, n, cap, V, h1, h2, Nat.le_trans h3.1 hq, h3.2⟩⟩
/-- what lay below a bound before all is kept -/
theorem Cu.within {w0 w w' : World} {cb B : Nat} {a : Option Addr} {N cap P P0 : Nat} (h0 : Cu w0 cb a N cap P0) (h : Cu w cb a N cap P) (hb : Below B w w') (hB : w0.heap.size ≤ B) : Cu w' cb a N cap P := by
  have hl := h0.lt
  have hc : ∀ q : Nat, w'.cell? ⟨cb, q, none⟩ = w.cell? ⟨cb, q, none⟩ := fun q => hb.cell (p := ⟨cb, q, none⟩) (by show cb < B; omega)
  refine ⟨Nat.lt_of_lt_of_le h.lt hb.size, (hc 0).trans h.c0, ?_, ?_, fun q => ?_, ?_⟩
  · obtain ⟨p, h1, h2⟩ := h.c1
    exact ⟨p, h1, (hc 1).trans h2⟩
  · obtain ⟨s, h1, h2, h3⟩ := h.c2
    exact ⟨s, h1, h2, (hc 2).trans h3⟩
  · have := h.fz q
    rw [← this]
    exact World.frozen?_of_block (w := w) (a := ⟨cb, q, none⟩) (hb.block cb (by omega))
  · rcases h.cd with e | ⟨b, off, e, hl1, hn1, hx⟩
    · exact Or.inl e
    · rcases h0.cd with e0 | ⟨b0, off0, e0, hl0, _, _⟩
      · exact Or.inl e0
      · have hb0 : b = b0 := by
          rw [e] at e0
          simp at e0
          exact e0.1
        refine Or.inr ⟨b, off, e, Nat.lt_of_lt_of_le hl1 hb.size, hn1, fun i hi => ?_⟩
        obtain ⟨x, h1, h2⟩ := hx i hi
        exact ⟨x, h1, (hb.cell (p := ⟨b, off + i, none⟩) (by show b < B; omega)).trans h2⟩
/-- what holds while a header is drawn -/
structure Pq (w0 : World) (cb : Nat) (a : Option Addr) (N cap P rb hb M : Nat) (w : World) : Prop where
  u : Cu w cb a N cap P
  k : Kx cb w0 w
  r : Hx w rb
  h : Hy w hb (hb + 1) M
theorem Pq.step {w0 w w' : World} {cb : Nat} {a : Option Addr} {N cap P Q rb hb M : Nat} (p : Pq w0 cb a N cap P rb hb M w) (h1 : rb ≠ cb) (h2 : cb < hb) (u : Cu w' cb a N cap Q) (k : Kx cb w w') : Pq w0 cb a N cap Q rb hb M w' :=
  ⟨u, p.k.trans k, p.r.kx k h1, p.h.kx k (by omega) (by omega)⟩
theorem Pq.mono {w0 w : World} {cb : Nat} {a : Option Addr} {N cap P Q rb hb M : Nat} (p : Pq w0 cb a N cap P rb hb M w) (h : P ≤ Q) : Pq w0 cb a N cap Q rb hb M w := ⟨p.u.mono h, p.k, p.r, p.h⟩
theorem Pq.same {w0 w w' : World} {cb : Nat} {a : Option Addr} {N cap P rb hb M : Nat} (p : Pq w0 cb a N cap P rb hb M w) (b : Below w.heap.size w w') : Pq w0 cb a N cap P rb hb M w' :=
  ⟨p.u.same b, p.k.trans (Kx.of b), p.r.below b, p.h.below b⟩
theorem Pq.int {w0 w : World} {cb : Nat} {a : Option Addr} {N cap P P0 rb hb M o : Nat} (p : Pq w0 cb a N cap P rb hb M w) (h0 : Cu w0 cb a N cap P0) (hg : w0.heap.size ≤ hb) (hn : rb ≠ hb) (ho : o < 3) (x : Int) : Pq w0 cb a N cap P rb hb M (w.setCell ⟨hb, o, none⟩ (.int .i64 x)) :=
  ⟨h0.setNew p.u hg _ _, p.k.setNew hg _, p.r.other _ hn, p.h.int (by omega) ho x⟩
theorem Pq.txt {w0 w : World} {cb : Nat} {a : Option Addr} {N cap P P0 rb hb M o : Nat} (p : Pq w0 cb a N cap P rb hb M w) (h0 : Cu w0 cb a N cap P0) (hg : w0.heap.size ≤ hb) (hn : rb ≠ hb) (ho : 3 ≤ o) (ho2 : o < 7) (x : ByteArray) (hx : x.size ≤ 2000) : Pq w0 cb a N cap P rb hb M (w.setCell ⟨hb, o, none⟩ (.string x)) :=
  ⟨h0.setNew p.u hg _ _, p.k.setNew hg _, p.r.other _ hn, p.h.txt (by omega) ho ho2 x hx⟩
theorem Pq.row {w0 w w' : World} {cb : Nat} {a : Option Addr} {N cap P P0 rb hb M M' : Nat} (p : Pq w0 cb a N cap P rb hb M w) (h0 : Cu w0 cb a N cap P0) (hg : w0.heap.size ≤ hb) (hn : rb ≠ hb) {b : Option Addr} {n c : Nat} {V : Nat → Int} (bb : Below (hb + 1) w w') (ho : Oi (hb + 1) w' (.slice b n c) n V) (hr : n ≤ M' ∧ ∀ i, i < n → 0 ≤ V i ∧ V i ≤ 4294967295) (hrb : rb < hb + 1 := by omega) : Pq w0 cb a N cap P rb hb M' (w'.setCell ⟨hb, 7, none⟩ (.slice b n c)) := by
  have e : w'.heap[hb]? = w.heap[hb]? := bb.block hb (by omega)
  have u' := h0.within p.u bb (by omega)
  have k' : Kx cb w0 w' := ⟨bb.os.trans p.k.os, bb.tape.trans p.k.tape, bb.output.trans p.k.output, Nat.le_trans p.k.size bb.size, fun i hi hne => (bb.block i (by omega)).trans (p.k.block i hi hne)⟩
  obtain ⟨a1, n1, c1, V1, h1, _, _⟩ := p.h.c7
  have hy : Hy (w'.setCell ⟨hb, 7, none⟩ (.slice b n c)) hb (hb + 1) M' := by
    refine ⟨by simpa [World.setCell] using Nat.lt_of_lt_of_le p.h.lt bb.size, fun q => by rw [World.frozen?_setCell]; exact (World.frozen?_of_block (a := ⟨hb, q, none⟩) e).trans (p.h.fz q), fun i hi => ?_, fun i hi hj => ?_, ⟨b, n, c, V, World.cell?_setCell_same _ _ _ ((World.cell?_of_block (a := ⟨hb, 7, none⟩) e).trans h1), ?_, hr⟩⟩
    · obtain ⟨z, hz⟩ := p.h.ci i hi
      exact ⟨z, by rw [World.cell?_setCell_other _ _ _ _ (by intro e'; simp at e' <;> omega)]; exact (World.cell?_of_block (a := ⟨hb, i, none⟩) e).trans hz⟩
    · obtain ⟨z, hz, hz2⟩ := p.h.ct i hi hj
      exact ⟨z, by rw [World.cell?_setCell_other _ _ _ _ (by intro e'; simp at e' <;> omega)]; exact (World.cell?_of_block (a := ⟨hb, i, none⟩) e).trans hz, hz2⟩
    · exact oi_keep ho (fun q hq hl => Below.heap_setCell w' ⟨hb, 7, none⟩ _ q (by show q ≠ hb; omega))
  exact ⟨h0.setNew u' hg _ _, k'.setNew hg _, (p.r.block (bb.block rb hrb) bb.size).other _ hn, hy⟩
theorem snoc_in {V : Nat → Int} {n : Nat} {r : Int} (h : ∀ i, i < n → 0 ≤ V i ∧ V i ≤ 4294967295) (hr : 0 ≤ r ∧ r ≤ 4294967295) : ∀ i, i < n + 1 → 0 ≤ (fun i => if i < n then V i else r) i ∧ (fun i => if i < n then V i else r) i ≤ 4294967295 := by
  intro i hi
  by_cases e : i < n
  · simp only [e, if_true]; exact h i e
  · simp only [e, if_false]; exact hr
theorem oi_mono {base base' : Nat} {w : World} {v : Value} {n : Nat} {V : Nat → Int} (h : Oi base' w v n V) (hb : base ≤ base') : Oi base w v n V := by
  refine ⟨h.1, ?_⟩
  rcases h.2 with h1 | ⟨g, cap, cur, h1, hg, rest⟩
  · exact Or.inl h1
  · exact Or.inr ⟨g, cap, cur, h1, Nat.le_trans hb hg, rest⟩
theorem Pq.most {w0 w : World} {cb : Nat} {a : Option Addr} {N cap P rb hb M Q : Nat} (p : Pq w0 cb a N cap P rb hb M w) (h : M ≤ Q) : Pq w0 cb a N cap P rb hb Q w := ⟨p.u, p.k, p.r, p.h.most h⟩
set_option maxHeartbeats 4000000 in
theorem header_any (cb : Nat) (a : Option Addr) (N cap P : Nat) (w : World) (hN : N ≤ 1048576) (hP : P ≤ 100000) (h : Cu w cb a N cap P) :
    Calls Try.prog 42 #[.pointer (some ⟨cb, 0, none⟩)] w fun e w' => ∃ (x y z : Int) (p q t u : ByteArray) (b : Option Addr) (n c : Nat) (V : Nat → Int), e = .returned (.agg #[.int .i64 x, .int .i64 y, .int .i64 z, .string p, .string q, .string t, .string u, .slice b n c]) ∧ p.size ≤ 2000 ∧ q.size ≤ 2000 ∧ t.size ≤ 2000 ∧ u.size ≤ 2000 ∧ n ≤ 8 ∧ (∀ i, i < n → 0 ≤ V i ∧ V i ≤ 4294967295) ∧ Oi w.heap.size w' (.slice b n c) n V ∧ Cu w' cb a N cap (P + 1000) ∧ Kx cb w w' := by
  have HU := hide h
  have hcl := h.lt
  have r0 := Hx.new w 49 0 0 0 ⟨#[]⟩ ⟨#[]⟩ ⟨#[]⟩ ⟨#[]⟩
  have b0 := (Below.refl w.heap.size w).alloc (Nat.le_refl _) (.cells #[.int .i64 0, .int .i64 0, .int .i64 0, .string ⟨#[]⟩, .string ⟨#[]⟩, .string ⟨#[]⟩, .string ⟨#[]⟩, .slice none 0 0] 49)
  have hne : w.heap.size ≠ cb := by omega
  have u0 := h.same b0
  clear h
  go_enter Try.func42, Try.ntmps42
  go_wp2_with fail
  generalize w.alloc (.cells #[.int .i64 0, .int .i64 0, .int .i64 0, .string ⟨#[]⟩, .string ⟨#[]⟩, .string ⟨#[]⟩, .string ⟨#[]⟩, .slice none 0 0] 49) = W0 at *
  refine (pick_any cb a N cap P 6 _ hN (by omega) (by omega) (by omega) u0).mono ?_
  rintro e w1 ⟨r, rfl, hr0, hr1, u1, k1⟩
  have U1 := hide u1
  have K1 := hide ((Kx.of (cb := cb) b0).trans k1)
  have R1 := hide (r0.kx k1 hne)
  clear u1 k1 u0 b0 r0
  go_wp2_with fail
  refine (pick_any cb a N cap (P + 2) 16 _ hN (by omega) (by omega) (by omega) (unhide U1)).mono ?_
  rintro e w2 ⟨bi, rfl, hb0, hb1, u2, k2⟩
  have U2 := hide u2
  have K2 := hide ((unhide K1).trans k2)
  have R2 := hide ((unhide R1).kx k2 hne)
  clear u2 k2 U1 K1 R1
  go_wp2_with fail
  refine (id_any cb a N cap (P + 2 + 2) _ hN (by omega) (unhide U2)).mono ?_
  rintro e w3 ⟨t, rfl, ht, u3, k3⟩
  have U3 := hide u3
  have K3 := hide ((unhide K2).trans k3)
  have R3 := hide ((unhide R2).kx k3 hne)
  clear u3 k3 U2 K2 R2
  go_wp2_with fail
  refine (pick_any cb a N cap (P + 2 + 2 + 60) 20 _ hN (by omega) (by omega) (by omega) (unhide U3)).mono ?_
  rintro e w4 ⟨x4, rfl, hx0, hx1, u4, k4⟩
  have U4 := hide u4
  have K4 := hide ((unhide K3).trans k4)
  have R4 := hide ((unhide R3).kx k4 hne)
  clear u4 k4 U3 K3 R3
  obtain ⟨m4, rfl⟩ := Int.eq_ofNat_of_zero_le hx0
  have em : (1 : Int) + (m4 : Int) = ((1 + m4 : Nat) : Int) := by omega
  obtain ⟨m5, h5⟩ : ∃ m5 : Nat, m5 = 1 + m4 := ⟨_, rfl⟩
  have hm5 : m5 ≤ 20 := by omega
  rw [← h5] at em
  clear h5 hx0 hx1
  go_wp2_with fail
  refine (sizedBytes_any cb a N cap (P + 2 + 2 + 60 + 2) m5 _ hN (by omega) (by omega) (unhide U4)).mono ?_
  rintro e w5 ⟨f, rfl, hf, hA, u5, k5⟩
  have hst := ar_string hA (fun i _ => hf i) m5
  have hzu : (bq m5 f).size = m5 := bq_size _ _
  have U5 := hide u5
  have K5 := hide ((unhide K4).trans k5)
  have R5 := hide ((unhide R4).kx k5 hne)
  clear u5 k5 U4 K4 R4 hA hf
  generalize bq m5 f = u at *
  have hge : w.heap.size ≤ w5.heap.size := (unhide K5).size
  have hnr : w.heap.size ≠ w5.heap.size := by have := (unhide R5).lt; omega
  have hnc : cb < w5.heap.size := by omega
  have z5 := Hy.new w5 r bi t u (by omega) (by omega)
  have b5 := (Below.refl w5.heap.size w5).alloc (Nat.le_refl _) (.cells #[.int .i64 r, .int .i64 bi, .int .i64 0, .string t, .string ⟨#[]⟩, .string ⟨#[]⟩, .string u, .slice none 0 0] 49)
  have P5 : Hid (Pq w cb a N cap (P + 120) w.heap.size w5.heap.size 0 (w5.alloc (.cells #[.int .i64 r, .int .i64 bi, .int .i64 0, .string t, .string ⟨#[]⟩, .string ⟨#[]⟩, .string u, .slice none 0 0] 49))) :=
    ⟨((unhide U5).same b5).mono (by omega), (unhide K5).trans (Kx.of b5), (unhide R5).below b5, z5⟩
  have c0 : (w5.alloc (.cells #[.int .i64 r, .int .i64 bi, .int .i64 0, .string t, .string ⟨#[]⟩, .string ⟨#[]⟩, .string u, .slice none 0 0] 49)).cell? ⟨w5.heap.size, 0, none⟩ = some (.int .i64 r) := by simp
  clear z5 b5 U5 K5 R5
  go_upto_if 20 with fail
  generalize w5.alloc (.cells #[.int .i64 r, .int .i64 bi, .int .i64 0, .string t, .string ⟨#[]⟩, .string ⟨#[]⟩, .string u, .slice none 0 0] 49) = W5 at *
  generalize w5.heap.size = hb at *
  go_cut [] (fun wx => Pq w cb a N cap (P + 190) w.heap.size hb 0 wx)
  case first =>
    by_cases h5 : r = 5
    · have g5 : (r != 5) = false := by simp [h5]
      clear h5
      go_wp2_with fail
      go_meet
      exact (unhide P5).mono (by omega)
    · have g5 : (r != 5) = true := by simp [h5]
      clear h5
      go_wp2_with fail
      refine (id_any cb a N cap (P + 120) _ hN (by omega) (unhide P5).u).mono ?_
      rintro e w6 ⟨t2, rfl, ht2, uu, kk⟩
      have P6 := hide ((unhide P5).step hne hnc uu kk)
      clear uu kk P5 c0
      obtain ⟨y4, e4, _⟩ := (unhide P6).h.ct 4 (by omega) (by omega)
      have f4 := (unhide P6).h.fz 4
      go_wp2_with fail
      have P7 := hide ((unhide P6).txt (unhide HU) hge hnr (o := 4) (by omega) (by omega) t2 (by omega))
      have hz7 : (w6.setCell ⟨hb, 4, none⟩ (.string t2)).heap.size = w6.heap.size := by simp [World.setCell]
      generalize w6.setCell ⟨hb, 4, none⟩ (.string t2) = W7 at *
      clear e4 f4 P6
      have hx := lit_cells W7 [1, 1, 4294967295, 1798521807] 3 (fun x => 0 ≤ x) (by decide)
      have b1 := (Below.refl W7.heap.size W7).alloc (Nat.le_refl _) (.cells #[.int .i64 1, .int .i64 1, .int .i64 4294967295, .int .i64 1798521807] 3)
      have hl1 : W7.heap.size < (W7.alloc (.cells #[.int .i64 1, .int .i64 1, .int .i64 4294967295, .int .i64 1798521807] 3)).heap.size := by simp
      have hlc : W7.heap.size ≠ cb := by have := (unhide P7).h.lt; omega
      have PX := hide ((unhide P7).same b1)
      change ∀ i, i < 4 → ∃ x : Int, (0 ≤ x) ∧ (W7.alloc (.cells #[.int .i64 1, .int .i64 1, .int .i64 4294967295, .int .i64 1798521807] 3)).cell? ⟨W7.heap.size, i, none⟩ = some (.int .i64 x) at hx
      rw [hz7] at hx hl1 hlc
      generalize W7.alloc (.cells #[.int .i64 1, .int .i64 1, .int .i64 4294967295, .int .i64 1798521807] 3) = WX at *
      refine (among_any cb a N cap (P + 120 + 60) w6.heap.size 4 4 (fun x => 0 ≤ x) _ hN (by omega) (by omega) (by omega) hl1 hlc hx (unhide PX).u).mono ?_
      rintro e w8 ⟨rv, rfl, hrv, uu, kk⟩
      have P8 := hide ((unhide PX).step hne hnc uu kk)
      clear uu kk PX P7 hx b1 hl1 hlc hz7
      obtain ⟨y2, e2⟩ := (unhide P8).h.ci 2 (by omega)
      have f2 := (unhide P8).h.fz 2
      go_wp2_with fail
      go_meet
      exact ((unhide P8).int (unhide HU) hge hnr (o := 2) (by omega) rv).mono (by omega)
  case rest =>
  have P9 := hide hcut
  clear hcut P5 c0
  obtain ⟨x0, c0⟩ := (unhide P9).h.ci 0 (by omega)
  go_upto_region 5 with fail
  go_cut [34] (fun s34 wx => (∃ b : Bool, s34 = .bool b) ∧ Pq w cb a N cap (P + 192) w.heap.size hb 0 wx)
  case first =>
    by_cases h0 : x0 = 0
    · subst h0
      go_wp2_with fail
      refine (one_any cb a N cap (P + 190) 2 _ hN (by omega) (by omega) (by omega) (unhide P9).u).mono ?_
      rintro e w6 ⟨rb, rfl, uu, kk⟩
      have PA := hide ((unhide P9).step hne hnc uu kk)
      clear uu kk P9 c0
      go_wp2_with fail
      go_meet
      exact ⟨⟨_, rfl⟩, (unhide PA).mono (by omega)⟩
    · have g0 : (x0 == 0) = false := by simp [h0]
      clear h0
      go_wp2_with fail
      go_meet
      exact ⟨⟨_, rfl⟩, (unhide P9).mono (by omega)⟩
  case rest =>
  obtain ⟨⟨b34, rfl⟩, hc⟩ := hcut
  have PA := hide hc
  clear hc P9 c0
  go_upto_if 34 with fail
  go_cut [] (fun wx => Pq w cb a N cap (P + 400) w.heap.size hb 0 wx)
  case first =>
    cases b34 with
    | true =>
      go_wp2_with fail
      refine (pick_any cb a N cap (P + 192) 80 _ hN (by omega) (by omega) (by omega) (unhide PA).u).mono ?_
      rintro e wI ⟨x, rfl, hx0, hx1, uu, kk⟩
      have PI := hide ((unhide PA).step hne hnc uu kk)
      clear uu kk PA
      obtain ⟨m9, rfl⟩ := Int.eq_ofNat_of_zero_le hx0
      go_wp2_with fail
      refine (sizedBytes_any cb a N cap (P + 192 + 2) m9 _ hN (by omega) (by omega) (unhide PI).u).mono ?_
      rintro e wJ ⟨f, rfl, hf, hA, uu, kk⟩
      have hst := ar_string hA (fun i _ => hf i) m9
      have hz9 : (bq m9 f).size = m9 := bq_size _ _
      have PJ := hide ((unhide PI).step hne hnc uu kk)
      clear uu kk PI hA hf
      generalize bq m9 f = t9 at *
      obtain ⟨y5, e5, _⟩ := (unhide PJ).h.ct 5 (by omega) (by omega)
      have f5 := (unhide PJ).h.fz 5
      go_wp2_with fail
      go_meet
      exact ((unhide PJ).txt (unhide HU) hge hnr (o := 5) (by omega) (by omega) t9 (by omega)).mono (by omega)
    | false =>
      go_wp2_with fail
      go_meet
      exact (unhide PA).mono (by omega)
  case rest =>
  have PB := hide hcut
  clear hcut PA
  obtain ⟨x1, c0⟩ := (unhide PB).h.ci 0 (by omega)
  go_upto_if 43 with fail
  go_cut [] (fun wx => Pq w cb a N cap (P + 420) w.heap.size hb 4 wx)
  case first =>
    by_cases h4 : x1 = 4
    · subst h4
      obtain ⟨y2, e2⟩ := (unhide PB).h.ci 2 (by omega)
      have f2 := (unhide PB).h.fz 2
      obtain ⟨y6, e6, _⟩ := (unhide PB).h.ct 6 (by omega) (by omega)
      have f6 := (unhide PB).h.fz 6
      go_wp2_with fail
      have PC := hide (((unhide PB).int (unhide HU) hge hnr (o := 2) (by omega) 0).txt (unhide HU) hge hnr (o := 6) (by omega) (by omega) ⟨#[]⟩ (by show 0 ≤ _; omega))
      generalize (wc.setCell ⟨hb, 2, none⟩ (.int .i64 0)).setCell ⟨hb, 6, none⟩ (.string ⟨#[]⟩) = WC at *
      clear e2 f2 e6 f6 PB c0
      refine (pick_any cb a N cap (P + 400) 4 _ hN (by omega) (by omega) (by omega) (unhide PC).u).mono ?_
      rintro e wD ⟨x, rfl, hx0, hx1, uu, kk⟩
      have PD := hide ((unhide PC).step hne hnc uu kk)
      clear uu kk PC
      obtain ⟨m9, rfl⟩ := Int.eq_ofNat_of_zero_le hx0
      have em : (1 : Int) + (m9 : Int) = ((1 + m9 : Nat) : Int) := by omega
      obtain ⟨q9, h9⟩ : ∃ q9 : Nat, q9 = 1 + m9 := ⟨_, rfl⟩
      have hq9 : q9 ≤ 4 := by omega
      rw [← h9] at em
      clear h9 hx0 hx1
      go_wp2_with fail
      obtain ⟨i0, hi, hz0, hz1, hz2⟩ := infoI_parts
      go_loopw [4] (fun nv wr => ∃ k : Nat, k ≤ 4 ∧ nv = .int .i64 k ∧ Pq w cb a N cap (P + 402 + 2 * (4 - k)) w.heap.size hb (4 - k) wr) (fun nv _ => (intOf nv).toNat)
      case atStart => exact ⟨q9, hq9, rfl, ((unhide PD).mono (by omega)).most (by omega)⟩
      case round =>
        obtain ⟨k, hk, rfl, pr⟩ := hrel
        have PR := hide pr
        clear pr PD
        by_cases hk0 : k = 0
        · subst hk0
          go_wp2_with fail
          go_meet
          exact ((unhide PR).mono (by omega)).most (by omega)
        · have hkp : (0 : Int) < (k : Int) := by omega
          obtain ⟨va, vn, vc, V0', c7, o7, n7⟩ := (unhide PR).h.c7
          have HO := hide o7
          have n71 := n7.1
          have HV := hide n7.2
          clear n7
          have f7 := (unhide PR).h.fz 7
          clear o7
          go_upto_region 13 with fail
-- ROUND
          have Q0 := hide ((unhide PR).same (Below.refl wr.heap.size wr).drew)
          have d0 : wr.drew.cell? ⟨hb, 7, none⟩ = some (.slice va vn vc) := c7
          have O0 : Hid (Oi (hb + 1) wr.drew (.slice va vn vc) vn V0') := unhide HO
          clear PR HO c7 f7
          refine wp_region_held_drew (S := fun _ => True) (by kernel_rfl) True.intro (fun hHeld => ?_)
          generalize wr.drew = V0 at *
          refine wpAnyH_take (i := 0) (v := ?_) rfl (by kernel_rfl) (by kernel_rfl) (by kernel_rfl) (fun _ _ _ h => h) (Or.inl ⟨by rfl, ?_⟩) hHeld ?_
          rotate_left
          · intro V hSw; go_simp; rfl
          try simp only [Act.put, List.getElem_toArray, List.getElem_cons_zero, List.setIfInBounds_toArray, List.set_cons_zero, List.set_cons_succ]
          refine wpAnyH_take (i := 2) (v := ?_) rfl (by kernel_rfl) (by kernel_rfl) (by kernel_rfl) (fun _ _ _ h => h) (Or.inl ⟨by rfl, ?_⟩) hHeld ?_
          rotate_left
          · intro V hSw; go_simp; rfl
          try simp only [Act.put, List.getElem_toArray, List.getElem_cons_succ, List.getElem_cons_zero, List.setIfInBounds_toArray, List.set_cons_zero, List.set_cons_succ]
          refine wpAnyH_ready (rs := [1, 3]) (by kernel_rfl) (by simp) ?_
          refine AllReadyH.cons rfl (fun K hK => ?_) (AllReadyH.cons rfl (fun K hK => ?_) AllReadyH.nil)
          · go_simp
            refine hK.out _ _ True.intro (fun hHeld => ?_)
            clear hK K
            try simp only [Act.put, List.getElem_toArray, List.getElem_cons_succ, List.getElem_cons_zero, List.setIfInBounds_toArray, List.set_cons_zero, List.set_cons_succ]
            refine wpAnyH_ready (rs := [3]) (by kernel_rfl) (by simp) ?_
            refine AllReadyH.cons rfl (fun K hK => ?_) AllReadyH.nil
            go_simp
            refine hK.out _ _ True.intro (fun hHeld => ?_)
            clear hK K
            try simp only [Act.put, List.getElem_toArray, List.getElem_cons_succ, List.getElem_cons_zero, List.setIfInBounds_toArray, List.set_cons_zero, List.set_cons_succ]
            have hx := lit_cells V0 [0, 1, 4294967295, 7] 3 (fun x => 0 ≤ x ∧ x ≤ 4294967295) (by decide)
            change ∀ i, i < 4 → ∃ x : Int, (0 ≤ x ∧ x ≤ 4294967295) ∧ (V0.alloc (.cells #[.int .i64 0, .int .i64 1, .int .i64 4294967295, .int .i64 7] 3)).cell? ⟨V0.heap.size, i, none⟩ = some (.int .i64 x) at hx
            have hl1 : V0.heap.size < (V0.alloc (.cells #[.int .i64 0, .int .i64 1, .int .i64 4294967295, .int .i64 7] 3)).heap.size := by simp
            have hlc : V0.heap.size ≠ cb := by have := (unhide Q0).h.lt; omega
            have bb := (Below.refl V0.heap.size V0).alloc (Nat.le_refl _) (.cells #[.int .i64 0, .int .i64 1, .int .i64 4294967295, .int .i64 7] 3)
            have Q1 := hide ((unhide Q0).same bb)
            have d1 : (V0.alloc (.cells #[.int .i64 0, .int .i64 1, .int .i64 4294967295, .int .i64 7] 3)).cell? ⟨hb, 7, none⟩ = some (.slice va vn vc) := (bb.cell (p := ⟨hb, 7, none⟩) (unhide Q0).h.lt).trans d0
            have O1 := hide (oi_keep (unhide O0) (fun q _ hl => bb.block q hl))
            clear bb
            generalize V0.alloc (.cells #[.int .i64 0, .int .i64 1, .int .i64 4294967295, .int .i64 7] 3) = V1 at *
            have HM := hide (among_any cb a N cap (P + 402 + 2 * (4 - k)) V0.heap.size 4 4 (fun x => 0 ≤ x ∧ x ≤ 4294967295) V1 hN (by omega) (by omega) (by omega) hl1 hlc hx (unhide Q1).u)
            clear hx hl1 hlc Q0 d0 O0
            generalize V0.heap.size = lb at HM ⊢
            refine wpAnyH_ready (rs := [4]) (by kernel_rfl) (by simp) ?_
            refine AllReadyH.cons rfl (fun K hK => ?_) AllReadyH.nil
            go_simp
            go_at_call 45
            with_reducible refine (unhide HM).mono ?_
            rintro e V2 ⟨rv, rfl, hrv, uu, kk⟩
            refine hK.out _ _ True.intro (fun hHeld => ?_)
            clear hK K
            try simp only [Act.put, List.getElem_toArray, List.getElem_cons_succ, List.getElem_cons_zero, List.setIfInBounds_toArray, List.set_cons_zero, List.set_cons_succ]
            have Q2 := hide ((unhide Q1).step hne hnc uu kk)
            have d2 : V2.cell? ⟨hb, 7, none⟩ = some (.slice va vn vc) := (kk.cell (p := ⟨hb, 7, none⟩) (unhide Q1).h.lt (by show hb ≠ cb; omega)).trans d1
            have O2 := hide (oi_keep (unhide O1) (fun q hq hl => kk.block q hl (by omega)))
            clear uu kk HM Q1 d1 O1
            have HR := hide hrv
            clear hrv
            refine wpAnyH_ready (rs := [5]) (by kernel_rfl) (by simp) ?_
            refine AllReadyH.cons rfl (fun K hK => ?_) AllReadyH.nil
            go_simp
            refine hK.out _ _ True.intro (fun hHeld => ?_)
            clear hK K
            try simp only [Act.put, List.getElem_toArray, List.getElem_cons_succ, List.getElem_cons_zero, List.setIfInBounds_toArray, List.set_cons_zero, List.set_cons_succ]
            have hnew : Hid (∀ j u, ([.int .i64 rv] : List Value)[j]? = some u → (V2.alloc (.cells #[.int .i64 rv] 3)).cell? ((⟨V2.heap.size, 0, none⟩ : Addr).add j) = some u) := fun j u hu => by
              cases j with
              | zero => simp at hu; subst hu; simp [Addr.add]
              | succ j => simp at hu
            have hz9 : Hid ((V2.alloc (.cells #[.int .i64 rv] 3)).heap.size = V2.heap.size + 1) := by show _ = _; simp
            have hb9 : hb < V2.heap.size := (unhide Q2).h.lt
            have bb := (Below.refl V2.heap.size V2).alloc (Nat.le_refl _) (.cells #[.int .i64 rv] 3)
            have Q3 := hide ((unhide Q2).same bb)
            have d3 : (V2.alloc (.cells #[.int .i64 rv] 3)).cell? ⟨hb, 7, none⟩ = some (.slice va vn vc) := (bb.cell (p := ⟨hb, 7, none⟩) (unhide Q2).h.lt).trans d2
            have O3 := hide (oi_keep (unhide O2) (fun q _ hl => bb.block q hl))
            clear bb
            generalize V2.alloc (.cells #[.int .i64 rv] 3) = V3 at *
            generalize V2.heap.size = nb at *
            clear Q2 d2 O2
            refine wpAnyH_ready (rs := [6]) (by kernel_rfl) (by simp) ?_
            refine AllReadyH.cons rfl (fun K hK => ?_) AllReadyH.nil
            refine step_append_lies _ rfl _ _ 47 rfl (hb + 1) 3 i0 (.int .i64 0) 1 8 Try.underlying47 hi hz0 hz1 hz2 rfl (by decide) (.slice va vn vc) vn (iv vn V0') rfl (unhide O3) ⟨nb, 0, none⟩ 1 1 [.int .i64 rv] rfl rfl (unhide hnew) (by intro u hu; simp at hu; subst hu; rfl) (by omega) (by unfold maxLen; omega) (by omega) (by have := unhide hz9; omega) (nb + 1) (unhide hz9) ?_
            intro g gc V4 hown hgrow hat hlt'
            refine hK.out _ _ True.intro (fun hHeld => ?_)
            clear hK K
            try simp only [Act.put, List.getElem_toArray, List.getElem_cons_succ, List.getElem_cons_zero, List.setIfInBounds_toArray, List.set_cons_zero, List.set_cons_succ]
            have bb : Below (hb + 1) V3 V4 := Oi.below (unhide O3) hgrow (by have := unhide hz9; omega)
            have d4 : V4.cell? ⟨hb, 7, none⟩ = some (.slice va vn vc) := (bb.cell (p := ⟨hb, 7, none⟩) (by show hb < hb + 1; omega)).trans d3
            have f9 : V4.frozen? ⟨hb, 7, none⟩ = false := (World.frozen?_of_block (a := ⟨hb, 7, none⟩) (bb.block hb (by omega))).trans ((unhide Q3).h.fz 7)
            have NEW : Hid (Oi (hb + 1) V4 (.slice (some ⟨g, 0, none⟩) (vn + 1) gc) (vn + 1) (fun i => if i < vn then V0' i else rv)) := by
              have e9 : iv vn V0' ++ [.int .i64 rv] = iv (vn + 1) (fun i => if i < vn then V0' i else rv) := by
                rw [← iv_succ]
                congr 1
                · exact List.map_congr_left (fun i hi => by rw [List.mem_range] at hi; simp [hi])
                · simp
              show World.ownsRow _ _ _ _ _ _ _
              rw [← e9]
              exact hown
            have FIN := hide (Pq.row (unhide Q3) (unhide HU) hge hnr bb (unhide NEW) (M' := 4 - (k - 1)) ⟨by omega, snoc_in (unhide HV) (unhide HR)⟩)
            clear hown hgrow hat hlt' bb NEW hnew hz9 Q3 d3 O3
            refine wpAnyH_take (i := 7) (v := ?_) rfl (by kernel_rfl) (by kernel_rfl) (by kernel_rfl) (fun _ _ _ h => h) (Or.inl ⟨by rfl, ?_⟩) hHeld ?_
            rotate_left
            · intro V hSw; go_simp; rfl
            try simp only [Act.put, List.getElem_toArray, List.getElem_cons_succ, List.getElem_cons_zero, List.setIfInBounds_toArray, List.set_cons_zero, List.set_cons_succ]
            refine wpAnyH_ready (rs := [8]) (by kernel_rfl) (by simp) ?_
            refine AllReadyH.cons rfl (fun K hK => ?_) AllReadyH.nil
            go_simp
            refine hK.out _ _ True.intro (fun hHeld => ?_)
            clear hK K
            try simp only [Act.put, List.getElem_toArray, List.getElem_cons_succ, List.getElem_cons_zero, List.setIfInBounds_toArray, List.set_cons_zero, List.set_cons_succ]
            refine wpAnyH_done (by kernel_rfl) ?_ _
            try simp only [List.getElem_toArray, List.getElem_cons_succ, List.getElem_cons_zero]
            generalize V4.setCell ⟨hb, 7, none⟩ (.slice (some ⟨g, 0, none⟩) (vn + 1) gc) = VZ at *
            clear d4 f9
            go_wp2
            exact ⟨⟨k - 1, by omega, by go_num, (unhide FIN).mono (by omega)⟩, by simp [intOf]; omega⟩
          · go_simp
            refine hK.out _ _ True.intro (fun hHeld => ?_)
            clear hK K
            try simp only [Act.put, List.getElem_toArray, List.getElem_cons_succ, List.getElem_cons_zero, List.setIfInBounds_toArray, List.set_cons_zero, List.set_cons_succ]
            have hx := lit_cells V0 [0, 1, 4294967295, 7] 3 (fun x => 0 ≤ x ∧ x ≤ 4294967295) (by decide)
            change ∀ i, i < 4 → ∃ x : Int, (0 ≤ x ∧ x ≤ 4294967295) ∧ (V0.alloc (.cells #[.int .i64 0, .int .i64 1, .int .i64 4294967295, .int .i64 7] 3)).cell? ⟨V0.heap.size, i, none⟩ = some (.int .i64 x) at hx
            have hl1 : V0.heap.size < (V0.alloc (.cells #[.int .i64 0, .int .i64 1, .int .i64 4294967295, .int .i64 7] 3)).heap.size := by simp
            have hlc : V0.heap.size ≠ cb := by have := (unhide Q0).h.lt; omega
            have bb := (Below.refl V0.heap.size V0).alloc (Nat.le_refl _) (.cells #[.int .i64 0, .int .i64 1, .int .i64 4294967295, .int .i64 7] 3)
            have Q1 := hide ((unhide Q0).same bb)
            have d1 : (V0.alloc (.cells #[.int .i64 0, .int .i64 1, .int .i64 4294967295, .int .i64 7] 3)).cell? ⟨hb, 7, none⟩ = some (.slice va vn vc) := (bb.cell (p := ⟨hb, 7, none⟩) (unhide Q0).h.lt).trans d0
            have O1 := hide (oi_keep (unhide O0) (fun q _ hl => bb.block q hl))
            clear bb
            generalize V0.alloc (.cells #[.int .i64 0, .int .i64 1, .int .i64 4294967295, .int .i64 7] 3) = V1 at *
            have HM := hide (among_any cb a N cap (P + 402 + 2 * (4 - k)) V0.heap.size 4 4 (fun x => 0 ≤ x ∧ x ≤ 4294967295) V1 hN (by omega) (by omega) (by omega) hl1 hlc hx (unhide Q1).u)
            clear hx hl1 hlc Q0 d0 O0
            generalize V0.heap.size = lb at HM ⊢
            refine wpAnyH_ready (rs := [1, 4]) (by kernel_rfl) (by simp) ?_
            refine AllReadyH.cons rfl (fun K hK => ?_) (AllReadyH.cons rfl (fun K hK => ?_) AllReadyH.nil)
            · go_simp
              refine hK.out _ _ True.intro (fun hHeld => ?_)
              clear hK K
              try simp only [Act.put, List.getElem_toArray, List.getElem_cons_succ, List.getElem_cons_zero, List.setIfInBounds_toArray, List.set_cons_zero, List.set_cons_succ]
              refine wpAnyH_ready (rs := [4]) (by kernel_rfl) (by simp) ?_
              refine AllReadyH.cons rfl (fun K hK => ?_) AllReadyH.nil
              go_simp
              go_at_call 45
              with_reducible refine (unhide HM).mono ?_
              rintro e V2 ⟨rv, rfl, hrv, uu, kk⟩
              refine hK.out _ _ True.intro (fun hHeld => ?_)
              clear hK K
              try simp only [Act.put, List.getElem_toArray, List.getElem_cons_succ, List.getElem_cons_zero, List.setIfInBounds_toArray, List.set_cons_zero, List.set_cons_succ]
              have Q2 := hide ((unhide Q1).step hne hnc uu kk)
              have d2 : V2.cell? ⟨hb, 7, none⟩ = some (.slice va vn vc) := (kk.cell (p := ⟨hb, 7, none⟩) (unhide Q1).h.lt (by show hb ≠ cb; omega)).trans d1
              have O2 := hide (oi_keep (unhide O1) (fun q hq hl => kk.block q hl (by omega)))
              clear uu kk HM Q1 d1 O1
              have HR := hide hrv
              clear hrv
              refine wpAnyH_ready (rs := [5]) (by kernel_rfl) (by simp) ?_
              refine AllReadyH.cons rfl (fun K hK => ?_) AllReadyH.nil
              go_simp
              refine hK.out _ _ True.intro (fun hHeld => ?_)
              clear hK K
              try simp only [Act.put, List.getElem_toArray, List.getElem_cons_succ, List.getElem_cons_zero, List.setIfInBounds_toArray, List.set_cons_zero, List.set_cons_succ]
              have hnew : Hid (∀ j u, ([.int .i64 rv] : List Value)[j]? = some u → (V2.alloc (.cells #[.int .i64 rv] 3)).cell? ((⟨V2.heap.size, 0, none⟩ : Addr).add j) = some u) := fun j u hu => by
                cases j with
                | zero => simp at hu; subst hu; simp [Addr.add]
                | succ j => simp at hu
              have hz9 : Hid ((V2.alloc (.cells #[.int .i64 rv] 3)).heap.size = V2.heap.size + 1) := by show _ = _; simp
              have hb9 : hb < V2.heap.size := (unhide Q2).h.lt
              have bb := (Below.refl V2.heap.size V2).alloc (Nat.le_refl _) (.cells #[.int .i64 rv] 3)
              have Q3 := hide ((unhide Q2).same bb)
              have d3 : (V2.alloc (.cells #[.int .i64 rv] 3)).cell? ⟨hb, 7, none⟩ = some (.slice va vn vc) := (bb.cell (p := ⟨hb, 7, none⟩) (unhide Q2).h.lt).trans d2
              have O3 := hide (oi_keep (unhide O2) (fun q _ hl => bb.block q hl))
              clear bb
              generalize V2.alloc (.cells #[.int .i64 rv] 3) = V3 at *
              generalize V2.heap.size = nb at *
              clear Q2 d2 O2
              refine wpAnyH_ready (rs := [6]) (by kernel_rfl) (by simp) ?_
              refine AllReadyH.cons rfl (fun K hK => ?_) AllReadyH.nil
              refine step_append_lies _ rfl _ _ 47 rfl (hb + 1) 3 i0 (.int .i64 0) 1 8 Try.underlying47 hi hz0 hz1 hz2 rfl (by decide) (.slice va vn vc) vn (iv vn V0') rfl (unhide O3) ⟨nb, 0, none⟩ 1 1 [.int .i64 rv] rfl rfl (unhide hnew) (by intro u hu; simp at hu; subst hu; rfl) (by omega) (by unfold maxLen; omega) (by omega) (by have := unhide hz9; omega) (nb + 1) (unhide hz9) ?_
              intro g gc V4 hown hgrow hat hlt'
              refine hK.out _ _ True.intro (fun hHeld => ?_)
              clear hK K
              try simp only [Act.put, List.getElem_toArray, List.getElem_cons_succ, List.getElem_cons_zero, List.setIfInBounds_toArray, List.set_cons_zero, List.set_cons_succ]
              have bb : Below (hb + 1) V3 V4 := Oi.below (unhide O3) hgrow (by have := unhide hz9; omega)
              have d4 : V4.cell? ⟨hb, 7, none⟩ = some (.slice va vn vc) := (bb.cell (p := ⟨hb, 7, none⟩) (by show hb < hb + 1; omega)).trans d3
              have f9 : V4.frozen? ⟨hb, 7, none⟩ = false := (World.frozen?_of_block (a := ⟨hb, 7, none⟩) (bb.block hb (by omega))).trans ((unhide Q3).h.fz 7)
              have NEW : Hid (Oi (hb + 1) V4 (.slice (some ⟨g, 0, none⟩) (vn + 1) gc) (vn + 1) (fun i => if i < vn then V0' i else rv)) := by
                have e9 : iv vn V0' ++ [.int .i64 rv] = iv (vn + 1) (fun i => if i < vn then V0' i else rv) := by
                  rw [← iv_succ]
                  congr 1
                  · exact List.map_congr_left (fun i hi => by rw [List.mem_range] at hi; simp [hi])
                  · simp
                show World.ownsRow _ _ _ _ _ _ _
                rw [← e9]
                exact hown
              have FIN := hide (Pq.row (unhide Q3) (unhide HU) hge hnr bb (unhide NEW) (M' := 4 - (k - 1)) ⟨by omega, snoc_in (unhide HV) (unhide HR)⟩)
              clear hown hgrow hat hlt' bb NEW hnew hz9 Q3 d3 O3
              refine wpAnyH_take (i := 7) (v := ?_) rfl (by kernel_rfl) (by kernel_rfl) (by kernel_rfl) (fun _ _ _ h => h) (Or.inl ⟨by rfl, ?_⟩) hHeld ?_
              rotate_left
              · intro V hSw; go_simp; rfl
              try simp only [Act.put, List.getElem_toArray, List.getElem_cons_succ, List.getElem_cons_zero, List.setIfInBounds_toArray, List.set_cons_zero, List.set_cons_succ]
              refine wpAnyH_ready (rs := [8]) (by kernel_rfl) (by simp) ?_
              refine AllReadyH.cons rfl (fun K hK => ?_) AllReadyH.nil
              go_simp
              refine hK.out _ _ True.intro (fun hHeld => ?_)
              clear hK K
              try simp only [Act.put, List.getElem_toArray, List.getElem_cons_succ, List.getElem_cons_zero, List.setIfInBounds_toArray, List.set_cons_zero, List.set_cons_succ]
              refine wpAnyH_done (by kernel_rfl) ?_ _
              try simp only [List.getElem_toArray, List.getElem_cons_succ, List.getElem_cons_zero]
              generalize V4.setCell ⟨hb, 7, none⟩ (.slice (some ⟨g, 0, none⟩) (vn + 1) gc) = VZ at *
              clear d4 f9
              go_wp2
              exact ⟨⟨k - 1, by omega, by go_num, (unhide FIN).mono (by omega)⟩, by simp [intOf]; omega⟩
            · go_simp
              go_at_call 45
              with_reducible refine (unhide HM).mono ?_
              rintro e V2 ⟨rv, rfl, hrv, uu, kk⟩
              refine hK.out _ _ True.intro (fun hHeld => ?_)
              clear hK K
              try simp only [Act.put, List.getElem_toArray, List.getElem_cons_succ, List.getElem_cons_zero, List.setIfInBounds_toArray, List.set_cons_zero, List.set_cons_succ]
              have Q2 := hide ((unhide Q1).step hne hnc uu kk)
              have d2 : V2.cell? ⟨hb, 7, none⟩ = some (.slice va vn vc) := (kk.cell (p := ⟨hb, 7, none⟩) (unhide Q1).h.lt (by show hb ≠ cb; omega)).trans d1
              have O2 := hide (oi_keep (unhide O1) (fun q hq hl => kk.block q hl (by omega)))
              clear uu kk HM Q1 d1 O1
              have HR := hide hrv
              clear hrv
              refine wpAnyH_ready (rs := [1, 5]) (by kernel_rfl) (by simp) ?_
              refine AllReadyH.cons rfl (fun K hK => ?_) (AllReadyH.cons rfl (fun K hK => ?_) AllReadyH.nil)
              · go_simp
                refine hK.out _ _ True.intro (fun hHeld => ?_)
                clear hK K
                try simp only [Act.put, List.getElem_toArray, List.getElem_cons_succ, List.getElem_cons_zero, List.setIfInBounds_toArray, List.set_cons_zero, List.set_cons_succ]
                refine wpAnyH_ready (rs := [5]) (by kernel_rfl) (by simp) ?_
                refine AllReadyH.cons rfl (fun K hK => ?_) AllReadyH.nil
                go_simp
                refine hK.out _ _ True.intro (fun hHeld => ?_)
                clear hK K
                try simp only [Act.put, List.getElem_toArray, List.getElem_cons_succ, List.getElem_cons_zero, List.setIfInBounds_toArray, List.set_cons_zero, List.set_cons_succ]
                have hnew : Hid (∀ j u, ([.int .i64 rv] : List Value)[j]? = some u → (V2.alloc (.cells #[.int .i64 rv] 3)).cell? ((⟨V2.heap.size, 0, none⟩ : Addr).add j) = some u) := fun j u hu => by
                  cases j with
                  | zero => simp at hu; subst hu; simp [Addr.add]
                  | succ j => simp at hu
                have hz9 : Hid ((V2.alloc (.cells #[.int .i64 rv] 3)).heap.size = V2.heap.size + 1) := by show _ = _; simp
                have hb9 : hb < V2.heap.size := (unhide Q2).h.lt
                have bb := (Below.refl V2.heap.size V2).alloc (Nat.le_refl _) (.cells #[.int .i64 rv] 3)
                have Q3 := hide ((unhide Q2).same bb)
                have d3 : (V2.alloc (.cells #[.int .i64 rv] 3)).cell? ⟨hb, 7, none⟩ = some (.slice va vn vc) := (bb.cell (p := ⟨hb, 7, none⟩) (unhide Q2).h.lt).trans d2
                have O3 := hide (oi_keep (unhide O2) (fun q _ hl => bb.block q hl))
                clear bb
                generalize V2.alloc (.cells #[.int .i64 rv] 3) = V3 at *
                generalize V2.heap.size = nb at *
                clear Q2 d2 O2
                refine wpAnyH_ready (rs := [6]) (by kernel_rfl) (by simp) ?_
                refine AllReadyH.cons rfl (fun K hK => ?_) AllReadyH.nil
                refine step_append_lies _ rfl _ _ 47 rfl (hb + 1) 3 i0 (.int .i64 0) 1 8 Try.underlying47 hi hz0 hz1 hz2 rfl (by decide) (.slice va vn vc) vn (iv vn V0') rfl (unhide O3) ⟨nb, 0, none⟩ 1 1 [.int .i64 rv] rfl rfl (unhide hnew) (by intro u hu; simp at hu; subst hu; rfl) (by omega) (by unfold maxLen; omega) (by omega) (by have := unhide hz9; omega) (nb + 1) (unhide hz9) ?_
                intro g gc V4 hown hgrow hat hlt'
                refine hK.out _ _ True.intro (fun hHeld => ?_)
                clear hK K
                try simp only [Act.put, List.getElem_toArray, List.getElem_cons_succ, List.getElem_cons_zero, List.setIfInBounds_toArray, List.set_cons_zero, List.set_cons_succ]
                have bb : Below (hb + 1) V3 V4 := Oi.below (unhide O3) hgrow (by have := unhide hz9; omega)
                have d4 : V4.cell? ⟨hb, 7, none⟩ = some (.slice va vn vc) := (bb.cell (p := ⟨hb, 7, none⟩) (by show hb < hb + 1; omega)).trans d3
                have f9 : V4.frozen? ⟨hb, 7, none⟩ = false := (World.frozen?_of_block (a := ⟨hb, 7, none⟩) (bb.block hb (by omega))).trans ((unhide Q3).h.fz 7)
                have NEW : Hid (Oi (hb + 1) V4 (.slice (some ⟨g, 0, none⟩) (vn + 1) gc) (vn + 1) (fun i => if i < vn then V0' i else rv)) := by
                  have e9 : iv vn V0' ++ [.int .i64 rv] = iv (vn + 1) (fun i => if i < vn then V0' i else rv) := by
                    rw [← iv_succ]
                    congr 1
                    · exact List.map_congr_left (fun i hi => by rw [List.mem_range] at hi; simp [hi])
                    · simp
                  show World.ownsRow _ _ _ _ _ _ _
                  rw [← e9]
                  exact hown
                have FIN := hide (Pq.row (unhide Q3) (unhide HU) hge hnr bb (unhide NEW) (M' := 4 - (k - 1)) ⟨by omega, snoc_in (unhide HV) (unhide HR)⟩)
                clear hown hgrow hat hlt' bb NEW hnew hz9 Q3 d3 O3
                refine wpAnyH_take (i := 7) (v := ?_) rfl (by kernel_rfl) (by kernel_rfl) (by kernel_rfl) (fun _ _ _ h => h) (Or.inl ⟨by rfl, ?_⟩) hHeld ?_
                rotate_left
                · intro V hSw; go_simp; rfl
                try simp only [Act.put, List.getElem_toArray, List.getElem_cons_succ, List.getElem_cons_zero, List.setIfInBounds_toArray, List.set_cons_zero, List.set_cons_succ]
                refine wpAnyH_ready (rs := [8]) (by kernel_rfl) (by simp) ?_
                refine AllReadyH.cons rfl (fun K hK => ?_) AllReadyH.nil
                go_simp
                refine hK.out _ _ True.intro (fun hHeld => ?_)
                clear hK K
                try simp only [Act.put, List.getElem_toArray, List.getElem_cons_succ, List.getElem_cons_zero, List.setIfInBounds_toArray, List.set_cons_zero, List.set_cons_succ]
                refine wpAnyH_done (by kernel_rfl) ?_ _
                try simp only [List.getElem_toArray, List.getElem_cons_succ, List.getElem_cons_zero]
                generalize V4.setCell ⟨hb, 7, none⟩ (.slice (some ⟨g, 0, none⟩) (vn + 1) gc) = VZ at *
                clear d4 f9
                go_wp2
                exact ⟨⟨k - 1, by omega, by go_num, (unhide FIN).mono (by omega)⟩, by simp [intOf]; omega⟩
              · go_simp
                refine hK.out _ _ True.intro (fun hHeld => ?_)
                clear hK K
                try simp only [Act.put, List.getElem_toArray, List.getElem_cons_succ, List.getElem_cons_zero, List.setIfInBounds_toArray, List.set_cons_zero, List.set_cons_succ]
                have hnew : Hid (∀ j u, ([.int .i64 rv] : List Value)[j]? = some u → (V2.alloc (.cells #[.int .i64 rv] 3)).cell? ((⟨V2.heap.size, 0, none⟩ : Addr).add j) = some u) := fun j u hu => by
                  cases j with
                  | zero => simp at hu; subst hu; simp [Addr.add]
                  | succ j => simp at hu
                have hz9 : Hid ((V2.alloc (.cells #[.int .i64 rv] 3)).heap.size = V2.heap.size + 1) := by show _ = _; simp
                have hb9 : hb < V2.heap.size := (unhide Q2).h.lt
                have bb := (Below.refl V2.heap.size V2).alloc (Nat.le_refl _) (.cells #[.int .i64 rv] 3)
                have Q3 := hide ((unhide Q2).same bb)
                have d3 : (V2.alloc (.cells #[.int .i64 rv] 3)).cell? ⟨hb, 7, none⟩ = some (.slice va vn vc) := (bb.cell (p := ⟨hb, 7, none⟩) (unhide Q2).h.lt).trans d2
                have O3 := hide (oi_keep (unhide O2) (fun q _ hl => bb.block q hl))
                clear bb
                generalize V2.alloc (.cells #[.int .i64 rv] 3) = V3 at *
                generalize V2.heap.size = nb at *
                clear Q2 d2 O2
                refine wpAnyH_ready (rs := [1]) (by kernel_rfl) (by simp) ?_
                refine AllReadyH.cons rfl (fun K hK => ?_) AllReadyH.nil
                go_simp
                refine hK.out _ _ True.intro (fun hHeld => ?_)
                clear hK K
                try simp only [Act.put, List.getElem_toArray, List.getElem_cons_succ, List.getElem_cons_zero, List.setIfInBounds_toArray, List.set_cons_zero, List.set_cons_succ]
                refine wpAnyH_ready (rs := [6]) (by kernel_rfl) (by simp) ?_
                refine AllReadyH.cons rfl (fun K hK => ?_) AllReadyH.nil
                refine step_append_lies _ rfl _ _ 47 rfl (hb + 1) 3 i0 (.int .i64 0) 1 8 Try.underlying47 hi hz0 hz1 hz2 rfl (by decide) (.slice va vn vc) vn (iv vn V0') rfl (unhide O3) ⟨nb, 0, none⟩ 1 1 [.int .i64 rv] rfl rfl (unhide hnew) (by intro u hu; simp at hu; subst hu; rfl) (by omega) (by unfold maxLen; omega) (by omega) (by have := unhide hz9; omega) (nb + 1) (unhide hz9) ?_
                intro g gc V4 hown hgrow hat hlt'
                refine hK.out _ _ True.intro (fun hHeld => ?_)
                clear hK K
                try simp only [Act.put, List.getElem_toArray, List.getElem_cons_succ, List.getElem_cons_zero, List.setIfInBounds_toArray, List.set_cons_zero, List.set_cons_succ]
                have bb : Below (hb + 1) V3 V4 := Oi.below (unhide O3) hgrow (by have := unhide hz9; omega)
                have d4 : V4.cell? ⟨hb, 7, none⟩ = some (.slice va vn vc) := (bb.cell (p := ⟨hb, 7, none⟩) (by show hb < hb + 1; omega)).trans d3
                have f9 : V4.frozen? ⟨hb, 7, none⟩ = false := (World.frozen?_of_block (a := ⟨hb, 7, none⟩) (bb.block hb (by omega))).trans ((unhide Q3).h.fz 7)
                have NEW : Hid (Oi (hb + 1) V4 (.slice (some ⟨g, 0, none⟩) (vn + 1) gc) (vn + 1) (fun i => if i < vn then V0' i else rv)) := by
                  have e9 : iv vn V0' ++ [.int .i64 rv] = iv (vn + 1) (fun i => if i < vn then V0' i else rv) := by
                    rw [← iv_succ]
                    congr 1
                    · exact List.map_congr_left (fun i hi => by rw [List.mem_range] at hi; simp [hi])
                    · simp
                  show World.ownsRow _ _ _ _ _ _ _
                  rw [← e9]
                  exact hown
                have FIN := hide (Pq.row (unhide Q3) (unhide HU) hge hnr bb (unhide NEW) (M' := 4 - (k - 1)) ⟨by omega, snoc_in (unhide HV) (unhide HR)⟩)
                clear hown hgrow hat hlt' bb NEW hnew hz9 Q3 d3 O3
                refine wpAnyH_take (i := 7) (v := ?_) rfl (by kernel_rfl) (by kernel_rfl) (by kernel_rfl) (fun _ _ _ h => h) (Or.inl ⟨by rfl, ?_⟩) hHeld ?_
                rotate_left
                · intro V hSw; go_simp; rfl
                try simp only [Act.put, List.getElem_toArray, List.getElem_cons_succ, List.getElem_cons_zero, List.setIfInBounds_toArray, List.set_cons_zero, List.set_cons_succ]
                refine wpAnyH_ready (rs := [8]) (by kernel_rfl) (by simp) ?_
                refine AllReadyH.cons rfl (fun K hK => ?_) AllReadyH.nil
                go_simp
                refine hK.out _ _ True.intro (fun hHeld => ?_)
                clear hK K
                try simp only [Act.put, List.getElem_toArray, List.getElem_cons_succ, List.getElem_cons_zero, List.setIfInBounds_toArray, List.set_cons_zero, List.set_cons_succ]
                refine wpAnyH_done (by kernel_rfl) ?_ _
                try simp only [List.getElem_toArray, List.getElem_cons_succ, List.getElem_cons_zero]
                generalize V4.setCell ⟨hb, 7, none⟩ (.slice (some ⟨g, 0, none⟩) (vn + 1) gc) = VZ at *
                clear d4 f9
                go_wp2
                exact ⟨⟨k - 1, by omega, by go_num, (unhide FIN).mono (by omega)⟩, by simp [intOf]; omega⟩
-- ROUND END
    · have g4 : (x1 == 4) = false := by simp [h4]
      clear h4
      go_wp2_with fail
      go_meet
      exact ((unhide PB).mono (by omega)).most (by omega)
  case rest =>
  have PE := hide hcut
  clear hcut PB c0
  go_wp2_with fail
  refine (pick_any cb a N cap (P + 420) 40 _ hN (by omega) (by omega) (by omega) (unhide PE).u).mono ?_
  rintro e wF ⟨sw, rfl, hs0, hs1, uu, kk⟩
  have PF := hide ((unhide PE).step hne hnc uu kk)
  clear uu kk PE
  go_upto_block 2 with fail
  go_cut [] (fun wx => Pq w cb a N cap (P + 500) w.heap.size hb 4 wx)
  case first =>
    by_cases h0 : sw = 0
    · subst h0
      obtain ⟨y1, e1⟩ := (unhide PF).h.ci 1 (by omega)
      have f1 := (unhide PF).h.fz 1
      go_wp2_with fail
      go_meet
      exact ((unhide PF).int (unhide HU) hge hnr (o := 1) (by omega) 16).mono (by omega)
    · have g0 : (sw == 0) = false := by simp [h0]
      by_cases h1 : sw = 1
      · subst h1
        clear g0 h0
        go_wp2_with fail
        have hx := lit_cells wF [-1, 0, 4294967296] 3 (fun x => -1 ≤ x) (by decide)
        have b1 := (Below.refl wF.heap.size wF).alloc (Nat.le_refl _) (.cells #[.int .i64 (-1), .int .i64 0, .int .i64 4294967296] 3)
        have hl1 : wF.heap.size < (wF.alloc (.cells #[.int .i64 (-1), .int .i64 0, .int .i64 4294967296] 3)).heap.size := by simp
        have hlc : wF.heap.size ≠ cb := by have := (unhide PF).h.lt; omega
        have PX := hide ((unhide PF).same b1)
        change ∀ i, i < 3 → ∃ x : Int, (-1 ≤ x) ∧ (wF.alloc (.cells #[.int .i64 (-1), .int .i64 0, .int .i64 4294967296] 3)).cell? ⟨wF.heap.size, i, none⟩ = some (.int .i64 x) at hx
        generalize wF.alloc (.cells #[.int .i64 (-1), .int .i64 0, .int .i64 4294967296] 3) = WX at *
        refine (among_any cb a N cap (P + 420 + 2) wF.heap.size 3 3 (fun x => -1 ≤ x) _ hN (by omega) (by omega) (by omega) hl1 hlc hx (unhide PX).u).mono ?_
        rintro e wG ⟨rv, rfl, hrv, uu, kk⟩
        have PG := hide ((unhide PX).step hne hnc uu kk)
        clear uu kk PX PF hx b1 hl1 hlc
        obtain ⟨y2, e2⟩ := (unhide PG).h.ci 2 (by omega)
        have f2 := (unhide PG).h.fz 2
        go_wp2_with fail
        go_meet
        exact ((unhide PG).int (unhide HU) hge hnr (o := 2) (by omega) rv).mono (by omega)
      · have g1 : (sw == 1) = false := by simp [h1]
        by_cases h2 : sw = 2
        · subst h2
          clear g0 h0 g1 h1
          go_wp2_with fail
          have hx := lit_cells wF [0, 1200, 1201] 3 (fun x => 0 ≤ x ∧ x ≤ 1201) (by decide)
          have b1 := (Below.refl wF.heap.size wF).alloc (Nat.le_refl _) (.cells #[.int .i64 0, .int .i64 1200, .int .i64 1201] 3)
          have hl1 : wF.heap.size < (wF.alloc (.cells #[.int .i64 0, .int .i64 1200, .int .i64 1201] 3)).heap.size := by simp
          have hlc : wF.heap.size ≠ cb := by have := (unhide PF).h.lt; omega
          have PX := hide ((unhide PF).same b1)
          change ∀ i, i < 3 → ∃ x : Int, (0 ≤ x ∧ x ≤ 1201) ∧ (wF.alloc (.cells #[.int .i64 0, .int .i64 1200, .int .i64 1201] 3)).cell? ⟨wF.heap.size, i, none⟩ = some (.int .i64 x) at hx
          generalize wF.alloc (.cells #[.int .i64 0, .int .i64 1200, .int .i64 1201] 3) = WX at *
          refine (among_any cb a N cap (P + 420 + 2) wF.heap.size 3 3 (fun x => 0 ≤ x ∧ x ≤ 1201) _ hN (by omega) (by omega) (by omega) hl1 hlc hx (unhide PX).u).mono ?_
          rintro e wG ⟨rv, rfl, hrv, uu, kk⟩
          have PG := hide ((unhide PX).step hne hnc uu kk)
          clear uu kk PX PF hx b1 hl1 hlc
          obtain ⟨mv, rfl⟩ := Int.eq_ofNat_of_zero_le hrv.1
          have hmv : mv ≤ 1201 := by have := hrv.2; omega
          have hmk := mk_bytes mv (by omega) wG
          have PH := hide ((unhide PG).same ((Below.refl wG.heap.size wG).alloc (Nat.le_refl _) (.cells (us mv fun _ => 0).toArray 5)))
          have hA : Ar (wG.alloc (.cells (us mv fun _ => 0).toArray 5)) wG.heap.size 0 mv (fun _ => 0) := Ar.new wG mv (fun _ => 0) 5
          have hst := ar_string hA (fun i _ => by omega) mv
          have hz9 : (bq mv fun _ => 0).size = mv := bq_size _ _
          generalize bq mv (fun _ => 0) = t9 at *
          obtain ⟨y6, e6, _⟩ := (unhide PH).h.ct 6 (by omega) (by omega)
          have f6 := (unhide PH).h.fz 6
          clear hA PG
          generalize wG.alloc (.cells (us mv fun _ => 0).toArray 5) = WH at *
          go_wp2_with fail
          go_meet
          exact ((unhide PH).txt (unhide HU) hge hnr (o := 6) (by omega) (by omega) t9 (by omega)).mono (by omega)
        · have g2 : (sw == 2) = false := by simp [h2]
          by_cases h3 : sw = 3
          · subst h3
            clear g0 h0 g1 h1 g2 h2
            obtain ⟨y5, e5, _⟩ := (unhide PF).h.ct 5 (by omega) (by omega)
            have f5 := (unhide PF).h.fz 5
            go_wp2_with fail
            go_meet
            exact ((unhide PF).txt (unhide HU) hge hnr (o := 5) (by omega) (by omega) ⟨#[116]⟩ (by show 1 ≤ _; omega)).mono (by omega)
          · have g3 : (sw == 3) = false := by simp [h3]
            clear h0 h1 h2 h3
            go_wp2_with fail
            go_meet
            exact (unhide PF).mono (by omega)
  case rest =>
  have PK := hide hcut
  clear hcut PF
  obtain ⟨h0, e0⟩ := (unhide PK).h.ci 0 (by omega)
  obtain ⟨h1, e1⟩ := (unhide PK).h.ci 1 (by omega)
  obtain ⟨h2, e2⟩ := (unhide PK).h.ci 2 (by omega)
  obtain ⟨h3, e3, z3⟩ := (unhide PK).h.ct 3 (by omega) (by omega)
  obtain ⟨h4, e4, z4⟩ := (unhide PK).h.ct 4 (by omega) (by omega)
  obtain ⟨h5, e5, z5⟩ := (unhide PK).h.ct 5 (by omega) (by omega)
  obtain ⟨h6, e6, z6⟩ := (unhide PK).h.ct 6 (by omega) (by omega)
  obtain ⟨ra, n7, rc, V7, e7, o7, z7⟩ := (unhide PK).h.c7
  obtain ⟨g0, r0⟩ := (unhide PK).r.ci 0 (by omega)
  obtain ⟨g1, r1⟩ := (unhide PK).r.ci 1 (by omega)
  obtain ⟨g2, r2⟩ := (unhide PK).r.ci 2 (by omega)
  obtain ⟨g3, r3⟩ := (unhide PK).r.ct 3 (by omega) (by omega)
  obtain ⟨g4, r4⟩ := (unhide PK).r.ct 4 (by omega) (by omega)
  obtain ⟨g5, r5⟩ := (unhide PK).r.ct 5 (by omega) (by omega)
  obtain ⟨g6, r6⟩ := (unhide PK).r.ct 6 (by omega) (by omega)
  have r7 := (unhide PK).r.c7
  have f0 := (unhide PK).r.fz 0
  have f1 := (unhide PK).r.fz 1
  have f2 := (unhide PK).r.fz 2
  have f3 := (unhide PK).r.fz 3
  have f4 := (unhide PK).r.fz 4
  have f5 := (unhide PK).r.fz 5
  have f6 := (unhide PK).r.fz 6
  have f7 := (unhide PK).r.fz 7
  have O7 := hide o7
  clear o7
  go_wp2
  refine bodyPost_ret (v := .agg #[.int .i64 h0, .int .i64 h1, .int .i64 h2, .string h3, .string h4, .string h5, .string h6, .slice ra n7 rc]) (by simp [results, Try.results42, go_sem, r0, r1, r2, r3, r4, r5, r6, r7]) rfl ⟨h0, h1, h2, h3, h4, h5, h6, ra, n7, rc, V7, rfl, z3, z4, z5, z6, by have := z7.1; omega, z7.2, ?_, ?_, ?_⟩
  · refine oi_mono (base' := hb + 1) (oi_keep (unhide O7) (fun q hq hl => ?_)) (by omega)
    iterate 8 rw [Below.heap_setCell _ _ _ _ (show q ≠ w.heap.size by omega)]
  · have hu := (unhide PK).u.mono (Q := P + 1000) (by omega)
    iterate 8 refine Cu.setNew (unhide HU) ?_ (Nat.le_refl _) _ _
    exact hu
  · iterate 8 refine Kx.setNew ?_ (Nat.le_refl _) _
    exact (unhide PK).k
theorem oi_ia {B : Nat} {w : World} {a : Option Addr} {n cap : Nat} {V : Nat → Int} (h : Oi B w (.slice a n cap) n V) (hV : ∀ i, i < n → 0 ≤ V i ∧ V i ≤ 4294967295) : Ia w a n cap V := by
  rcases h.2 with h1 | ⟨g, c, cur, h1, hg, hgg, rest⟩
  · exact Or.inl h1.2
  · have h2 : a = some ⟨g, 0, none⟩ ∧ cap = c := by simpa using h1
    obtain ⟨rfl, rfl⟩ := h2
    refine Or.inr ⟨g, 0, rfl, Or.inr (Array.getElem?_eq_some_iff.1 hgg).1, fun i hi => ?_, fun i hi => by have := hV i hi; omega⟩
    rw [Nat.zero_add, World.ownsRow.cellAt h i (by omega)]
    simp [iv, hi]
end Go.Proofs.Ytbabipaipbjlbaa.Dr
