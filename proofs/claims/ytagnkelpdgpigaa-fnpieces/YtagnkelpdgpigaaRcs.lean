/-
  Rows of records, each of so many cells: read, made, of the call's own, appended to, marked.
-/
import Derived.Test.YtagnkelpdgpigaaBxs
import Derived.Test.YtagnkelpdgpigaaApr
import Derived.Deep.Slices
import Derived.Deep.Onto
namespace Go.Proofs.Ytagnkelpdgpigaa.Rc
open Go.ChangeShapes Go.WideShapes Go.ChangeAt Go.RowKit Go.Deep
set_option linter.unusedVariables false
set_option maxRecDepth 100000

/-- all old blocks but those of P are kept -/
structure Kq (P : Nat → Prop) (w w' : World) : Prop where
  os : w'.os = w.os
  tape : w'.tape = w.tape
  output : w'.output = w.output
  size : w.heap.size ≤ w'.heap.size
  block : ∀ q, q < w.heap.size → ¬ P q → w'.heap[q]? = w.heap[q]?
theorem Kq.refl (P : Nat → Prop) (w : World) : Kq P w w := ⟨rfl, rfl, rfl, Nat.le_refl _, fun _ _ _ => rfl⟩
theorem Kq.trans {P : Nat → Prop} {w w1 w2 : World} (h : Kq P w w1) (k : Kq P w1 w2) : Kq P w w2 :=
  ⟨k.os.trans h.os, k.tape.trans h.tape, k.output.trans h.output, Nat.le_trans h.size k.size, fun q hq hn => (k.block q (Nat.lt_of_lt_of_le hq h.size) hn).trans (h.block q hq hn)⟩
theorem Kq.of {P : Nat → Prop} {w w' : World} (h : Below w.heap.size w w') : Kq P w w' := ⟨h.os, h.tape, h.output, h.size, fun k hk _ => h.block k hk⟩
theorem Kq.imp {P Q : Nat → Prop} {w w' : World} (h : Kq P w w') (hpq : ∀ q, P q → Q q) : Kq Q w w' := ⟨h.os, h.tape, h.output, h.size, fun q hq hn => h.block q hq (fun p => hn (hpq q p))⟩
theorem Kq.set {P : Nat → Prop} {w w' : World} (h : Kq P w w') {g i : Nat} {u : Value} (hg : P g) : Kq P w (w'.setCell ⟨g, i, none⟩ u) :=
  ⟨h.os, h.tape, h.output, by simpa using h.size, fun q hq hn => (Below.heap_setCell w' ⟨g, i, none⟩ u q (by show q ≠ g; intro e; exact hn (e ▸ hg))).trans (h.block q hq hn)⟩
theorem Kq.below {P : Nat → Prop} {w w' : World} {base : Nat} (h : Kq P w w') (hb : base ≤ w.heap.size) (hP : ∀ q, P q → base ≤ q) : Below base w w' :=
  ⟨h.os, h.tape, h.output, h.size, fun k hk => h.block k (by omega) (fun p => by have := hP k p; omega)⟩
/-- what stands while a law is walked: all that was ahead of it, all that was ahead of the program's first call, and these boxes -/
structure Iv (w w3 V : World) (xs : List (Nat × List Value)) : Prop where
  b0 : Below w.heap.size w V
  b3 : Below w3.heap.size w3 V
  bx : ∀ p ∈ xs, Bx V p.1 p.2
theorem Iv.below {w w3 V V' : World} {xs : List (Nat × List Value)} (h : Iv w w3 V xs) (hb : Below V.heap.size V V') : Iv w w3 V' xs :=
  ⟨h.b0.trans (hb.mono h.b0.size), h.b3.trans (hb.mono h.b3.size), fun p hp => (h.bx p hp).below hb⟩
theorem Iv.push {w w3 V : World} {xs : List (Nat × List Value)} (h : Iv w w3 V xs) (cs : List Value) (T : TypeId) : Iv w w3 (V.alloc (.cells cs.toArray T)) ((V.heap.size, cs) :: xs) := by
  have h' := h.below ((Below.refl V.heap.size V).alloc (Nat.le_refl _) (.cells cs.toArray T))
  refine ⟨h'.b0, h'.b3, fun p hp => ?_⟩
  rcases List.mem_cons.1 hp with rfl | hp
  · exact Bx.new V cs T
  · exact h'.bx p hp
theorem Iv.mark {w w3 V V' : World} {xs : List (Nat × List Value)} {P : Nat → Prop} (h : Iv w w3 V xs) (k : Kq P V V') (h0 : ∀ q, P q → w.heap.size ≤ q ∧ w3.heap.size ≤ q) (hx : ∀ p ∈ xs, ¬ P p.1) : Iv w w3 V' xs :=
  ⟨h.b0.trans (k.below h.b0.size (fun q hq => (h0 q hq).1)), h.b3.trans (k.below h.b3.size (fun q hq => (h0 q hq).2)), fun p hp => (h.bx p hp).kept k.size (k.block _ (h.bx p hp).lt (hx p hp))⟩

/-- how a record lies in cells -/
structure Kd (α : Type) where
  f : α → List Value
  m : Nat
  d : α
  len : ∀ x, (f x).length = m
  pos : 0 < m
  one : ∀ x, ∀ u ∈ f x, u.oneCell' = true
/-- the k-th record -/
def gt {α : Type} (K : Kd α) (L : List α) (k : Nat) : α := L.getD k K.d
theorem gt_of {α : Type} (K : Kd α) (L : List α) (k : Nat) (h : k < L.length) : gt K L k = L[k] := by simp [gt, List.getD, List.getElem?_eq_getElem h]
theorem drop_gt {α : Type} (K : Kd α) (L : List α) (k : Nat) (h : k < L.length) : L.drop k = gt K L k :: L.drop (k + 1) := by rw [gt_of K L k h]; exact List.drop_eq_getElem_cons h
/-- the q-th cell of a row -/
def cl {α : Type} (K : Kd α) (L : List α) (q : Nat) : Value := (K.f (gt K L (q / K.m))).getD (q % K.m) (.bool false)
theorem cl_at {α : Type} (K : Kd α) (L : List α) (k j : Nat) (hj : j < K.m) : cl K L (k * K.m + j) = (K.f (gt K L k)).getD j (.bool false) := by
  have h1 : (k * K.m + j) / K.m = k := by rw [Nat.mul_comm, Nat.mul_add_div K.pos, Nat.div_eq_of_lt hj, Nat.add_zero]
  have h2 : (k * K.m + j) % K.m = j := by rw [Nat.mul_comm, Nat.mul_add_mod, Nat.mod_eq_of_lt hj]
  unfold cl
  rw [h1, h2]
theorem fl_len {α : Type} (K : Kd α) : ∀ L : List α, (L.flatMap K.f).length = L.length * K.m
  | [] => by simp
  | x :: L => by rw [List.flatMap_cons, List.length_append, K.len, fl_len K L, List.length_cons, Nat.add_mul]; omega
theorem fl_at {α : Type} (K : Kd α) : ∀ (L : List α) (k j : Nat), k < L.length → j < K.m → (L.flatMap K.f)[k * K.m + j]? = (K.f (gt K L k))[j]?
  | [], k, j, h, _ => absurd h (Nat.not_lt_zero _)
  | x :: L, 0, j, _, hj => by
    rw [List.flatMap_cons, Nat.zero_mul, Nat.zero_add, List.getElem?_append_left (by rw [K.len]; exact hj)]
    rfl
  | x :: L, k + 1, j, h, hj => by
    rw [List.flatMap_cons, List.getElem?_append_right (by rw [K.len, Nat.add_mul]; omega), K.len, show (k + 1) * K.m + j - K.m = k * K.m + j by rw [Nat.add_mul]; omega, fl_at K L k j (by simpa using h) hj]
    rfl
theorem fl_get {α : Type} (K : Kd α) (L : List α) (q : Nat) (hq : q < L.length * K.m) : (L.flatMap K.f)[q]? = some (cl K L q) := by
  have hk : q / K.m < L.length := Nat.div_lt_of_lt_mul (by rw [Nat.mul_comm]; exact hq)
  have hj : q % K.m < K.m := Nat.mod_lt _ K.pos
  have e : q = q / K.m * K.m + q % K.m := by rw [Nat.mul_comm]; exact (Nat.div_add_mod q K.m).symm
  have h1 := fl_at K L (q / K.m) (q % K.m) hk hj
  rw [← e] at h1
  rw [h1]
  have h2 : q % K.m < (K.f (gt K L (q / K.m))).length := by rw [K.len]; exact hj
  unfold cl
  simp [List.getD, List.getElem?_eq_getElem h2]
theorem fl_one {α : Type} (K : Kd α) (L : List α) : ∀ u ∈ L.flatMap K.f, u.oneCell' = true := by
  intro u hu
  obtain ⟨x, _, h⟩ := List.mem_flatMap.1 hu
  exact K.one x u h
theorem kq_at {α : Type} (K : Kd α) {L : List α} {k j : Nat} (hk : k < L.length) (hj : j < K.m) : k * K.m + j < L.length * K.m := by
  have : (k + 1) * K.m ≤ L.length * K.m := Nat.mul_le_mul_right _ hk
  rw [Nat.add_mul] at this
  omega

/-- cells of a row that may be written -/
structure Rg (w : World) (g N : Nat) (f : Nat → Value) : Prop where
  lt : g < w.heap.size
  c : ∀ o, o < N → w.cell? ⟨g, o, none⟩ = some (f o)
  fz : ∀ o, w.frozen? ⟨g, o, none⟩ = false
theorem Rg.kept {w w' : World} {g N : Nat} {f : Nat → Value} (h : Rg w g N f) (hs : w.heap.size ≤ w'.heap.size) (e : w'.heap[g]? = w.heap[g]?) : Rg w' g N f :=
  ⟨Nat.lt_of_lt_of_le h.lt hs, fun o ho => (World.cell?_of_block (a := ⟨g, o, none⟩) e).trans (h.c o ho), fun o => (World.frozen?_of_block (a := ⟨g, o, none⟩) e).trans (h.fz o)⟩
theorem Rg.below {w w' : World} {g N : Nat} {f : Nat → Value} (h : Rg w g N f) (hb : Below w.heap.size w w') : Rg w' g N f := h.kept hb.size (hb.block g h.lt)
/-- the first c cells are new ones -/
def up (c : Nat) (mk f : Nat → Value) (o : Nat) : Value := if o < c then mk o else f o
theorem Rg.up0 {w : World} {g N : Nat} {mk f : Nat → Value} (h : Rg w g N f) : Rg w g N (up 0 mk f) := ⟨h.lt, fun o ho => (h.c o ho).trans (by unfold up; rw [if_neg (Nat.not_lt_zero _)]), h.fz⟩
theorem Rg.mark {w : World} {g N c : Nat} {mk f : Nat → Value} (h : Rg w g N (up c mk f)) (hc : c < N) (u : Value) (hu : mk c = u) : Rg (w.setCell ⟨g, c, none⟩ u) g N (up (c + 1) mk f) := by
  refine ⟨by simpa using h.lt, fun o ho => ?_, fun o => by simpa using h.fz o⟩
  by_cases e : o = c
  · subst e
    rw [World.cell?_setCell_same _ _ _ (h.c o ho)]
    unfold up
    rw [if_pos (Nat.lt_succ_self _), hu]
  · rw [World.cell?_setCell_other _ _ _ _ (by intro q; injection q with _ q _; exact e q.symm), h.c o ho]
    unfold up
    by_cases e2 : o < c
    · rw [if_pos e2, if_pos (by omega)]
    · rw [if_neg e2, if_neg (by omega)]
theorem Rg.all {w : World} {g N : Nat} {mk f : Nat → Value} (h : Rg w g N (up N mk f)) : Rg w g N mk := ⟨h.lt, fun o ho => (h.c o ho).trans (by unfold up; rw [if_pos ho]), h.fz⟩

/-- a row of records to be read -/
def Rd {α : Type} (K : Kd α) (w : World) (a : Option Addr) (L : List α) : Prop := L = [] ∨ ∃ b o, a = some ⟨b, o, none⟩ ∧ b < w.heap.size ∧ ∀ q, q < L.length * K.m → w.cell? ⟨b, o + q, none⟩ = some (cl K L q)
theorem Rd.below {α : Type} {K : Kd α} {w w' : World} {a : Option Addr} {L : List α} (h : Rd K w a L) (hb : Below w.heap.size w w') : Rd K w' a L :=
  h.imp id fun ⟨b, o, e, l, h⟩ => ⟨b, o, e, Nat.lt_of_lt_of_le l hb.size, fun q hq => (hb.cell (p := ⟨b, o + q, none⟩) l).trans (h q hq)⟩
theorem Rd.kq {α : Type} {K : Kd α} {w w' : World} {a : Option Addr} {L : List α} {n : Nat} {P : Nat → Prop} (h : Rd K w a L) (hn : ∀ b o, a = some ⟨b, o, none⟩ → b < n) (k : Kq P w w') (hP : ∀ q, P q → n ≤ q) : Rd K w' a L :=
  h.imp id fun ⟨b, o, e, l, h⟩ => ⟨b, o, e, Nat.lt_of_lt_of_le l k.size, fun q hq => (World.cell?_of_block (a := ⟨b, o + q, none⟩) (k.block b l (fun p => by have := hP b p; have := hn b o e; omega))).trans (h q hq)⟩
theorem add_none (b o j : Nat) : (⟨b, o, none⟩ : Addr).add j = ⟨b, o + j, none⟩ := by unfold Addr.add; split <;> simp_all
theorem Rd.sc {α : Type} {K : Kd α} {w : World} {a : Option Addr} {L : List α} (h : Rd K w a L) : Sc w a L.length (L.flatMap K.f) := by
  rcases h with rfl | ⟨b, o, rfl, l, h⟩
  · exact Or.inl ⟨rfl, rfl⟩
  · refine Or.inr ⟨_, rfl, fun q u hu => ?_⟩
    have hq : q < L.length * K.m := by
      have := (List.getElem?_eq_some_iff.1 hu).1
      rw [fl_len] at this
      exact this
    rw [fl_get K L q hq] at hu
    rw [add_none, h q hq]
    exact hu
/-- a row of records of the call's own that may be written, in a block of lb .. ls - 1 -/
def Ri {α : Type} (K : Kd α) (lb ls : Nat) (w : World) (a : Option Addr) (L : List α) : Prop := L = [] ∨ ∃ g, a = some ⟨g, 0, none⟩ ∧ (lb ≤ g ∧ g < ls) ∧ Rg w g (L.length * K.m) (cl K L)
theorem Ri.rd {α : Type} {K : Kd α} {lb ls : Nat} {w : World} {a : Option Addr} {L : List α} (h : Ri K lb ls w a L) : Rd K w a L :=
  h.imp id fun ⟨g, e, _, h⟩ => ⟨g, 0, e, h.lt, fun q hq => by rw [Nat.zero_add]; exact h.c q hq⟩
theorem Ri.below {α : Type} {K : Kd α} {lb ls : Nat} {w w' : World} {a : Option Addr} {L : List α} (h : Ri K lb ls w a L) (hb : Below w.heap.size w w') : Ri K lb ls w' a L :=
  h.imp id fun ⟨g, e, l, h⟩ => ⟨g, e, l, h.below hb⟩
theorem Ri.mono {α : Type} {K : Kd α} {lb ls lb' ls' : Nat} {w : World} {a : Option Addr} {L : List α} (h : Ri K lb ls w a L) (h1 : lb' ≤ lb) (h2 : ls ≤ ls') : Ri K lb' ls' w a L :=
  h.imp id fun ⟨g, e, l, h⟩ => ⟨g, e, ⟨Nat.le_trans h1 l.1, Nat.lt_of_lt_of_le l.2 h2⟩, h⟩
theorem Ri.kq {α : Type} {K : Kd α} {lb ls : Nat} {w w' : World} {a : Option Addr} {L : List α} {P : Nat → Prop} (h : Ri K lb ls w a L) (k : Kq P w w') (hP : ∀ q, P q → q < lb ∨ ls ≤ q) : Ri K lb ls w' a L :=
  h.imp id fun ⟨g, e, l, h⟩ => ⟨g, e, l, h.kept k.size (k.block g h.lt (fun p => by have := hP g p; omega))⟩
theorem gt_take {α : Type} (K : Kd α) (L : List α) (n k : Nat) (h : k < n) : gt K (L.take n) k = gt K L k := by simp [gt, List.getD, h]
theorem cl_take {α : Type} (K : Kd α) (L : List α) (n q : Nat) (h : q < n * K.m) : cl K (L.take n) q = cl K L q := by
  unfold cl
  rw [gt_take K L n _ (Nat.div_lt_of_lt_mul (by rw [Nat.mul_comm]; exact h))]
theorem Ri.take {α : Type} {K : Kd α} {lb ls : Nat} {w : World} {a : Option Addr} {L : List α} (h : Ri K lb ls w a L) (n : Nat) : Ri K lb ls w a (L.take n) := by
  rcases h with rfl | ⟨g, e, l, h⟩
  · exact Or.inl (by simp)
  · refine Or.inr ⟨g, e, l, h.lt, fun q hq => ?_, h.fz⟩
    rw [List.length_take] at hq
    have h1 : q < n * K.m := Nat.lt_of_lt_of_le hq (Nat.mul_le_mul_right _ (Nat.min_le_left _ _))
    have h2 : q < L.length * K.m := Nat.lt_of_lt_of_le hq (Nat.mul_le_mul_right _ (Nat.min_le_right _ _))
    rw [cl_take K L n q h1]
    exact h.c q h2
theorem gt_mem {α : Type} (K : Kd α) (L : List α) (k : Nat) (h : k < L.length) : gt K L k ∈ L := by rw [gt_of K L k h]; exact List.getElem_mem h
/-- a row of cells of the call's own, in a block of lb .. ls - 1 -/
def Rm (lb ls : Nat) (w : World) (a : Option Addr) (N : Nat) (f : Nat → Value) : Prop := N = 0 ∨ ∃ g, a = some ⟨g, 0, none⟩ ∧ (lb ≤ g ∧ g < ls) ∧ Rg w g N f
theorem Rm.below {lb ls : Nat} {w w' : World} {a : Option Addr} {N : Nat} {f : Nat → Value} (h : Rm lb ls w a N f) (hb : Below w.heap.size w w') : Rm lb ls w' a N f :=
  h.imp id fun ⟨g, e, l, h⟩ => ⟨g, e, l, h.below hb⟩
theorem Rm.kq {lb ls : Nat} {w w' : World} {a : Option Addr} {N : Nat} {f : Nat → Value} {P : Nat → Prop} (h : Rm lb ls w a N f) (k : Kq P w w') (hP : ∀ q, P q → q < lb ∨ ls ≤ q) : Rm lb ls w' a N f :=
  h.imp id fun ⟨g, e, l, h⟩ => ⟨g, e, l, h.kept k.size (k.block g h.lt (fun p => by have := hP g p; omega))⟩
/-- a row of records of the call's own, with its room -/
def Ro {α : Type} (K : Kd α) (e : TypeId) (base : Nat) (w : World) (v : Value) (L : List α) : Prop := w.ownsRow base e K.m v L.length (L.flatMap K.f)
theorem Ro.nil {α : Type} (K : Kd α) (e : TypeId) (base : Nat) (w : World) : Ro K e base w (.slice none 0 0) [] := World.ownsRow_nil _ _ _ _
theorem Ro.form {α : Type} {K : Kd α} {e : TypeId} {base : Nat} {w : World} {v : Value} {L : List α} (h : Ro K e base w v L) : ∃ a cap, v = .slice a L.length cap ∧ L.length ≤ cap ∧ Ri K base w.heap.size w a L := by
  rcases h.2 with ⟨rfl, e0⟩ | ⟨g, cap, cur, rfl, hb, hg, hnc, _⟩
  · exact ⟨none, 0, by rw [e0], by omega, Or.inl (List.length_eq_zero_iff.1 e0)⟩
  · have hl := (Array.getElem?_eq_some_iff.1 hg).1
    exact ⟨_, _, rfl, hnc, Or.inr ⟨g, rfl, ⟨hb, hl⟩, hl, fun q hq => (World.ownsRow.cellAt h q hq).trans (fl_get K L q hq), fun o => World.ownsRow.frozenAt h o⟩⟩
theorem Ro.below {α : Type} {K : Kd α} {e : TypeId} {base : Nat} {w w' : World} {v : Value} {L : List α} (h : Ro K e base w v L) (hb : Below w.heap.size w w') : Ro K e base w' v L := by
  refine ⟨h.1, ?_⟩
  rcases h.2 with hn | ⟨g, cap, cur, rfl, hg, hgg, rest⟩
  · exact .inl hn
  · exact .inr ⟨g, cap, cur, rfl, hg, (hb.block g (Array.getElem?_eq_some_iff.1 hgg).1).trans hgg, rest⟩
theorem Ro.mono {α : Type} {K : Kd α} {e : TypeId} {base base' : Nat} {w : World} {v : Value} {L : List α} (h : Ro K e base w v L) (hb : base' ≤ base) : Ro K e base' w v L := World.ownsRow.mono h hb
theorem Ro.kq {α : Type} {K : Kd α} {e : TypeId} {base : Nat} {w w' : World} {v : Value} {L : List α} {P : Nat → Prop} (h : Ro K e base w v L) (k : Kq P w w') (hP : ∀ q, P q → q < base) : Ro K e base w' v L := by
  refine ⟨h.1, ?_⟩
  rcases h.2 with hn | ⟨g, cap, cur, rfl, hg, hgg, rest⟩
  · exact .inl hn
  · exact .inr ⟨g, cap, cur, rfl, hg, (k.block g (Array.getElem?_eq_some_iff.1 hgg).1 (fun p => by have := hP g p; omega)).trans hgg, rest⟩
theorem Ro.opens {α : Type} {K : Kd α} {e : TypeId} {base : Nat} {w : World} {v : Value} {L : List α} (h : Ro K e base w v L) : ∃ a cap, v = .slice a L.length cap := by
  obtain ⟨a, cap, e, _⟩ := h.form
  exact ⟨a, cap, e⟩
/-- what an append leaves, told from below -/
theorem Ro.grew {α : Type} {K : Kd α} {e : TypeId} {base : Nat} {w w' : World} {v : Value} {L : List α} (h : Ro K e base w v L) (hg : w.grownBy w' v.ownBlock) (hb : base ≤ w.heap.size) : Below base w w' :=
  ⟨hg.os, hg.tape, hg.output, hg.size, fun k hk => hg.block k (by omega) (fun e0 => by have := (World.ownsRow.lt (w := w) h k e0.symm).1; omega)⟩
/-- appended to -/
theorem app {α : Type} (K : Kd α) (w : World) (t ty e : TypeId) (base : Nat) (i : TypeInfo) (z : Value) (bytes : Nat) (ht : Try.prog.underlying t = some (.slice e)) (hi : Try.prog.info? e = some i) (hz : i.zero = some z) (hsize : i.size = K.m) (hby : i.bytes = bytes) (hzs : z.cells.size = K.m) (hbt : bytes ≤ 1000)
    (v : Value) (L : List α) (hown : Ro K e base w v L) (sa : Option Addr) (c : Nat) (M : List α) (hs : Sc w sa M.length (M.flatMap K.f)) (hb : L.length + M.length ≤ 2097152) (hbase : base ≤ w.heap.size) :
    ∃ v' w', (Builtin.append_ #[t, t] ty #[v, .slice sa M.length c]).run Try.prog w = .ok v' w' ∧ Ro K e base w' v' (L ++ M) ∧ Below base w w' ∧ (v'.ownBlock = v.ownBlock ∨ v'.ownBlock = some w.heap.size) ∧ w.grownBy w' v.ownBlock := by
  have hle : (L.length + M.length) * bytes ≤ 2097152 * 1000 := Nat.mul_le_mul hb hbt
  obtain ⟨v', w', h1, h2, h3, h4⟩ := app_any w t ty base e i z K.m bytes ht hi hz hsize hby hzs K.pos v L.length (L.flatMap K.f) hown sa M.length c (M.flatMap K.f) (fl_len K M) hs (fl_one K M) (by unfold maxLen; omega) (by omega) hbase
  refine ⟨v', w', h1, ?_, hown.grew h3 hbase, h4, h3⟩
  unfold Ro
  rw [List.length_append, List.flatMap_append]
  exact h2
/-- a row of records in the making: c cells are laid -/
structure Mk {α : Type} (K : Kd α) (w wr : World) (L : List α) (c : Nat) : Prop where
  bel : Below w.heap.size w wr
  lt : w.heap.size < wr.heap.size
  cf : ∀ q, q < c → wr.cell? ⟨w.heap.size, q, none⟩ = some (cl K L q)
  rm : ∀ o, o < L.length * K.m → (wr.cell? ⟨w.heap.size, o, none⟩).isSome = true
  fz : ∀ o, wr.frozen? ⟨w.heap.size, o, none⟩ = false
theorem Mk.below {α : Type} {K : Kd α} {w wr w1 : World} {L : List α} {c : Nat} (h : Mk K w wr L c) (hb : Below wr.heap.size wr w1) : Mk K w w1 L c := by
  obtain ⟨hc, hf⟩ := bcell hb
  exact ⟨h.bel.trans (hb.mono h.bel.size), Nat.lt_of_lt_of_le h.lt hb.size, fun q hq => (hc _ _ h.lt).trans (h.cf q hq), fun o ho => by rw [hc _ _ h.lt]; exact h.rm o ho, fun o => (hf _ _ h.lt).trans (h.fz o)⟩
theorem Mk.step {α : Type} {K : Kd α} {w wr : World} {L : List α} {c : Nat} (h : Mk K w wr L c) (hc : c < L.length * K.m) (u : Value) (hu : cl K L c = u) : Mk K w (wr.setCell ⟨w.heap.size, c, none⟩ u) L (c + 1) := by
  obtain ⟨v, hv⟩ := Option.isSome_iff_exists.1 (h.rm c hc)
  refine ⟨h.bel.setCell (Nat.le_refl _) _, by simpa using h.lt, fun q hq => ?_, fun o ho => ?_, fun o => by simpa using h.fz o⟩
  · by_cases e : q = c
    · subst e; rw [World.cell?_setCell_same _ _ _ hv, hu]
    · rw [World.cell?_setCell_other _ _ _ _ (by intro p; injection p with _ p _; exact e p.symm)]; exact h.cf q (by omega)
  · by_cases e : o = c
    · subst e; rw [World.cell?_setCell_same _ _ _ hv]; rfl
    · rw [World.cell?_setCell_other _ _ _ _ (by intro p; injection p with _ p _; exact e p.symm)]; exact h.rm o ho
theorem Mk.ri {α : Type} {K : Kd α} {w w' : World} {L : List α} (h : Mk K w w' L (L.length * K.m)) : Ri K w.heap.size w'.heap.size w' (some ⟨w.heap.size, 0, none⟩) L :=
  Or.inr ⟨_, rfl, ⟨Nat.le_refl _, h.lt⟩, h.lt, fun q hq => h.cf q hq, h.fz⟩
/-- what a weight leaves of what is let by -/
def szQ (left n : Nat) (e : Ending) : Prop := e = .returned (.int .i64 (-1)) ∨ ∃ r : Nat, e = .returned (.int .i64 r) ∧ r ≤ left ∧ n ≤ left
/-- a list out of a function -/
theorem list_of {α : Type} (d : α) (n : Nat) (f : Nat → α) : ∃ L : List α, L.length = n ∧ ∀ i, i < n → L.getD i d = f i :=
  ⟨(List.range n).map f, by simp, fun i hi => by simp [List.getD, hi]⟩
end Go.Proofs.Ytagnkelpdgpigaa.Rc
