/-
  Rows of texts: held against each other, marked, held; the marks themselves. Rows of the call's own, appended to: whatever the source, a nil one and an empty one too. Rows of texts: those that came in, those of the call's own, appended to; the laws' copies of them and what they weigh. Contracts: the keys that CheckToken takes, a token's shape, of the program; keys of the model.
-/
import Derived.Test.YtkpodgeinanceaaBase
import Derived.Laws.Concat
import Derived.Deep.RegionHeld3
import Derived.Deep.DeepCutAuto
import Derived.Deep.QuietTactic
import Derived.BigQuiet
import Derived.Deep.AppendLies
import Derived.Deep.AppendSrc
import Derived.Laws.OwnMore
import Derived.Laws.ResultCell
import Derived.Deep.RegionWith
import Derived.Deep.Strs
import Derived.Deep.Slices
import Derived.Test.YtkpodgeinanceaaMnt
namespace Go.Proofs.Ytkpodgeinanceaa
open Go.ChangeShapes Go.WideShapes Go.ChangeAt Go.RowKit
set_option linter.unusedVariables false
set_option maxRecDepth 100000

/-- a number's digits ahead of a text -/
def mtG : Nat → Nat → ByteArray → ByteArray
  | 0, _, o => o
  | f + 1, k, o => if k = 0 then o else mtG f (k / 10) (⟨#[UInt8.ofNat (48 + k % 10)]⟩ ++ o)
theorem mtG_zero (f : Nat) (o : ByteArray) : mtG f 0 o = o := by
  cases f with
  | zero => rfl
  | succ f => rw [mtG, if_pos rfl]
/-- a mark -/
def mtT (k : Nat) : ByteArray := ⟨#[109]⟩ ++ mtG k k ⟨#[]⟩
/-- a row of texts to be read -/
structure Sr (w : World) (b o n : Nat) (F : Nat → ByteArray) : Prop where
  lt : b < w.heap.size
  c : ∀ i, i < n → w.cell? ⟨b, o + i, none⟩ = some (.string (F i))
theorem Sr.kept {w w' : World} {b o n : Nat} {F : Nat → ByteArray} (h : Sr w b o n F) (hb : Below w.heap.size w w') : Sr w' b o n F := by
  obtain ⟨hc, hf⟩ := bcell hb
  exact ⟨Nat.lt_of_lt_of_le h.lt hb.size, fun i hi => (hc _ _ h.lt).trans (h.c i hi)⟩
/-- a slice of texts -/
def Sa (w : World) (a : Option Addr) (n : Nat) (F : Nat → ByteArray) : Prop := n = 0 ∨ ∃ b o, a = some ⟨b, o, none⟩ ∧ Sr w b o n F
theorem Sa.kept {w w' : World} {a : Option Addr} {n : Nat} {F : Nat → ByteArray} (h : Sa w a n F) (hb : Below w.heap.size w w') : Sa w' a n F := by
  rcases h with h | ⟨b, o, e, h⟩
  · exact Or.inl h
  · exact Or.inr ⟨b, o, e, h.kept hb⟩
/-- a row of texts of the call's own, that may be written -/
structure Sw (base : Nat) (w : World) (g n : Nat) (F : Nat → ByteArray) : Prop where
  ge : base ≤ g
  lt : g < w.heap.size
  c : ∀ i, i < n → w.cell? ⟨g, i, none⟩ = some (.string (F i))
  fz : ∀ i, i < n → w.frozen? ⟨g, i, none⟩ = false
theorem Sw.kept {base : Nat} {w w' : World} {g n : Nat} {F : Nat → ByteArray} (h : Sw base w g n F) (hb : Below w.heap.size w w') : Sw base w' g n F := by
  obtain ⟨hc, hf⟩ := bcell hb
  exact ⟨h.ge, Nat.lt_of_lt_of_le h.lt hb.size, fun i hi => (hc _ _ h.lt).trans (h.c i hi), fun i hi => (hf _ _ h.lt).trans (h.fz i hi)⟩
def Sn (base : Nat) (w : World) (a : Option Addr) (n : Nat) (F : Nat → ByteArray) : Prop := n = 0 ∨ ∃ g, a = some ⟨g, 0, none⟩ ∧ Sw base w g n F
theorem Sn.kept {base : Nat} {w w' : World} {a : Option Addr} {n : Nat} {F : Nat → ByteArray} (h : Sn base w a n F) (hb : Below w.heap.size w w') : Sn base w' a n F := by
  rcases h with h | ⟨g, e, h⟩
  · exact Or.inl h
  · exact Or.inr ⟨g, e, h.kept hb⟩
theorem Sn.sa {base : Nat} {w : World} {a : Option Addr} {n : Nat} {F : Nat → ByteArray} (h : Sn base w a n F) : Sa w a n F := by
  rcases h with h | ⟨g, e, h⟩
  · exact Or.inl h
  · exact Or.inr ⟨g, 0, e, h.lt, fun i hi => by rw [Nat.zero_add]; exact h.c i hi⟩
/-- all that was there but the slice's own row is kept -/
structure Kg (a : Option Addr) (w w' : World) : Prop where
  os : w'.os = w.os
  tape : w'.tape = w.tape
  output : w'.output = w.output
  size : w.heap.size ≤ w'.heap.size
  block : ∀ k, k < w.heap.size → (∀ g, a = some ⟨g, 0, none⟩ → k ≠ g) → w'.heap[k]? = w.heap[k]?
theorem Kg.refl (a : Option Addr) (w : World) : Kg a w w := ⟨rfl, rfl, rfl, Nat.le_refl _, fun _ _ _ => rfl⟩
theorem Kg.trans {a : Option Addr} {w w1 w2 : World} (h : Kg a w w1) (k : Kg a w1 w2) : Kg a w w2 :=
  ⟨k.os.trans h.os, k.tape.trans h.tape, k.output.trans h.output, Nat.le_trans h.size k.size, fun q hq hn => (k.block q (Nat.lt_of_lt_of_le hq h.size) hn).trans (h.block q hq hn)⟩
theorem Kg.of {a : Option Addr} {w w' : World} (h : Below w.heap.size w w') : Kg a w w' := ⟨h.os, h.tape, h.output, h.size, fun k hk _ => h.block k hk⟩
theorem Kg.set {g i : Nat} {w w' : World} {u : Value} (h : Kg (some ⟨g, 0, none⟩) w w') : Kg (some ⟨g, 0, none⟩) w (w'.setCell ⟨g, i, none⟩ u) :=
  ⟨h.os, h.tape, h.output, by simpa [World.setCell] using h.size, fun k hk hn => (Below.heap_setCell w' ⟨g, i, none⟩ u k (hn g rfl)).trans (h.block k hk hn)⟩
theorem Kg.sr {a : Option Addr} {w w' : World} {b o n : Nat} {F : Nat → ByteArray} (h : Kg a w w') (hI : Sr w b o n F) (hne : ∀ g, a = some ⟨g, 0, none⟩ → b ≠ g) : Sr w' b o n F := by
  have e := h.block b hI.lt hne
  exact ⟨Nat.lt_of_lt_of_le hI.lt h.size, fun i hi => (World.cell?_of_block (a := ⟨b, o + i, none⟩) e).trans (hI.c i hi)⟩
theorem Kg.below {a : Option Addr} {w w' : World} {base : Nat} (h : Kg a w w') (hb : base ≤ w.heap.size) (hg : ∀ g, a = some ⟨g, 0, none⟩ → base ≤ g) : Below base w w' :=
  ⟨h.os, h.tape, h.output, h.size, fun k hk => h.block k (by omega) (fun g e => by have := hg g e; omega)⟩
set_option maxHeartbeats 1000000 in
theorem eqS_same (a a' : Option Addr) (n cap cap' : Nat) (F : Nat → ByteArray) (w : World) (hn : n ≤ 1048576) (h : Sa w a n F) (h' : Sa w a' n F) :
    Calls Try.prog 10 #[.slice a n cap, .slice a' n cap'] w fun e w' => e = .returned (.bool true) ∧ Below w.heap.size w w' := by
  have HR := hide h
  have HR' := hide h'
  clear h h'
  go_enter Try.func10, Try.ntmps10
  go_wp2
  go_loopw [5] (fun i wr => ∃ k : Nat, k ≤ n ∧ i = .int .i64 k ∧ Below w.heap.size w wr) (fun i _ => n - (intOf i).toNat)
  case atStart => exact ⟨0, Nat.zero_le _, rfl, Below.refl _ _⟩
  case round =>
    obtain ⟨k, hk, rfl, hbel⟩ := hrel
    by_cases hlt : k < n
    · rcases (unhide HR).kept hbel with h0 | ⟨b, o, rfl, h1⟩
      · omega
      rcases (unhide HR').kept hbel with h0 | ⟨b', o', rfl, h2⟩
      · omega
      have hcf := h1.c k hlt
      have hcf' := h2.c k hlt
      have hnk : (k : Int) < (n : Int) := by omega
      have hk0 : (0 : Int) ≤ (k : Int) := by omega
      clear h1 h2
      generalize F k = t at *
      go_wp2_with fail
      go_quiet (fail)
      all_goals
        go_wp2
        exact ⟨⟨k + 1, by omega, by go_num, below_drewN hbel _⟩, by simp [intOf]; omega⟩
    · go_wp2
      go_ret
      exact ⟨rfl, hbel⟩
/-- the marks k, k + 1, .. -/
def mkS (k i : Nat) : ByteArray := mtT (k + i)
/-- the first i places of f, the others of g -/
def stS (f g : Nat → ByteArray) (k i : Nat) : ByteArray := if i < k then f i else g i
end Go.Proofs.Ytkpodgeinanceaa
namespace Go.Proofs.Ytkpodgeinanceaa
open Go.ChangeShapes Go.WideShapes Go.ChangeAt Go.RowKit
set_option linter.unusedVariables false

/-- what a slice of m elements holds, as cells -/
def Sc (w : World) (sa : Option Addr) (m : Nat) (news : List Value) : Prop := (m = 0 ∧ news = []) ∨ ∃ a, sa = some a ∧ ∀ j u, news[j]? = some u → w.cell? (a.add j) = some u
theorem app_any (w : World) (t ty : TypeId) (base : Nat) (e : TypeId) (i : TypeInfo) (z : Value) (size bytes : Nat) (ht : Try.prog.underlying t = some (.slice e)) (hi : Try.prog.info? e = some i) (hz : i.zero = some z)
    (hsize : i.size = size) (hby : i.bytes = bytes) (hzs : z.cells.size = size) (hsz : 0 < size)
    (v : Value) (n : Nat) (xs : List Value) (hown : w.ownsRow base e size v n xs)
    (sa : Option Addr) (m c : Nat) (news : List Value) (hl : news.length = m * size) (hs : Sc w sa m news) (h1 : ∀ u ∈ news, u.oneCell' = true)
    (h63 : n + m ≤ maxLen) (hbytes : (n + m) * bytes ≤ 140737488355328) (hbase : base ≤ w.heap.size) :
    ∃ v' w', (Builtin.append_ #[t, t] ty #[v, .slice sa m c]).run Try.prog w = .ok v' w' ∧ w'.ownsRow base e size v' (n + m) (xs ++ news) ∧ w.grownBy w' v.ownBlock ∧ (v'.ownBlock = v.ownBlock ∨ v'.ownBlock = some w.heap.size) := by
  cases sa with
  | some a =>
    have hnews : ∀ j u, news[j]? = some u → w.cell? (a.add j) = some u := by
      rcases hs with ⟨rfl, rfl⟩ | ⟨a', e', h⟩
      · intro j u hu; simp at hu
      · injection e' with e'; subst e'; exact h
    obtain ⟨v', w', r1, r2, r3, _, r5⟩ := run_append_own_at (P := Try.prog) w base t ty e i z size bytes ht hi hz hsize hby hzs hsz v n xs hown a m c news hl hnews h1 h63 hbytes hbase
    exact ⟨v', w', r1, r2, r3, r5⟩
  | none =>
    obtain ⟨rfl, rfl⟩ : m = 0 ∧ news = [] := by
      rcases hs with h | ⟨a', e', h⟩
      · exact h
      · cases e'
    have hs' := Src.ofNil (P := Try.prog) (w := w) (size := i.size) ht c
    rcases hown.2 with ⟨rfl, rfl⟩ | ⟨g, cap, cur, rfl, hb, hg, hnc, hcm, hcs, htk⟩
    · refine ⟨.slice none 0 0, w, ?_, by simpa using hown, ⟨rfl, rfl, rfl, Nat.le_refl _, fun _ _ _ => rfl⟩, Or.inl rfl⟩
      simp [Builtin.append_, run_underlying ht, sizeOf, typeInfo, hi, hs'.len, hs'.cells]
      done
    · refine ⟨.slice (some ⟨g, 0, none⟩) n cap, w, ?_, by simpa using hown, ⟨rfl, rfl, rfl, Nat.le_refl _, fun _ _ _ => rfl⟩, Or.inl rfl⟩
      have r := run_append_room_src (P := Try.prog) (w := w) t t ty e i ht hi g 0 n cap (.slice none 0 c) 0 [] hs' (by omega) (fun j hj => by simp at hj) (fun j hj => by simp at hj)
      rw [r]
      simp [World.setCells]
/-- append at the list of a plain region's operations, by its run -/
theorem wpl_app {P : Program} {ops : Array Oper} {rest : List Oper} {o : Oper} {a : Act} {w : World} {Q : Exit → Act → World → Prop} (hg : o.guard = none) (d x : Operand) (t : TypeId)
    (hop : o.op = Op.call { callee := Callee.builtin Builtin.append, args := #[d, x], argTypes := #[t, t] }) (v1 v2 v' : Value) (w' : World) (hd : a.eval d = v1) (hx : a.eval x = v2)
    (hrun : (Builtin.append_ #[t, t] o.type #[v1, v2]).run P w = .ok v' w') (h : wpList P ops Q rest (a.put o.dst v') w') : wpList P ops Q (o :: rest) a w :=
  wpList_plain hg fun K hK => by
    unfold Oper.wp
    simp [execOp, hop, resolve, invoke, builtin, hd, hx, hrun, Result.andThen]
    exact hK _ _ h
theorem stp_app {P : Program} {ops : Array Oper} {o : Oper} {a : Act} {w : World} {K : Act → World → Prop} {Q : Exit → Act → World → Prop} {E : Prop}
    (hg : o.guard = none) (d x : Operand) (t : TypeId) (hop : o.op = Op.call { callee := Callee.builtin Builtin.append, args := #[d, x], argTypes := #[t, t] })
    (v1 v2 v' : Value) (w' : World) (hd : a.eval d = v1) (hx : a.eval x = v2) (hrun : (Builtin.append_ #[t, t] o.type #[v1, v2]).run P w = .ok v' w') (hK : K (a.put o.dst v') w') :
    if Region.wanted o (yielded ops a.tmps) = true then Oper.wp P o a w K Q else E := by
  have hw : Region.wanted o (yielded ops a.tmps) = true := by simp [Region.wanted, hg]
  rw [if_pos hw]
  unfold Oper.wp
  simp [execOp, hop, resolve, invoke, builtin, hd, hx, hrun, Result.andThen]
  exact hK
end Go.Proofs.Ytkpodgeinanceaa
namespace Go.Proofs.Ytkpodgeinanceaa
open Go.ChangeShapes Go.WideShapes Go.ChangeAt Go.RowKit Go.Deep
set_option linter.unusedVariables false
set_option maxRecDepth 100000

/-- the i-th text of a list -/
def tA (L : List ByteArray) (i : Nat) : ByteArray := L.getD i ⟨#[]⟩
/-- the cells of a list of texts -/
def tC (L : List ByteArray) : List Value := L.map .string
theorem tC_len (L : List ByteArray) : (tC L).length = L.length * 1 := by simp [tC]
theorem tC_app (L M : List ByteArray) : tC (L ++ M) = tC L ++ tC M := by simp [tC]
theorem tC_one (L : List ByteArray) : ∀ u ∈ tC L, u.oneCell' = true := by
  intro u hu
  obtain ⟨t, _, rfl⟩ := List.mem_map.1 hu
  rfl
theorem tC_get (L : List ByteArray) (i : Nat) (u : Value) (h : (tC L)[i]? = some u) : i < L.length ∧ u = .string (tA L i) := by
  unfold tC at h
  rw [List.getElem?_map] at h
  cases e : L[i]? with
  | none => rw [e] at h; cases h
  | some t =>
    rw [e] at h
    injection h with h
    have hi := (List.getElem?_eq_some_iff.1 e).1
    refine ⟨hi, ?_⟩
    unfold tA
    rw [List.getD, e, ← h]
    rfl
theorem tC_at (L : List ByteArray) (i : Nat) (h : i < L.length) : (tC L)[i]? = some (.string (tA L i)) := by
  unfold tC tA
  rw [List.getElem?_map, List.getD, List.getElem?_eq_getElem h]
  rfl
theorem take_tA (L : List ByteArray) (k : Nat) (h : k < L.length) : L.take k ++ [tA L k] = L.take (k + 1) := by
  rw [List.take_add_one, List.getElem?_eq_getElem h]
  unfold tA
  rw [List.getD, List.getElem?_eq_getElem h]
  rfl
theorem tA_app_l (L M : List ByteArray) (i : Nat) (h : i < L.length) : tA (L ++ M) i = tA L i := by
  unfold tA
  rw [List.getD, List.getD, List.getElem?_append_left h]
theorem tA_take (L : List ByteArray) (k i : Nat) (h : i < k) : tA (L.take k) i = tA L i := by
  unfold tA
  rw [List.getD, List.getD, List.getElem?_take, if_pos h]
theorem tA_drop (L : List ByteArray) (k i : Nat) : tA (L.drop k) i = tA L (k + i) := by
  unfold tA
  rw [List.getD, List.getD, List.getElem?_drop]
/-- a list out of a function -/
theorem tlist_of (n : Nat) (f : Nat → ByteArray) : ∃ L : List ByteArray, L.length = n ∧ ∀ i, i < n → tA L i = f i :=
  ⟨(List.range n).map f, by simp, fun i hi => by simp [tA, List.getD, hi]⟩
theorem Sa.congr {w : World} {a : Option Addr} {n : Nat} {F G : Nat → ByteArray} (h : Sa w a n F) (e : ∀ i, i < n → F i = G i) : Sa w a n G := by
  rcases h with h | ⟨b, o, ea, h⟩
  · exact Or.inl h
  · exact Or.inr ⟨b, o, ea, h.lt, fun i hi => by rw [h.c i hi, e i hi]⟩
theorem Sn.congr {base : Nat} {w : World} {a : Option Addr} {n : Nat} {F G : Nat → ByteArray} (h : Sn base w a n F) (e : ∀ i, i < n → F i = G i) : Sn base w a n G := by
  rcases h with h | ⟨g, ea, h⟩
  · exact Or.inl h
  · exact Or.inr ⟨g, ea, h.ge, h.lt, fun i hi => by rw [h.c i hi, e i hi], h.fz⟩
/-- a slice of texts, as a list -/
def Ta (w : World) (a : Option Addr) (L : List ByteArray) : Prop := Sa w a L.length (tA L)
theorem Ta.kept {w w' : World} {a : Option Addr} {L : List ByteArray} (h : Ta w a L) (hb : Below w.heap.size w w') : Ta w' a L := Sa.kept h hb
theorem add_non (b o j : Nat) : (⟨b, o, none⟩ : Addr).add j = ⟨b, o + j, none⟩ := by unfold Addr.add; split <;> simp_all
/-- a part of a row, as a source -/
theorem Sr.sc {w : World} {b o : Nat} {L : List ByteArray} (h : Sr w b o L.length (tA L)) (i : Nat) (M : List ByteArray) (hM : ∀ j, j < M.length → i + j < L.length ∧ tA M j = tA L (i + j)) : Sc w (some ⟨b, o + i, none⟩) M.length (tC M) := by
  refine Or.inr ⟨_, rfl, fun j u hu => ?_⟩
  obtain ⟨hj, rfl⟩ := tC_get M j u hu
  rw [add_non, Nat.add_assoc, h.c (i + j) (hM j hj).1, (hM j hj).2]
theorem sc_txt (w : World) (t : ByteArray) (T : TypeId) : Sc (w.alloc (.cells #[.string t] T)) (some ⟨w.heap.size, 0, none⟩) [t].length (tC [t]) := by
  refine Or.inr ⟨_, rfl, fun j u hu => ?_⟩
  obtain ⟨hj, rfl⟩ := tC_get [t] j u hu
  obtain rfl : j = 0 := by simpa using hj
  rw [add_non]
  simp [tA]
/-- texts of the call's own, in one row -/
def Ost (base : Nat) (w : World) (v : Value) (L : List ByteArray) : Prop := w.ownsRow base 9 1 v L.length (tC L)
theorem Ost.nil (base : Nat) (w : World) : Ost base w (.slice none 0 0) [] := World.ownsRow_nil _ _ _ _
theorem Ost.kept {base : Nat} {w w' : World} {v : Value} {L : List ByteArray} (h : Ost base w v L) (hb : Below w.heap.size w w') : Ost base w' v L := by
  refine ⟨h.1, ?_⟩
  rcases h.2 with hn | ⟨g, cap, cur, rfl, hg, hgg, rest⟩
  · exact .inl hn
  · refine .inr ⟨g, cap, cur, rfl, hg, ?_, rest⟩
    rw [hb.block g (Array.getElem?_eq_some_iff.1 hgg).1]
    exact hgg
theorem Ost.blk {base : Nat} {w : World} {v : Value} {L : List ByteArray} (h : Ost base w v L) : ∀ k, v.ownBlock = some k → base ≤ k := fun k e => (World.ownsRow.lt h k e).1
theorem Ost.form {base : Nat} {w : World} {v : Value} {L : List ByteArray} (h : Ost base w v L) : ∃ a cap, v = .slice a L.length cap ∧ L.length ≤ cap ∧ cap ≤ maxLen ∧ Sn base w a L.length (tA L) := by
  rcases h.2 with ⟨rfl, e⟩ | ⟨g, cap, cur, rfl, hb, hg, hnc, hcm, _⟩
  · exact ⟨none, 0, by rw [e], by omega, Nat.zero_le _, Or.inl e⟩
  · refine ⟨_, _, rfl, hnc, hcm, Or.inr ⟨g, rfl, hb, (Array.getElem?_eq_some_iff.1 hg).1, fun k hk => ?_, fun o _ => World.ownsRow.frozenAt h o⟩⟩
    exact (World.ownsRow.cellAt h k (by omega)).trans (tC_at L k hk)
theorem gr_below {base : Nat} {w w' : World} {v : Value} (hg : w.grownBy w' v.ownBlock) (hb : base ≤ w.heap.size) (hv : ∀ k, v.ownBlock = some k → base ≤ k) : Below base w w' :=
  ⟨hg.os, hg.tape, hg.output, hg.size, fun k hk => hg.block k (by omega) (fun e => by have := hv k e.symm; omega)⟩
theorem infoTx : (Try.prog.info? 9).map (fun i => (i.zero, i.size, i.bytes)) = some (some (.string ⟨#[]⟩), 1, 16) := by kernel_rfl
theorem infoTx_parts : ∃ i0, Try.prog.info? 9 = some i0 ∧ i0.zero = some (.string ⟨#[]⟩) ∧ i0.size = 1 ∧ i0.bytes = 16 := by
  have h := infoTx
  cases e : Try.prog.info? 9 with
  | none => rw [e] at h; cases h
  | some i0 => rw [e] at h; simp at h; exact ⟨i0, rfl, h.1, h.2.1, h.2.2⟩
theorem appS (w : World) (ty : TypeId) (base : Nat) (v : Value) (L : List ByteArray) (hown : Ost base w v L) (sa : Option Addr) (c : Nat) (M : List ByteArray) (hs : Sc w sa M.length (tC M)) (hb : L.length + M.length ≤ 1048576) (hbase : base ≤ w.heap.size) :
    ∃ v' w', (Builtin.append_ #[22, 22] ty #[v, .slice sa M.length c]).run Try.prog w = .ok v' w' ∧ Ost base w' v' (L ++ M) ∧ Below base w w' ∧ (v'.ownBlock = v.ownBlock ∨ v'.ownBlock = some w.heap.size) := by
  obtain ⟨i0, hi, hz0, hz1, hz2⟩ := infoTx_parts
  obtain ⟨v', w', h1, h2, h3, h4⟩ := app_any w 22 ty base 9 i0 _ 1 16 Try.underlying22 hi hz0 hz1 hz2 rfl (by decide) v L.length (tC L) hown sa M.length c (tC M) (tC_len M) hs (tC_one M) (by unfold maxLen; omega) (by omega) hbase
  refine ⟨v', w', h1, ?_, gr_below h3 hbase (Ost.blk hown), h4⟩
  unfold Ost
  rw [List.length_append, tC_app]
  exact h2

/-! ### the laws' copies -/
/-- a slice of texts in the making: k of n are laid -/
structure Ms (w wr : World) (n k : Nat) (F : Nat → ByteArray) : Prop where
  bel : Below w.heap.size w wr
  lt : w.heap.size < wr.heap.size
  cf : ∀ j, j < k → wr.cell? ⟨w.heap.size, j, none⟩ = some (.string (F j))
  rf : ∀ j, j < n → (wr.cell? ⟨w.heap.size, j, none⟩).isSome = true
  fz : ∀ o, wr.frozen? ⟨w.heap.size, o, none⟩ = false
theorem Ms.step {w wr : World} {n k : Nat} {F : Nat → ByteArray} (h : Ms w wr n k F) (hk : k < n) : Ms w (wr.setCell ⟨w.heap.size, k, none⟩ (.string (F k))) n (k + 1) F := by
  obtain ⟨v0, e0⟩ := Option.isSome_iff_exists.1 (h.rf k hk)
  refine ⟨h.bel.setCell (Nat.le_refl _) _, by simpa using h.lt, ?_, ?_, ?_⟩
  · intro j hj
    by_cases e : j = k
    · subst e; exact World.cell?_setCell_same _ _ _ e0
    · rw [World.cell?_setCell_other _ _ _ _ (by intro e; simp at e <;> omega)]; exact h.cf j (by omega)
  · intro j hj
    by_cases e : j = k
    · subst e; rw [World.cell?_setCell_same _ _ _ e0]; rfl
    · rw [World.cell?_setCell_other _ _ _ _ (by intro e; simp at e <;> omega)]; exact h.rf j hj
  · intro o; rw [World.frozen?_setCell]; exact h.fz o
set_option maxHeartbeats 1000000 in
theorem toS_any (a : Option Addr) (n cap : Nat) (F : Nat → ByteArray) (w : World) (hn : n ≤ 1048576) (h : Sa w a n F) :
    Calls Try.prog 7 #[.slice a n cap] w fun e w' => e = .returned (.slice (some ⟨w.heap.size, 0, none⟩) n n) ∧ Sn w.heap.size w' (some ⟨w.heap.size, 0, none⟩) n F ∧ w.heap.size < w'.heap.size ∧ Below w.heap.size w w' := by
  obtain ⟨i0, hi, hz0, hz1, hz2⟩ := infoTx_parts
  obtain ⟨w1, hmk, hown, hgr⟩ := run_make_full (P := Try.prog) w w.heap.size 22 9 i0 _ 1 Try.underlying22 hi hz0 hz1 .i64 .i64 n (by rw [hz2]; omega) (by unfold maxLen; omega) (Nat.le_refl _)
  have HM : Hid (Ms w w1 n 0 F) := by
    refine ⟨(Below.refl _ _).grown hgr (Nat.le_refl _) (fun k hk => by cases hk), (hown.lt w.heap.size rfl).2, fun j hj => by omega, fun j hj => ?_, fun o => hown.frozenAt o⟩
    rw [hown.cellAt j (by omega)]; simp [madeCells]; omega
  clear hown hgr hi hz0 hz1 hz2
  have HR := hide h
  clear h
  go_enter Try.func7, Try.ntmps7
  go_wp2
  go_loopw [4] (fun i wr => ∃ k : Nat, k ≤ n ∧ i = .int .i64 k ∧ Ms w wr n k F) (fun i _ => n - (intOf i).toNat)
  case atStart => exact ⟨0, Nat.zero_le _, rfl, unhide HM⟩
  case round =>
    obtain ⟨k, hk, rfl, hmr⟩ := hrel
    by_cases hlt : k < n
    · rcases (unhide HR).kept hmr.bel with h0 | ⟨b, o, rfl, h1⟩
      · omega
      have hcf := h1.c k hlt
      obtain ⟨v0, e0⟩ := Option.isSome_iff_exists.1 (hmr.rf k hlt)
      have f0 := hmr.fz k
      have hnk : (k : Int) < (n : Int) := by omega
      have HM2 := hide (hmr.step hlt)
      clear h1 hmr
      generalize F k = t at *
      go_wp2
      exact ⟨⟨k + 1, by omega, by go_num, unhide HM2⟩, by simp [intOf]; omega⟩
    · obtain rfl : k = n := by omega
      have HM2 := hide hmr
      clear hmr
      go_wp2
      go_ret
      exact ⟨rfl, Or.inr ⟨_, rfl, Nat.le_refl _, (unhide HM2).lt, (unhide HM2).cf, fun i _ => (unhide HM2).fz i⟩, (unhide HM2).lt, (unhide HM2).bel⟩
set_option maxHeartbeats 1000000 in
theorem szS_any (a : Option Addr) (n cap : Nat) (F : Nat → ByteArray) (left : Nat) (w : World) (h1 : left ≤ 1048576) (hn : n ≤ maxLen) (hs : ∀ i, i < n → (F i).size ≤ maxLen) (h : Sa w a n F) :
    Calls Try.prog 5 #[.slice a n cap, .int .i64 left] w fun e w' => (e = .returned (.int .i64 (-1)) ∨ ∃ r : Nat, e = .returned (.int .i64 r) ∧ r ≤ left ∧ n ≤ left ∧ ∀ i, i < n → (F i).size ≤ left) ∧ w' = w := by
  unfold maxLen at hn hs
  have HS := hide hs
  clear hs
  by_cases hl : (left : Int) < n
  · go_enter Try.func5, Try.ntmps5
    go_wp2
    go_ret
    exact ⟨Or.inl rfl, rfl⟩
  have HR := hide h
  clear h
  go_enter Try.func5, Try.ntmps5
  go_wp2
  go_loopw [1, 5] (fun lv i wr => ∃ k l : Nat, k ≤ n ∧ i = .int .i64 k ∧ lv = .int .i64 l ∧ l ≤ left ∧ Hid (∀ j, j < k → (F j).size ≤ left) ∧ wr = w) (fun _ i _ => n - (intOf i).toNat)
  case atStart => exact ⟨0, left - n, Nat.zero_le _, rfl, by congr 1; omega, by omega, fun j hj => absurd hj (Nat.not_lt_zero _), rfl⟩
  case round =>
    obtain ⟨k, l, hk, rfl, rfl, hll, hA, rfl⟩ := hrel
    by_cases hlt : k < n
    · rcases unhide HR with h0 | ⟨b, o, e, h1⟩
      · omega
      subst e
      have hcf := h1.c k hlt
      have hsz := unhide HS k hlt
      have hnk : (k : Int) < (n : Int) := by omega
      have HA2 : Hid ((F k).size ≤ left → ∀ j, j < k + 1 → (F j).size ≤ left) := fun h j hj => by
        by_cases e : j = k
        · rw [e]; exact h
        · exact unhide hA j (by omega)
      clear h1 hA
      generalize F k = t at *
      by_cases c : (l : Int) < t.size
      · go_wp2
        go_ret
        exact ⟨Or.inl rfl, rfl⟩
      · have e9 : ((l - t.size : Nat) : Int) = (l : Int) - (t.size : Int) := by omega
        go_wp2
        exact ⟨⟨k + 1, l - t.size, by omega, by go_num, by rw [e9], by omega, unhide HA2 (by omega), by trivial⟩, by simp [intOf]; omega⟩
    · obtain rfl : k = n := by omega
      go_wp2
      go_ret
      exact ⟨Or.inr ⟨l, rfl, hll, by omega, unhide hA⟩, rfl⟩
theorem cTx : Try.prog.cellsOf 9 = 1 := by kernel_rfl
theorem open_texts {H : Type} {enc : TypeId × Value → H} {W : World} {spare : Nat → Bool} {held : Bool} {fuel : Nat} {v : Value} {x : DataW H × List MemPlace}
    (h : DataW.trod enc Try.prog W 0 spare held fuel 22 [v] = some x) :
    ∃ (a : Option Addr) (cap : Nat) (L : List ByteArray), v = .slice a L.length cap ∧ L.length ≤ maxLen ∧ (∀ i, i < L.length → (tA L i).size ≤ maxLen) ∧ Ta W a L := by
  rcases open_strs Try.underlying22 Try.underlying9 cTx h with ⟨hc, _⟩ | ⟨a, len, cap, m, Sx, hc, _, hl, hm, hmm, _, hx⟩
  · exact ⟨none, 0, [], by simpa using hc, Nat.zero_le _, fun i hi => absurd hi (Nat.not_lt_zero _), Or.inl rfl⟩
  · have hlm : len ≤ m := by rw [hmm]; split <;> omega
    obtain ⟨L, hL, hF⟩ := tlist_of len Sx
    subst hL
    refine ⟨some a, cap, L, by simpa using hc, by omega, fun i hi => by rw [hF i hi]; exact (hx i (by omega)).2, ?_⟩
    by_cases h0 : L.length = 0
    · exact Or.inl h0
    · right
      obtain ⟨b, off, spot⟩ := a
      have hs : spot = none := by
        have h1 := (hx 0 (by omega)).1
        have := World.cell?_spot h1
        simpa [Addr.add] using this
      subst hs
      refine ⟨b, off, rfl, ?_, fun i hi => ?_⟩
      · have h1 := (hx 0 (by omega)).1
        rw [add_non] at h1
        exact World.block_lt_of_cell? W _ h1
      · have h1 := (hx i (by omega)).1
        rw [add_non] at h1
        rw [h1, hF i hi]
end Go.Proofs.Ytkpodgeinanceaa
namespace Go.Proofs.Ytkpodgeinanceaa
open Go.ChangeShapes Go.WideShapes Go.ChangeAt Go.RowKit
set_option linter.unusedVariables false
set_option maxRecDepth 100000

/-- the first k texts have sixteen bytes each -/
def k16 (F : Nat → ByteArray) : Nat → Bool
  | 0 => true
  | k + 1 => k16 F k && decide ((F k).size = 16)
theorem k16_no (F : Nat → ByteArray) : ∀ {k n : Nat}, k < n → ¬ (F k).size = 16 → k16 F n = false
  | k, 0, h, _ => absurd h (by omega)
  | k, n + 1, h, e => by
    unfold k16
    by_cases hk : k = n
    · subst hk; rw [decide_eq_false e, Bool.and_false]
    · rw [k16_no F (show k < n by omega) e, Bool.false_and]
theorem k16_at (F : Nat → ByteArray) : ∀ {k n : Nat}, k < n → k16 F n = true → (F k).size = 16
  | k, 0, h, _ => absurd h (by omega)
  | k, n + 1, h, e => by
    unfold k16 at e
    rw [Bool.and_eq_true] at e
    by_cases hk : k = n
    · subst hk; exact of_decide_eq_true e.2
    · exact k16_at F (show k < n by omega) e.1
/-- the keys that CheckToken takes -/
def gkB (F : Nat → ByteArray) (n : Nat) : Bool := decide (1 ≤ n ∧ n ≤ 2) && k16 F n
theorem goodKs (a : Option Addr) (n cap : Nat) (F : Nat → ByteArray) (w : World) (hn : n ≤ 1048576) (hs : ∀ i, i < n → (F i).size ≤ 1048576) (h : Sa w a n F) :
    Calls Try.prog 20 #[.slice a n cap] w fun e w' => e = .returned (.bool (gkB F n)) ∧ w' = w := by
  have HR := hide h
  have HS := hide hs
  clear h hs
  unfold gkB
  by_cases h0 : 1 ≤ n
  case neg =>
    rw [decide_eq_false (by omega), Bool.false_and]
    obtain rfl : n = 0 := by omega
    go_enter Try.func20, Try.ntmps20
    go_wp2
    go_ret
    exact ⟨rfl, rfl⟩
  by_cases h1 : n ≤ 2
  case neg =>
    rw [decide_eq_false (by omega), Bool.false_and]
    have g0 : ¬ (n : Int) < 1 := by omega
    have g1 : (2 : Int) < (n : Int) := by omega
    go_enter Try.func20, Try.ntmps20
    go_wp2
    go_ret
    exact ⟨rfl, rfl⟩
  rw [decide_eq_true ⟨h0, h1⟩, Bool.true_and]
  have g0 : ¬ (n : Int) < 1 := by omega
  have g1 : ¬ (2 : Int) < (n : Int) := by omega
  go_enter Try.func20, Try.ntmps20
  go_wp2
  clear g0 g1
  go_loopw [15] (fun i wr => ∃ k : Nat, k ≤ n ∧ i = .int .i64 k ∧ k16 F k = true ∧ wr = w) (fun i _ => n - (intOf i).toNat)
  case atStart => exact ⟨0, Nat.zero_le _, rfl, rfl, rfl⟩
  case round =>
    obtain ⟨k, hk, rfl, hA, rfl⟩ := hrel
    by_cases hlt : k < n
    · rcases unhide HR with h0 | ⟨b, o, e, h1⟩
      · omega
      subst e
      have hcf := h1.c k hlt
      have hsz := unhide HS k hlt
      have hnk : (k : Int) < (n : Int) := by omega
      by_cases c : (F k).size = 16
      · have hA2 : Hid (k16 F (k + 1) = true) := by show _ = _; rw [k16, hA, decide_eq_true c]; rfl
        clear h1 hA
        generalize F k = t at *
        have c2 : ((t.size : Int) != 16) = false := by simp; omega
        go_wp2
        exact ⟨⟨k + 1, by omega, by go_num, unhide hA2, by trivial⟩, by simp [intOf]; omega⟩
      · have hE := hide (k16_no F hlt c)
        clear h1 hA
        generalize F k = t at *
        have c2 : ((t.size : Int) != 16) = true := by simp; omega
        go_wp2
        go_ret
        exact ⟨by rw [unhide hE]; rfl, rfl⟩
    · obtain rfl : k = n := by omega
      have HA := hide hA
      clear hA
      go_wp2
      go_ret
      exact ⟨by rw [unhide HA]; rfl, rfl⟩
end Go.Proofs.Ytkpodgeinanceaa
