/-
  Contracts: the program's own copies of configs and servers. The program's map of entries: what it holds, slot by slot.
-/
import Derived.Test.YtbabipaipbjlbaaRws
import Derived.Test.YtbabipaipbjlbaaShelf
import Derived.Maps.RangeWalk
import Derived.Maps.OwnSet
namespace Go.Proofs.Ytbabipaipbjlbaa
open Go.ChangeShapes Go.WideShapes Go.ChangeAt Go.RowKit Go.Deep
set_option linter.unusedVariables false
set_option maxRecDepth 100000

theorem cln (s : ByteArray) (hs : s.size ≤ 1048576) (w : World) : Calls Try.prog 48 #[.string s] w fun e w' => e = .returned (.string s) ∧ Below w.heap.size w w' := by
  have H := hide (fun W => Try.stringslite_Clone s W (by omega))
  go_enter Try.func48, Try.ntmps48
  go_wp2_with fail
  refine (unhide H _).mono ?_
  rintro e w1 ⟨rfl, b1⟩
  go_wp2
  go_ret
  exact ⟨rfl, b1⟩
theorem take_aA (L : List AlD) (k : Nat) (h : k < L.length) : L.take k ++ [aA L k] = L.take (k + 1) := by
  rw [List.take_add_one, List.getElem?_eq_getElem h]
  simp [aA, List.getD, List.getElem?_eq_getElem h]
theorem alC_sing (D : AlD) : alC [D] = [.string D.i, .string D.b] := rfl
theorem grown_below {base : Nat} {w w' : World} {v : Value} (hg : w.grownBy w' v.ownBlock) (hb : base ≤ w.heap.size) (hv : ∀ k, v.ownBlock = some k → base ≤ k) : Below base w w' :=
  ⟨hg.os, hg.tape, hg.output, hg.size, fun k hk => hg.block k (by omega) (fun e => by have := hv k e.symm; omega)⟩
theorem Oa.blk {base : Nat} {w : World} {v : Value} {L : List AlD} (h : Oa base w v L) : ∀ k, v.ownBlock = some k → base ≤ k := fun k e => (World.ownsRow.lt h k e).1
theorem Oe.blk {base : Nat} {w : World} {v : Value} {R : List EnR} (h : Oe base w v R) : ∀ k, v.ownBlock = some k → base ≤ k := fun k e => (World.ownsRow.lt h k e).1
/-- a literal of one alloc as a source -/
theorem sc_al (w : World) (D : AlD) (T : TypeId) : Sc (w.alloc (.cells #[.string D.i, .string D.b] T)) (some ⟨w.heap.size, 0, none⟩) [D].length (alC [D]) := by
  refine Or.inr ⟨_, rfl, fun j u hu => ?_⟩
  rw [add_none]
  have := (Bx.new w [.string D.i, .string D.b] T).cv (0 + j)
  rw [this, Nat.zero_add]
  exact hu
end Go.Proofs.Ytbabipaipbjlbaa
namespace Go.Proofs.Ytbabipaipbjlbaa
open Go.ChangeShapes Go.WideShapes Go.ChangeAt Go.RowKit Go.Deep Go.Maps
set_option linter.unusedVariables false
set_option maxRecDepth 100000

/-- how an element of the map reads: as itself -/
def hR (v : Value) : Option (DataW Value × List MemPlace) := some (.held v, [])
theorem keyL : Keyed Try.prog 3 := int_keyed Try.underlying3
theorem zeroEn (w : World) : (zeroValue 126).run Try.prog w = .ok (.agg #[.int .i64 0, .int .i64 0, .int .i64 0, .string ⟨#[]⟩, .bool false, .slice none 0 0, .int .i64 0]) w := by kernel_rfl
abbrev kI (s : Int) : Lit := .int .i64 s
/-- a slot's entry as the map's value -/
abbrev rV (r : EnR) : Value := ev r.D r.ra r.cap
/-- block b is a map of at most n entries: at slot s the entry F s -/
def Mg (w : World) (b n : Nat) (F : Int → Option EnR) : Prop :=
  ∃ Dm : DataW Value, w.ownsMap Try.prog 3 hR b n Dm ∧ (∀ s, Maps.has Dm (kI s) = (F s).isSome) ∧ ∀ s r, F s = some r → ∀ zd, Dm.atKey (kI s) zd = .held (rV r)
theorem Mg.lt {w : World} {b n : Nat} {F : Int → Option EnR} (h : Mg w b n F) : b < w.heap.size := by obtain ⟨_, h, _⟩ := h; exact h.lt
theorem Mg.kept {w w' : World} {b n : Nat} {F : Int → Option EnR} {row : Option Nat} (h : Mg w b n F) (hg : w.grownBy w' row) (hne : some b ≠ row) : Mg w' b n F := by
  obtain ⟨Dm, h1, h2⟩ := h
  exact ⟨Dm, h1.kept hg hne, h2⟩
theorem below_grown {w w' : World} (h : Below w.heap.size w w') : w.grownBy w' none := ⟨h.os, h.tape, h.output, h.size, fun i hi _ => h.block i hi⟩
theorem Mg.below {w w' : World} {b n : Nat} {F : Int → Option EnR} (h : Mg w b n F) (hb : Below w.heap.size w w') : Mg w' b n F := h.kept (below_grown hb) (by simp)
theorem Mg.made (w : World) : Mg (w.alloc (.map #[] 0)) w.heap.size 0 (fun _ => none) :=
  ⟨_, World.ownsMap_made _ _ _ _, fun s => rfl, fun s r e => by cases e⟩
theorem Mg.mono {w : World} {b n n' : Nat} {F : Int → Option EnR} (h : Mg w b n F) (hn : n ≤ n') : Mg w b n' F := by
  obtain ⟨Dm, h1, h2⟩ := h
  exact ⟨Dm, h1.mono hn, h2⟩
/-- F with an entry at slot s -/
def putF (F : Int → Option EnR) (s : Int) (r : Option EnR) (t : Int) : Option EnR := if t = s then r else F t
/-- what m[s] holds -/
def atV (F : Int → Option EnR) (s : Int) : Value := match F s with | some r => rV r | none => .agg #[.int .i64 0, .int .i64 0, .int .i64 0, .string ⟨#[]⟩, .bool false, .slice none 0 0, .int .i64 0]
/-- the map and its rows, all of the call's own -/
structure Mo (base : Nat) (w : World) (b n : Nat) (F : Int → Option EnR) (B : Int → Nat) : Prop where
  ge : base ≤ b
  mp : Mg w b n F
  ro : ∀ s r, F s = some r → r.D.S.length ≤ r.cap ∧ (r.D.S = [] ∨ r.ra = some ⟨B s, 0, none⟩ ∧ Ao base w (B s) r.D.S)
  ne : ∀ s t r q, s ≠ t → F s = some r → F t = some q → r.D.S ≠ [] → q.D.S ≠ [] → B s ≠ B t
theorem Ao.cells {base : Nat} {w : World} {g : Nat} {L : List AlD} (h : Ao base w g L) (hL : L ≠ []) : ∃ cs T fz, w.heap[g]? = some (.cells cs T fz) := by
  have h0 := h.al.ci 0 (List.length_pos_iff.2 hL)
  unfold World.cell? at h0
  revert h0
  cases e : w.heap[g]? with
  | none => simp
  | some o => cases o <;> simp
theorem Ao.kept {base : Nat} {w w' : World} {g : Nat} {L : List AlD} (h : Ao base w g L) (hs : w.heap.size ≤ w'.heap.size) (e : w'.heap[g]? = w.heap[g]?) : Ao base w' g L :=
  ⟨h.ge, h.al.move hs (fun j => World.cell?_of_block (a := ⟨g, j, none⟩) e), fun o => (World.frozen?_of_block (a := ⟨g, o, none⟩) e).trans (h.fz o)⟩
theorem Mg.isMap {w : World} {b n : Nat} {F : Int → Option EnR} (h : Mg w b n F) : ∃ es c, w.heap[b]? = some (.map es c) := by
  obtain ⟨_, ⟨es, c, h, _⟩, _⟩ := h; exact ⟨es, c, h⟩
theorem Mo.below {base : Nat} {w w' : World} {b n : Nat} {F : Int → Option EnR} {B : Int → Nat} (h : Mo base w b n F B) (hb : Below w.heap.size w w') : Mo base w' b n F B :=
  ⟨h.ge, h.mp.below hb, fun s r e => ⟨(h.ro s r e).1, (h.ro s r e).2.imp id fun ⟨x, y⟩ => ⟨x, y.below hb⟩⟩, h.ne⟩
/-- only the map itself has turned -/
theorem Mo.turn {base : Nat} {w w' : World} {b n n' : Nat} {F F' : Int → Option EnR} {B : Int → Nat} (h : Mo base w b n F B) (hg : w.grownBy w' (some b)) (hm : Mg w' b n' F')
    (hr : ∀ s r, F' s = some r → F s = some r ∨ (r.D.S.length ≤ r.cap ∧ r.D.S = [])) : Mo base w' b n' F' B := by
  refine ⟨h.ge, hm, fun s r e => ?_, fun s t r q hne hs ht h1 h2 => ?_⟩
  · rcases hr s r e with e | ⟨e1, e2⟩
    · refine ⟨(h.ro s r e).1, ?_⟩
      by_cases hL : r.D.S = []
      · exact Or.inl hL
      · rcases (h.ro s r e).2 with x | ⟨x, y⟩
        · exact Or.inl x
        · refine Or.inr ⟨x, y.kept hg.size (hg.block _ y.al.lt ?_)⟩
          intro e9
          injection e9 with e9
          obtain ⟨cs, T, fz, hc⟩ := y.cells hL
          obtain ⟨es, c, hmap⟩ := h.mp.isMap
          rw [e9, hmap] at hc
          cases hc
    · exact ⟨e1, Or.inl e2⟩
  · rcases hr s r hs with e | ⟨_, e⟩
    · rcases hr t q ht with e' | ⟨_, e'⟩
      · exact h.ne s t r q hne e e' h1 h2
      · exact absurd e' h2
    · exact absurd e h1
theorem Mo.keepAo {base : Nat} {w w' : World} {b n : Nat} {F : Int → Option EnR} {B : Int → Nat} (h : Mo base w b n F B) (hg : w.grownBy w' (some b)) {g : Nat} {L : List AlD} (y : Ao base w g L) (hL : L ≠ []) : Ao base w' g L := by
  refine y.kept hg.size (hg.block _ y.al.lt ?_)
  intro e9
  injection e9 with e9
  obtain ⟨cs, T, fz, hc⟩ := y.cells hL
  obtain ⟨es, c, hmap⟩ := h.mp.isMap
  rw [e9, hmap] at hc
  cases hc
/-- an entry is put at a slot -/
theorem Mo.put {base : Nat} {w w' : World} {b n n' : Nat} {F : Int → Option EnR} {B : Int → Nat} (h : Mo base w b n F B) (hg : w.grownBy w' (some b)) (s : Int) (r : EnR) (g : Nat) (hm : Mg w' b n' (putF F s (some r)))
    (hr : r.D.S.length ≤ r.cap ∧ (r.D.S = [] ∨ r.ra = some ⟨g, 0, none⟩ ∧ Ao base w g r.D.S)) (hne : ∀ t q, t ≠ s → F t = some q → r.D.S ≠ [] → q.D.S ≠ [] → B t ≠ g) : Mo base w' b n' (putF F s (some r)) (fun t => if t = s then g else B t) := by
  refine ⟨h.ge, hm, fun t q e => ?_, fun t u q p htu ht hu h1 h2 => ?_⟩
  · unfold putF at e
    by_cases e1 : t = s
    · rw [if_pos e1] at e
      injection e with e
      subst e
      refine ⟨hr.1, ?_⟩
      by_cases hL : r.D.S = []
      · exact Or.inl hL
      · rcases hr.2 with x | ⟨x, y⟩
        · exact Or.inl x
        · exact Or.inr ⟨by simp only [if_pos e1]; exact x, by simp only [if_pos e1]; exact h.keepAo hg y hL⟩
    · rw [if_neg e1] at e
      refine ⟨(h.ro t q e).1, ?_⟩
      by_cases hL : q.D.S = []
      · exact Or.inl hL
      · rcases (h.ro t q e).2 with x | ⟨x, y⟩
        · exact Or.inl x
        · exact Or.inr ⟨by simp only [if_neg e1]; exact x, by simp only [if_neg e1]; exact h.keepAo hg y hL⟩
  · unfold putF at ht hu
    by_cases e1 : t = s
    · have e2 : ¬ u = s := fun e => htu (by rw [e1, e])
      rw [if_pos e1] at ht
      rw [if_neg e2] at hu
      injection ht with ht
      subst ht
      simp only [if_pos e1, if_neg e2]
      exact fun e => hne u p e2 hu h1 h2 e.symm
    · rw [if_neg e1] at ht
      by_cases e2 : u = s
      · rw [if_pos e2] at hu
        injection hu with hu
        subst hu
        simp only [if_neg e1, if_pos e2]
        exact hne t q e1 ht h2 h1
      · rw [if_neg e2] at hu
        simp only [if_neg e1, if_neg e2]
        exact h.ne t u q p htu ht hu h1 h2
/-- an operation of the map in a drawn region, by its run -/
theorem stp_map {P : Program} {ops : Array Oper} {o : Oper} {a : Act} {w : World} {K : Act → World → Prop} {Q : Exit → Act → World → Prop} {E : Prop}
    (hg : o.guard = none) (m k x : Operand) (t : TypeId) (hop : o.op = Op.mapUpdate t m k x)
    (v1 v2 v3 : Value) (w' : World) (h1 : a.eval m = v1) (h2 : a.eval k = v2) (h3 : a.eval x = v3) (hrun : (Instr.mapUpdate t v1 v2 v3).run P w = .ok () w') (hK : K (a.put o.dst undef) w') :
    if Region.wanted o (yielded ops a.tmps) = true then Oper.wp P o a w K Q else E := by
  have hw : Region.wanted o (yielded ops a.tmps) = true := by simp [Region.wanted, hg]
  rw [if_pos hw]
  unfold Oper.wp
  simp [execOp, hop, h1, h2, h3, hrun, Result.andThen]
  exact hK
/-- delete at the list of a plain region's operations, by its run -/
theorem wpl_del {P : Program} {ops : Array Oper} {rest : List Oper} {o : Oper} {a : Act} {w : World} {Q : Exit → Act → World → Prop} (hg : o.guard = none) (d x : Operand) (t k : TypeId)
    (hop : o.op = Op.call { callee := Callee.builtin Builtin.delete, args := #[d, x], argTypes := #[t, k] }) (v1 v2 v' : Value) (w' : World) (hd : a.eval d = v1) (hx : a.eval x = v2)
    (hrun : (Builtin.delete_ #[t, k] o.type #[v1, v2]).run P w = .ok v' w') (h : wpList P ops Q rest (a.put o.dst v') w') : wpList P ops Q (o :: rest) a w :=
  wpList_plain hg fun K hK => by
    unfold Oper.wp
    simp [execOp, hop, resolve, invoke, builtin, hd, hx, hrun, Result.andThen]
    exact hK _ _ h
end Go.Proofs.Ytbabipaipbjlbaa
