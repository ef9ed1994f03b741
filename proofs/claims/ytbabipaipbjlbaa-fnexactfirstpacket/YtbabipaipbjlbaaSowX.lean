/-
  Contracts: the model's own copy of a table, and where a slot's entry stands. Contracts: the model's RemoveConfig. What the laws on tables share: boxes carried from call to call, tables of a call's own, their marks.
-/
import Derived.Test.YtbabipaipbjlbaaRmc
import Derived.Test.YtbabipaipbjlbaaTgs
import Derived.Test.YtbabipaipbjlbaaTmmX
namespace Go.Proofs.Ytbabipaipbjlbaa
open Go.ChangeShapes Go.WideShapes Go.ChangeAt Go.RowKit Go.Deep
set_option linter.unusedVariables false
set_option maxRecDepth 100000

/-- an entry's servers lie in a row, beside the row of v -/
def Pr (w : World) (v : Value) (r : EnR) : Prop := r.D.S.length ≤ r.cap ∧ (r.D.S = [] ∨ ∃ g, r.ra = some ⟨g, 0, none⟩ ∧ Al w g 0 r.D.S ∧ some g ≠ v.ownBlock)
theorem Pr.aa {w : World} {v : Value} {r : EnR} (h : Pr w v r) : r.D.S.length ≤ r.cap ∧ Aa w r.ra r.D.S :=
  ⟨h.1, h.2.imp id fun ⟨g, e, a, _⟩ => ⟨g, 0, e, a⟩⟩
theorem Pr.below {w w' : World} {v : Value} {r : EnR} (h : Pr w v r) (hb : Below w.heap.size w w') : Pr w' v r :=
  ⟨h.1, h.2.imp id fun ⟨g, e, a, n⟩ => ⟨g, e, a.below hb, n⟩⟩
theorem Pr.grown {w w' : World} {v v' : Value} {r : EnR} (h : Pr w v r) (hg : w.grownBy w' v.ownBlock) (hv : v'.ownBlock = v.ownBlock ∨ v'.ownBlock = some w.heap.size) : Pr w' v' r := by
  refine ⟨h.1, h.2.imp id fun ⟨g, e, a, n⟩ => ⟨g, e, a.move hg.size (fun j => World.cell?_of_block (a := ⟨g, j, none⟩) (hg.block g a.lt n)), ?_⟩⟩
  rcases hv with q | q
  · rw [q]; exact n
  · rw [q]; intro c; injection c with c; have := a.lt; omega
theorem oa_lit0 (w : World) (base : Nat) (hb : base ≤ w.heap.size) : Oa base (w.alloc (.cells #[] 129)) (.slice (some ⟨w.heap.size, 0, none⟩) 0 0) [] :=
  World.ownsRow_lit (base := base) (e := 129) (size := 2) w #[] 0 hb (by unfold maxLen; omega) rfl
theorem oe_lit0 (w : World) (base : Nat) (hb : base ≤ w.heap.size) : Oe base (w.alloc (.cells #[] 126)) (.slice (some ⟨w.heap.size, 0, none⟩) 0 0) [] :=
  World.ownsRow_lit (base := base) (e := 126) (size := 7) w #[] 0 hb (by unfold maxLen; omega) rfl
/-- where a slot's entry stands -/
def atP (L : List EnD) (s : Int) (j : Int) : Prop := (j = -1 ∧ ∀ i, i < L.length → (eA L i).sl ≠ s) ∨ ∃ i : Nat, i < L.length ∧ (eA L i).sl = s ∧ j = i
end Go.Proofs.Ytbabipaipbjlbaa
namespace Go.Proofs.Ytbabipaipbjlbaa
open Go.ChangeShapes Go.WideShapes Go.ChangeAt Go.RowKit Go.Deep
set_option linter.unusedVariables false
set_option maxRecDepth 100000

/-- a piece of a row of entries as a source -/
theorem er_piece {w : World} {g : Nat} {R : List EnR} (h : ∀ i, i < R.length → Ce w g (i * 7) (rA R i).D (.slice (rA R i).ra (rA R i).D.S.length (rA R i).cap)) (lo n : Nat) (hn : lo + n ≤ R.length) :
    Er w (some ⟨g, lo * 7, none⟩) ((R.drop lo).take n) := by
  by_cases h0 : n = 0
  · subst h0; exact Or.inl (by simp)
  refine Or.inr ⟨g, lo * 7, rfl, fun i hi => ?_⟩
  have hi' : i < n := by simp at hi; omega
  have e : rA ((R.drop lo).take n) i = rA R (lo + i) := by
    have h1 : lo + i < R.length := by omega
    simp [rA, List.getD, List.getElem?_drop, hi']
  rw [e, ← Nat.add_mul]
  exact h (lo + i) (by omega)
theorem rD_map (R : List EnR) (L : List EnD) (h : R.map (·.D) = L) (i : Nat) : (R.take i ++ R.drop (i + 1)).map (·.D) = erE L i := by
  unfold erE; rw [← h, List.map_append, List.map_take, List.map_drop]
theorem er_of {w : World} {a : Option Addr} {n cap : Nat} {base : Nat} {R : List EnR} {v : Value} (hv : v = .slice a n cap) (h : Oe base w v R) (hp : ∀ r ∈ R, Pr w v r) : n = R.length ∧ Ea w a (R.map (·.D)) := by
  subst hv
  exact ⟨h.er.1, h.er.2.2.ea (fun r hr => (hp r hr).aa)⟩
/-- entries are as they were where a box beside them is written -/
theorem ea_box {w : World} {c base : Nat} {a : Option Addr} {n cap : Nat} {R : List EnR} (hB : Bx w c [.slice none 0 0]) (hO : Oe base w (.slice a n cap) R) (hc : c < base) (hP : ∀ r ∈ R, Pr w (.slice a n cap) r) (u : Value) : Ea (w.setCell ⟨c, 0, none⟩ u) a (R.map (·.D)) := by
  have O9 : Oe base (w.setCell ⟨c, 0, none⟩ u) (.slice a n cap) R := by
    refine ⟨hO.1, ?_⟩
    rcases hO.2 with q | ⟨g9, cap9, cur9, q1, q2, q3, q4⟩
    · exact Or.inl q
    · exact Or.inr ⟨g9, cap9, cur9, q1, q2, (Below.heap_setCell w ⟨c, 0, none⟩ u g9 (by show g9 ≠ c; omega)).trans q3, q4⟩
  refine (er_of rfl O9 (fun r hr => ?_)).2
  refine ⟨(hP r hr).1, ?_⟩
  rcases (hP r hr).2 with q | ⟨g, q1, q2, q3⟩
  · exact Or.inl q
  · by_cases hS9 : r.D.S = []
    · exact Or.inl hS9
    refine Or.inr ⟨g, q1, q2.move (by simp) (fun j => set_blk (fun e9 => ?_)), q3⟩
    have h1 := q2.ci 0 (List.length_pos_iff.2 hS9)
    rw [← e9, hB.cv] at h1
    simp at h1
end Go.Proofs.Ytbabipaipbjlbaa
namespace Go.Proofs.Ytbabipaipbjlbaa
open Go.ChangeShapes Go.WideShapes Go.ChangeAt Go.RowKit Go.Deep
set_option linter.unusedVariables false
set_option maxRecDepth 100000

/-- what stands while a law is walked -/
structure Iv (w w3 V : World) (xs : List (Nat × List Value)) : Prop where
  b0 : Below w.heap.size w V
  b3 : Below w3.heap.size w3 V
  bx : ∀ p ∈ xs, Bx V p.1 p.2
theorem Iv.below {w w3 V V' : World} {xs : List (Nat × List Value)} (h : Iv w w3 V xs) (hb : Below V.heap.size V V') : Iv w w3 V' xs :=
  ⟨h.b0.trans (hb.mono h.b0.size), h.b3.trans (hb.mono h.b3.size), fun p hp => (h.bx p hp).below hb⟩
theorem Iv.push {w w3 V : World} {xs : List (Nat × List Value)} (h : Iv w w3 V xs) (cs : List Value) (T : TypeId) : Iv w w3 (V.alloc (.cells cs.toArray T)) ((V.heap.size, cs) :: xs) := by
  have h' := h.below ((Below.refl V.heap.size V).alloc (Nat.le_refl _) (.cells cs.toArray T))
  refine ⟨h'.b0, h'.b3, fun p hp => ?_⟩
  rcases List.mem_cons.1 hp with rfl | hp
  · exact Bx.new V cs T
  · exact h'.bx p hp
theorem Iv.mark {w w3 V V' : World} {xs : List (Nat × List Value)} {P : Nat → Prop} (h : Iv w w3 V xs) (k : Kq P V V') (h0 : ∀ q, P q → w.heap.size ≤ q ∧ w3.heap.size ≤ q) (hx : ∀ p ∈ xs, ¬ P p.1) : Iv w w3 V' xs :=
  ⟨h.b0.trans (k.below h.b0.size (fun q hq => (h0 q hq).1)), h.b3.trans (k.below h.b3.size (fun q hq => (h0 q hq).2)), fun p hp => (h.bx p hp).kept k.size (k.block _ (h.bx p hp).lt (hx p hp))⟩
/-- a table of the call's own, in blocks of base .. s - 1 -/
def Eg (base s : Nat) (w : World) (a : Option Addr) (L : List EnD) : Prop := L = [] ∨ ∃ g B, a = some ⟨g, 0, none⟩ ∧ Eo base w g B L ∧ ∀ q, Tb g B L q → base ≤ q ∧ q < s
theorem En.eg {base : Nat} {w : World} {a : Option Addr} {L : List EnD} (h : En base w a L) : Eg base w.heap.size w a L :=
  h.imp id fun ⟨g, B, e, h⟩ => ⟨g, B, e, h, h.tb⟩
theorem Eg.below {base s : Nat} {w w' : World} {a : Option Addr} {L : List EnD} (h : Eg base s w a L) (hb : Below w.heap.size w w') : Eg base s w' a L :=
  h.imp id fun ⟨g, B, e, h, t⟩ => ⟨g, B, e, h.below hb, t⟩
theorem Eg.ea {base s : Nat} {w : World} {a : Option Addr} {L : List EnD} (h : Eg base s w a L) : Ea w a L :=
  En.ea (h.imp id fun ⟨g, B, e, h, _⟩ => ⟨g, B, e, h⟩)
theorem Eg.kq {base s : Nat} {w w' : World} {a : Option Addr} {L : List EnD} {P : Nat → Prop} (h : Eg base s w a L) (k : Kq P w w') (hP : ∀ q, P q → q < base) : Eg base s w' a L :=
  h.imp id fun ⟨g, B, e, h, t⟩ => ⟨g, B, e, h.kept k.size (fun q hq hl => k.block q hl (fun p => by have := hP q p; omega)), t⟩
theorem Lm_tb (g : Nat) (B : Nat → Nat) (L : List EnD) (k0 i q : Nat) (h : Tb g B (Lm k0 L i) q) : Tb g B L q := by
  rcases h with h | ⟨j, hj, hS, e⟩
  · exact Or.inl h
  · rw [Lm_len] at hj
    exact Or.inr ⟨j, hj, fun q' => hS (by rw [← List.length_eq_zero_iff, Lm_S k0 L i j hj, q']; rfl), e⟩
/-- what the marks of a table need -/
def smK (L : List EnD) : Prop := L.length ≤ 1048576 ∧ (∀ i, i < L.length → (eA L i).S.length ≤ 1048576) ∧ ∀ i, i ≤ L.length → kA 1 L i ≤ 90000000
theorem kA_sum (L : List EnD) : ∀ i, kA 1 L i ≤ 1 + 6 * i + 2 * sumE L i
  | 0 => by simp [kA, sumE]
  | i + 1 => by
    have h := kA_sum L i
    have h1 : kA 1 L (i + 1) = kA 1 L i + 6 + 2 * (eA L i).S.length := rfl
    have h2 : sumE L (i + 1) = sumE L i + ((eA L i).k.size + wtA (eA L i).S) := rfl
    have h3 : wtA (eA L i).S = (eA L i).S.length + sumA (eA L i).S (eA L i).S.length := rfl
    omega
/-- what weighs no more than 1048576 -/
theorem wt_small (L : List EnD) (h : ¬ 1048576 < wtE L) : smK L ∧ ∀ i, i < L.length → (eA L i).k.size ≤ 1048576 ∧ (eA L i).S.length ≤ 1048576 ∧ ∀ j, j < (eA L i).S.length → (aA (eA L i).S j).i.size ≤ 1048576 ∧ (aA (eA L i).S j).b.size ≤ 1048576 := by
  unfold wtE at h
  have each : ∀ i, i < L.length → (eA L i).k.size ≤ 1048576 ∧ (eA L i).S.length ≤ 1048576 ∧ ∀ j, j < (eA L i).S.length → (aA (eA L i).S j).i.size ≤ 1048576 ∧ (aA (eA L i).S j).b.size ≤ 1048576 := fun i hi => by
    have h1 := sumE_mono L (show i + 1 ≤ L.length from hi)
    have h2 : sumE L (i + 1) = sumE L i + ((eA L i).k.size + wtA (eA L i).S) := rfl
    have h3 : wtA (eA L i).S = (eA L i).S.length + sumA (eA L i).S (eA L i).S.length := rfl
    refine ⟨by omega, by omega, fun j hj => ?_⟩
    have h4 := sumA_mono (eA L i).S (show j + 1 ≤ (eA L i).S.length from hj)
    have h5 : sumA (eA L i).S (j + 1) = sumA (eA L i).S j + ((aA (eA L i).S j).i.size + (aA (eA L i).S j).b.size) := rfl
    omega
  refine ⟨⟨by omega, fun i hi => (each i hi).2.1, fun i hi => ?_⟩, each⟩
  have h1 := kA_sum L i
  have h2 := sumE_mono L hi
  omega
end Go.Proofs.Ytbabipaipbjlbaa
