/-
  What the laws on tables share: boxes carried from call to call, tables of a call's own, their marks.
-/
import Derived.Test.YtldjenhknejpnaaThd
import Derived.Test.YtldjenhknejpnaaSrm
namespace Go.Proofs.Ytldjenhknejpnaa
open Go.ChangeShapes Go.WideShapes Go.ChangeAt Go.RowKit Go.Deep
set_option linter.unusedVariables false
set_option maxRecDepth 100000

/-- what stands while a law is walked -/
structure Iv (w w3 V : World) (xs : List (Nat × List Value)) : Prop where
  b0 : Below w.heap.size w V
  b3 : Below w3.heap.size w3 V
  bx : ∀ p ∈ xs, Bx V p.1 p.2
theorem Iv.below {w w3 V V' : World} {xs : List (Nat × List Value)} (h : Iv w w3 V xs) (hb : Below V.heap.size V V') : Iv w w3 V' xs :=
  ⟨h.b0.trans (hb.mono h.b0.size), h.b3.trans (hb.mono h.b3.size), fun p hp => (h.bx p hp).below hb⟩
theorem Iv.push {w w3 V : World} {xs : List (Nat × List Value)} (h : Iv w w3 V xs) (cs : List Value) (T : TypeId) : Iv w w3 (V.alloc (.cells cs.toArray T)) ((V.heap.size, cs) :: xs) := by
  have h' := h.below ((Below.refl V.heap.size V).alloc (Nat.le_refl _) (.cells cs.toArray T))
  refine ⟨h'.b0, h'.b3, fun p hp => ?_⟩
  rcases List.mem_cons.1 hp with rfl | hp
  · exact Bx.new V cs T
  · exact h'.bx p hp
theorem Iv.mark {w w3 V V' : World} {xs : List (Nat × List Value)} {P : Nat → Prop} (h : Iv w w3 V xs) (k : Kq P V V') (h0 : ∀ q, P q → w.heap.size ≤ q ∧ w3.heap.size ≤ q) (hx : ∀ p ∈ xs, ¬ P p.1) : Iv w w3 V' xs :=
  ⟨h.b0.trans (k.below h.b0.size (fun q hq => (h0 q hq).1)), h.b3.trans (k.below h.b3.size (fun q hq => (h0 q hq).2)), fun p hp => (h.bx p hp).kept k.size (k.block _ (h.bx p hp).lt (hx p hp))⟩
/-- a table of the call's own, in blocks of base .. s - 1 -/
def Eg (base s : Nat) (w : World) (a : Option Addr) (L : List EnD) : Prop := L = [] ∨ ∃ g B, a = some ⟨g, 0, none⟩ ∧ Eo base w g B L ∧ ∀ q, Tb g B L q → base ≤ q ∧ q < s
theorem En.eg {base : Nat} {w : World} {a : Option Addr} {L : List EnD} (h : En base w a L) : Eg base w.heap.size w a L :=
  h.imp id fun ⟨g, B, e, h⟩ => ⟨g, B, e, h, h.tb⟩
theorem Eg.below {base s : Nat} {w w' : World} {a : Option Addr} {L : List EnD} (h : Eg base s w a L) (hb : Below w.heap.size w w') : Eg base s w' a L :=
  h.imp id fun ⟨g, B, e, h, t⟩ => ⟨g, B, e, h.below hb, t⟩
theorem Eg.ea {base s : Nat} {w : World} {a : Option Addr} {L : List EnD} (h : Eg base s w a L) : Ea w a L :=
  En.ea (h.imp id fun ⟨g, B, e, h, _⟩ => ⟨g, B, e, h⟩)
theorem Eg.kq {base s : Nat} {w w' : World} {a : Option Addr} {L : List EnD} {P : Nat → Prop} (h : Eg base s w a L) (k : Kq P w w') (hP : ∀ q, P q → q < base) : Eg base s w' a L :=
  h.imp id fun ⟨g, B, e, h, t⟩ => ⟨g, B, e, h.kept k.size (fun q hq hl => k.block q hl (fun p => by have := hP q p; omega)), t⟩
theorem Lm_tb (g : Nat) (B : Nat → Nat) (L : List EnD) (k0 i q : Nat) (h : Tb g B (Lm k0 L i) q) : Tb g B L q := by
  rcases h with h | ⟨j, hj, hS, e⟩
  · exact Or.inl h
  · rw [Lm_len] at hj
    exact Or.inr ⟨j, hj, fun q' => hS (by rw [← List.length_eq_zero_iff, Lm_S k0 L i j hj, q']; rfl), e⟩
/-- what the marks of a table need -/
def smK (L : List EnD) : Prop := L.length ≤ 1048576 ∧ (∀ i, i < L.length → (eA L i).S.length ≤ 1048576) ∧ ∀ i, i ≤ L.length → kA 1 L i ≤ 90000000
theorem markEg (base s cap : Nat) (a : Option Addr) (L : List EnD) (w : World) (hk : smK L) (hbs : base ≤ w.heap.size) (h : Eg base s w a L) :
    Calls Try.prog 38 #[.agg #[.slice a L.length cap], .int .i64 1] w fun e w' => e = .returned (.int .i64 (kA 1 L L.length : Int)) ∧ Eg base s w' a (Lm 1 L L.length) ∧ Kq (fun q => base ≤ q ∧ q < s) w w' := by
  rcases h with rfl | ⟨g, B, rfl, h, t⟩
  · refine (markTb0 a cap w).mono ?_
    rintro e w' ⟨rfl, b⟩
    exact ⟨rfl, Or.inl rfl, Kq.of b⟩
  · refine (markTb base g cap B L w hk.1 hk.2.1 hk.2.2 hbs h).mono ?_
    rintro e w' ⟨rfl, h1, h2⟩
    exact ⟨rfl, Or.inr ⟨g, B, rfl, h1, fun q hq => t q (Lm_tb g B L 1 _ q hq)⟩, h2.imp t⟩
theorem heldEg (base s cap : Nat) (a : Option Addr) (L : List EnD) (w : World) (hk : smK L) (h : Eg base s w a (Lm 1 L L.length)) :
    Calls Try.prog 40 #[.agg #[.slice a L.length cap], .int .i64 1] w fun e w' => e = .returned (.int .i64 (kA 1 L L.length : Int)) ∧ Below w.heap.size w w' :=
  heldTb a cap L (Lm 1 L L.length) w (Lm_len 1 L _) (fun i hi => by rw [Lm_at 1 L _ i hi, if_pos hi]) hk.1 hk.2.1 hk.2.2 h.ea
theorem kA_sum (L : List EnD) : ∀ i, kA 1 L i ≤ 1 + 6 * i + 2 * sumE L i
  | 0 => by simp [kA, sumE]
  | i + 1 => by
    have h := kA_sum L i
    have h1 : kA 1 L (i + 1) = kA 1 L i + 6 + 2 * (eA L i).S.length := rfl
    have h2 : sumE L (i + 1) = sumE L i + ((eA L i).k.size + wtA (eA L i).S) := rfl
    have h3 : wtA (eA L i).S = (eA L i).S.length + sumA (eA L i).S (eA L i).S.length := rfl
    omega
/-- what weighs no more than 1048576 -/
theorem wt_small (L : List EnD) (h : ¬ 1048576 < wtE L) : smK L ∧ ∀ i, i < L.length → (eA L i).k.size ≤ 1048576 ∧ (eA L i).S.length ≤ 1048576 ∧ ∀ j, j < (eA L i).S.length → (aA (eA L i).S j).i.size ≤ 1048576 ∧ (aA (eA L i).S j).b.size ≤ 1048576 := by
  unfold wtE at h
  have each : ∀ i, i < L.length → (eA L i).k.size ≤ 1048576 ∧ (eA L i).S.length ≤ 1048576 ∧ ∀ j, j < (eA L i).S.length → (aA (eA L i).S j).i.size ≤ 1048576 ∧ (aA (eA L i).S j).b.size ≤ 1048576 := fun i hi => by
    have h1 := sumE_mono L (show i + 1 ≤ L.length from hi)
    have h2 : sumE L (i + 1) = sumE L i + ((eA L i).k.size + wtA (eA L i).S) := rfl
    have h3 : wtA (eA L i).S = (eA L i).S.length + sumA (eA L i).S (eA L i).S.length := rfl
    refine ⟨by omega, by omega, fun j hj => ?_⟩
    have h4 := sumA_mono (eA L i).S (show j + 1 ≤ (eA L i).S.length from hj)
    have h5 : sumA (eA L i).S (j + 1) = sumA (eA L i).S j + ((aA (eA L i).S j).i.size + (aA (eA L i).S j).b.size) := rfl
    omega
  refine ⟨⟨by omega, fun i hi => (each i hi).2.1, fun i hi => ?_⟩, each⟩
  have h1 := kA_sum L i
  have h2 := sumE_mono L hi
  omega
end Go.Proofs.Ytldjenhknejpnaa
