/-
  Pure: two pieces as one, told by their bytes; a piece put between others, step by step.
-/
import Derived.Test.YtmicpknilhiliaaTgf4
namespace Go.Proofs.Ytmicpknilhiliaa.Rc
open Go.ChangeShapes Go.WideShapes Go.ChangeAt Go.RowKit Go.Deep
set_option linter.unusedVariables false

theorem join_in (u v : PieceD) (h : u.f0 ≤ v.f0) (h' : v.f0 ≤ pE u) : pE ⟨u.f0, u.f1 ++ (prF v (pE u)).f1⟩ = max (pE u) (pE v) ∧ ∀ i, by1 ⟨u.f0, u.f1 ++ (prF v (pE u)).f1⟩ i = (by1 u i).or (by1 v i) := by
  have eu : pE u = u.f0 + u.f1.size := rfl
  have ev : pE v = v.f0 + v.f1.size := rfl
  have sz : (prF v (pE u)).f1.size = v.f1.size - prC v (pE u) := by unfold prF; dsimp only; rw [ByteArray.size_extract]; omega
  have hc : prC v (pE u) = min (pE u - v.f0).toNat v.f1.size := rfl
  have su : u.f1.data.size = u.f1.size := rfl
  have sv : v.f1.data.size = v.f1.size := rfl
  constructor
  · unfold pE
    dsimp only
    rw [ByteArray.size_append]
    change u.f0 + ((u.f1.size + (prF v (pE u)).f1.size : Nat) : Int) = _
    rw [sz]
    omega
  · intro i
    by_cases h0 : u.f0 ≤ i
    · by_cases h1 : i < pE u
      · obtain ⟨b, hb⟩ := by1_in h0 h1
        rw [hb]
        unfold by1 at hb ⊢
        dsimp only
        rw [if_pos h0] at hb ⊢
        rw [ByteArray.data_append, Array.getElem?_append_left (by rw [su]; omega), hb]
        rfl
      · rw [by1_hi (p := u) (by omega), Option.none_or]
        unfold by1
        dsimp only
        rw [if_pos h0, if_pos (by omega), ByteArray.data_append, Array.getElem?_append_right (by rw [su]; omega)]
        unfold prF
        dsimp only
        rw [ByteArray.data_extract, Array.getElem?_extract]
        by_cases h2 : i < pE v
        · rw [if_pos (by rw [su, sv]; omega)]
          congr 1
          rw [su]
          omega
        · rw [if_neg (by rw [su, sv]; omega), Array.getElem?_eq_none (by rw [sv]; omega)]
    · rw [by1_lo (p := u) (by omega), by1_lo (p := v) (by omega), by1_lo (by dsimp only; omega)]
      rfl
/-- two that touch and do not clash, as one: as the model has it -/
theorem un_mg {p q : PieceD} (h : p.f0 ≤ pE q) (h' : q.f0 ≤ pE p) (ag : ∀ i b c, by1 p i = some b → by1 q i = some c → b = c) : unP p q = mgS q p := by
  obtain ⟨m0, m1, m2⟩ := mgS_in (p := q) (x := p) h h'
  have sw : ∀ i, (by1 q i).or (by1 p i) = (by1 p i).or (by1 q i) := fun i => by
    cases hp : by1 p i with
    | none => cases by1 q i <;> rfl
    | some b =>
      cases hq : by1 q i with
      | none => rfl
      | some c => rw [ag i b c hp hq]
  have e : (unP p q).f0 = min p.f0 q.f0 ∧ pE (unP p q) = max (pE p) (pE q) ∧ ∀ i, by1 (unP p q) i = (by1 p i).or (by1 q i) := by
    unfold unP un1 un2
    by_cases hl : q.f0 < p.f0
    · rw [if_pos hl, if_pos hl]
      obtain ⟨j1, j2⟩ := join_in q p (by omega) h
      refine ⟨by dsimp only; omega, by rw [j1]; omega, fun i => by rw [j2, sw]⟩
    · rw [if_neg hl, if_neg hl]
      obtain ⟨j1, j2⟩ := join_in p q (by omega) h'
      exact ⟨by dsimp only; omega, j1, j2⟩
  refine piece_ext (by rw [e.1, m0]; omega) ?_ (fun i => by rw [e.2.2, m2])
  have h1 : pE (unP p q) = pE (mgS q p) := by rw [e.2.1, m1]; omega
  have h2 : (unP p q).f0 = (mgS q p).f0 := by rw [e.1, m0]; omega
  unfold pE at h1
  omega
/-- no byte of a piece is another one than what lies there -/
def Agr4 (P : List PieceD) (x : PieceD) : Prop := ∀ i b c, byt P i = some b → by1 x i = some c → b = c
theorem agr_no {P : List PieceD} {x : PieceD} (h : clB P x.f0 x.f1 = false) : Agr4 P x := fun i b c hb hc => clB_no h hb hc
theorem agr_part {P : List PieceD} {x : PieceD} {re : Int} (h : Agr4 P x) : Agr4 P (prF x re) := by
  intro i b c hb hc
  refine h i b c hb ?_
  have h1 := by1_some hc
  have hf : (prF x re).f0 = x.f0 + (prC x re : Nat) := rfl
  have hcc : prC x re = min (re - x.f0).toNat x.f1.size := rfl
  rw [← hc]
  unfold by1
  rw [if_pos (by omega), if_pos h1.1]
  unfold prF
  dsimp only
  rw [ByteArray.data_extract, Array.getElem?_extract]
  have sx : x.f1.data.size = x.f1.size := rfl
  have h2 := h1.2
  unfold pE prF at h2
  dsimp only at h2
  rw [ByteArray.size_extract] at h2
  rw [if_pos (by rw [sx]; omega)]
  congr 1
  omega
theorem agr_tail {p : PieceD} {P : List PieceD} {x : PieceD} {lo : Int} (hc : Can lo (p :: P)) (h : Agr4 (p :: P) x) : Agr4 P x := by
  intro i b c hb hx
  refine h i b c ?_ hx
  show (by1 p i).or (byt P i) = some b
  have : pE p < i + 1 := by
    apply Int.not_le.1
    intro h1
    rw [byt_lo hc.2.2 (by omega)] at hb
    cases hb
  rw [by1_hi (by omega), hb]
  rfl
theorem agr_head {p : PieceD} {P : List PieceD} {x : PieceD} (h : Agr4 (p :: P) x) : ∀ i b c, by1 x i = some b → by1 p i = some c → b = c := fun i b c hx hp => by
  have : byt (p :: P) i = some c := by show (by1 p i).or (byt P i) = some c; rw [hp]; rfl
  exact (h i c b this hx).symm
theorem agr_mg {p : PieceD} {P : List PieceD} {x : PieceD} {lo : Int} (hc : Can lo (p :: P)) (h : Agr4 (p :: P) x) (t : x.f0 ≤ pE p) (t' : p.f0 ≤ pE x) : Agr4 P (mgS p x) := by
  intro i b c hb hm
  rw [(mgS_in t t').2.2 i] at hm
  have hn : by1 p i = none := by
    refine by1_hi ?_
    apply Int.not_lt.1
    intro h1
    rw [byt_lo hc.2.2 (by omega)] at hb
    cases hb
  rw [hn, Option.or_none] at hm
  exact agr_tail hc h i b c hb hm
theorem low_un {p q : PieceD} (h : p.f0 ≤ pE q) (h' : q.f0 ≤ pE p) (ag : ∀ i b c, by1 p i = some b → by1 q i = some c → b = c) (lp : lowP p) (lq : lowP q) : lowP (unP p q) := by
  rw [un_mg h h' ag]
  exact low_mg lq lp h h'
theorem Rd.takeL {α : Type} {K : Kd α} {w : World} {a : Option Addr} {L : List α} (h : Rd K w a L) (n : Nat) : Rd K w a (L.take n) := by
  rcases h with rfl | ⟨b, o, e, l, h⟩
  · exact Or.inl (by simp)
  · refine Or.inr ⟨b, o, e, l, fun q hq => ?_⟩
    rw [List.length_take] at hq
    have h1 : q < n * K.m := Nat.lt_of_lt_of_le hq (Nat.mul_le_mul_right _ (Nat.min_le_left _ _))
    have h2 : q < L.length * K.m := Nat.lt_of_lt_of_le hq (Nat.mul_le_mul_right _ (Nat.min_le_right _ _))
    rw [cl_take K L n q h1]
    exact h q h2
theorem gt_drop {α : Type} (K : Kd α) (L : List α) (n k : Nat) : gt K (L.drop n) k = gt K L (n + k) := by simp [gt, List.getD]
theorem Rd.dropL {w : World} {b o : Nat} {L : List PieceD} (h : Rd pieceK w (some ⟨b, o, none⟩) L) (n : Nat) (hn : n ≤ L.length) : Rd pieceK w (some ⟨b, o + n * 2, none⟩) (L.drop n) := by
  rcases h with rfl | ⟨b', o', e, l, h⟩
  · exact Or.inl (by simp)
  · injection e with e
    injection e with e1 e2
    subst e1 e2
    refine Or.inr ⟨b, o + n * 2, rfl, l, fun q hq => ?_⟩
    rw [List.length_drop] at hq
    have hm : pieceK.m = 2 := rfl
    rw [hm] at hq
    have h1 := h (n * 2 + q) (by rw [hm]; omega)
    rw [show o + (n * 2 + q) = o + n * 2 + q by omega] at h1
    rw [h1]
    unfold cl
    rw [gt_drop, hm, show (n * 2 + q) / 2 = n + q / 2 by omega, show (n * 2 + q) % 2 = q % 2 by omega]
end Go.Proofs.Ytmicpknilhiliaa.Rc
