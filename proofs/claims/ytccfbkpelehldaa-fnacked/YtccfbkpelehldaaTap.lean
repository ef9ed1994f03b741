/-
  What an acknowledgement leaves, in plain words: who is acknowledged, who is lost, who is still on its way.
-/
import Derived.Test.YtccfbkpelehldaaSpn
import Derived.Test.YtccfbkpelehldaaRts
import Derived.Test.YtccfbkpelehldaaRci
namespace Go.Proofs.Ytccfbkpelehldaa.Rc
open Go.ChangeShapes Go.WideShapes Go.ChangeAt Go.RowKit Go.Deep
set_option linter.unusedVariables false
set_option maxRecDepth 100000

/-- those that are acknowledged, and the others -/
def akS (L : List RangeD) (S : List SentD) : List SentD := S.filter fun x => hasB L x.f0
def lfS (L : List RangeD) (S : List SentD) : List SentD := S.filter fun x => !hasB L x.f0
/-- a round trip with what one packet tells -/
def rtF (hi now de : Int) (r : RttD) (x : SentD) : RttD := if x.f0 = hi then smD r (now - x.f1) de else r
/-- how long is waited for -/
def mxI (x y : Int) : Int := if x < y then y else x
def wtI (r : RttD) : Int := mxI (mxI r.sm r.la * 9 / 8) 1
/-- whether a packet is lost -/
def loB (lg now : Int) (r : RttD) (x : SentD) : Bool := decide (x.f0 < lg) && (decide (x.f0 ≤ lg - 3) || (r.kn && decide (x.f1 ≤ now - wtI r)))
/-- whether an acknowledgement is taken -/
def taB (D : SpaceD) (L : List RangeD) (now de : Int) : Bool := gsB D && (grB L && (decide (L.length ≠ 0) && (tkB now && (decide ((laS D.S).f1 ≤ now) && tkB de))))
def taG (D : SpaceD) (L : List RangeD) : Int := mxI D.lg (fT L 0)
def taR (D : SpaceD) (L : List RangeD) (now de : Int) : RttD := (akS L D.S).foldl (rtF (fT L 0) now de) D.r
/-- what is left -/
def taD (D : SpaceD) (L : List RangeD) (now de : Int) : Bool → SpaceD
  | true => ⟨taG D L, (lfS L D.S).filter fun x => !loB (taG D L) now (taR D L now de) x, taR D L now de⟩
  | false => ⟨0, [], ⟨false, 0, 0, 0, 0⟩⟩
def taA (D : SpaceD) (L : List RangeD) : Bool → List Int
  | true => (akS L D.S).map fun x => x.f0
  | false => []
def taL (D : SpaceD) (L : List RangeD) (now de : Int) : Bool → List Int
  | true => ((lfS L D.S).filter fun x => loB (taG D L) now (taR D L now de) x).map fun x => x.f0
  | false => []
/-- what is answered -/
def TAP (D : SpaceD) (L : List RangeD) (now de : Int) (W : World) (e : Ending) (w' : World) : Prop :=
  ∃ (a0 : Option Addr) (c0 : Nat) (a1 : Option Addr) (c1 : Nat) (a2 : Option Addr) (c2 g0 g1 g2 : Nat),
    e = .returned (.tuple #[spaceV (taD D L now de (taB D L now de)) a0 c0, .slice a1 (taA D L (taB D L now de)).length c1, .slice a2 (taL D L now de (taB D L now de)).length c2, .bool (taB D L now de)]) ∧
    Rb sentK W.heap.size w' a0 (taD D L now de (taB D L now de)).S g0 ∧ Rb intK W.heap.size w' a1 (taA D L (taB D L now de)) g1 ∧ Rb intK W.heap.size w' a2 (taL D L now de (taB D L now de)) g2 ∧ g0 ≠ g1 ∧ g0 ≠ g2 ∧ g1 ≠ g2 ∧ Below W.heap.size W w'
theorem TAP.no {D : SpaceD} {L : List RangeD} {now de : Int} {W w' : World} (h : taB D L now de = false) (b : Below W.heap.size W w') : TAP D L now de W (.returned (.tuple #[.agg spaceZ.toArray, .slice none 0 0, .slice none 0 0, .bool false])) w' :=
  ⟨none, 0, none, 0, none, 0, 0, 1, 2, by rw [h]; rfl, by rw [h]; exact Or.inl rfl, by rw [h]; exact Or.inl rfl, by rw [h]; exact Or.inl rfl, by omega, by omega, by omega, b⟩
theorem TAP.yes {D : SpaceD} {L : List RangeD} {now de : Int} {W w' : World} {a0 a1 a2 : Option Addr} {c0 c1 c2 g0 g1 g2 : Nat} (h : taB D L now de = true)
    (h0 : Rb sentK W.heap.size w' a0 ((lfS L D.S).filter fun x => !loB (taG D L) now (taR D L now de) x) g0) (h1 : Rb intK W.heap.size w' a1 ((akS L D.S).map fun x => x.f0) g1) (h2 : Rb intK W.heap.size w' a2 (((lfS L D.S).filter fun x => loB (taG D L) now (taR D L now de) x).map fun x => x.f0) g2) (n01 : g0 ≠ g1) (n02 : g0 ≠ g2) (n12 : g1 ≠ g2) (b : Below W.heap.size W w') :
    TAP D L now de W (.returned (.tuple #[spaceV ⟨taG D L, (lfS L D.S).filter fun x => !loB (taG D L) now (taR D L now de) x, taR D L now de⟩ a0 c0, .slice a1 ((akS L D.S).map fun x => x.f0).length c1, .slice a2 (((lfS L D.S).filter fun x => loB (taG D L) now (taR D L now de) x).map fun x => x.f0).length c2, .bool true])) w' :=
  ⟨a0, c0, a1, c1, a2, c2, g0, g1, g2, by rw [h]; rfl, by rw [h]; exact h0, by rw [h]; exact h1, by rw [h]; exact h2, n01, n02, n12, b⟩
/-- what the model answers, the row of packets with its room -/
def TAPo (D : SpaceD) (L : List RangeD) (now de : Int) (W : World) (e : Ending) (w' : World) : Prop :=
  ∃ (a0 : Option Addr) (c0 : Nat) (a1 : Option Addr) (c1 : Nat) (a2 : Option Addr) (c2 g0 g1 g2 : Nat),
    e = .returned (.tuple #[spaceV (taD D L now de (taB D L now de)) a0 c0, .slice a1 (taA D L (taB D L now de)).length c1, .slice a2 (taL D L now de (taB D L now de)).length c2, .bool (taB D L now de)]) ∧
    (Rb sentK W.heap.size w' a0 (taD D L now de (taB D L now de)).S g0 ∧ Rb intK W.heap.size w' a1 (taA D L (taB D L now de)) g1 ∧ Rb intK W.heap.size w' a2 (taL D L now de (taB D L now de)) g2 ∧ g0 ≠ g1 ∧ g0 ≠ g2 ∧ g1 ≠ g2 ∧ Below W.heap.size W w') ∧
    Ro sentK 37 W.heap.size w' (.slice a0 (taD D L now de (taB D L now de)).S.length c0) (taD D L now de (taB D L now de)).S
theorem TAPo.no {D : SpaceD} {L : List RangeD} {now de : Int} {W w' : World} (h : taB D L now de = false) (b : Below W.heap.size W w') : TAPo D L now de W (.returned (.tuple #[.agg spaceZ.toArray, .slice none 0 0, .slice none 0 0, .bool false])) w' :=
  ⟨none, 0, none, 0, none, 0, 0, 1, 2, by rw [h]; rfl, ⟨by rw [h]; exact Or.inl rfl, by rw [h]; exact Or.inl rfl, by rw [h]; exact Or.inl rfl, by omega, by omega, by omega, b⟩, by rw [h]; exact Ro.nil sentK 37 W.heap.size w'⟩
theorem TAPo.yes {D : SpaceD} {L : List RangeD} {now de : Int} {W w' : World} {a0 a1 a2 : Option Addr} {c0 c1 c2 g0 g1 g2 : Nat} (h : taB D L now de = true)
    (h0 : Rb sentK W.heap.size w' a0 ((lfS L D.S).filter fun x => !loB (taG D L) now (taR D L now de) x) g0) (h1 : Rb intK W.heap.size w' a1 ((akS L D.S).map fun x => x.f0) g1) (h2 : Rb intK W.heap.size w' a2 (((lfS L D.S).filter fun x => loB (taG D L) now (taR D L now de) x).map fun x => x.f0) g2) (n01 : g0 ≠ g1) (n02 : g0 ≠ g2) (n12 : g1 ≠ g2) (b : Below W.heap.size W w')
    (ho : Ro sentK 37 W.heap.size w' (.slice a0 ((lfS L D.S).filter fun x => !loB (taG D L) now (taR D L now de) x).length c0) ((lfS L D.S).filter fun x => !loB (taG D L) now (taR D L now de) x)) :
    TAPo D L now de W (.returned (.tuple #[spaceV ⟨taG D L, (lfS L D.S).filter fun x => !loB (taG D L) now (taR D L now de) x, taR D L now de⟩ a0 c0, .slice a1 ((akS L D.S).map fun x => x.f0).length c1, .slice a2 (((lfS L D.S).filter fun x => loB (taG D L) now (taR D L now de) x).map fun x => x.f0).length c2, .bool true])) w' :=
  ⟨a0, c0, a1, c1, a2, c2, g0, g1, g2, by rw [h]; rfl, ⟨by rw [h]; exact h0, by rw [h]; exact h1, by rw [h]; exact h2, n01, n02, n12, b⟩, by rw [h]; exact ho⟩
theorem TAPo.p {D : SpaceD} {L : List RangeD} {now de : Int} {W w' : World} {e : Ending} (h : TAPo D L now de W e w') : TAP D L now de W e w' := by
  obtain ⟨a0, c0, a1, c1, a2, c2, g0, g1, g2, h1, h2, _⟩ := h
  exact ⟨a0, c0, a1, c1, a2, c2, g0, g1, g2, h1, h2⟩

/-- a sample leaves a round trip good -/
theorem sm_good {r : RttD} {la de : Int} (h : rtB r = true) (hl : tkB la = true) (hd : tkB de = true) : rtB (smD r la de) = true := by
  obtain ⟨l0, l1⟩ := tkB_yes hl
  obtain ⟨d0, d1⟩ := tkB_yes hd
  obtain ⟨kn, pl, mi, sm, va⟩ := r
  cases kn with
  | false =>
    show rtB ⟨true, la, la, la, la / 2⟩ = true
    simp only [rtB, tkB, if_true, Bool.and_eq_true, decide_eq_true_eq]
    omega
  | true =>
    simp only [rtB, tkB, if_true, Bool.and_eq_true, decide_eq_true_eq] at h
    have e : smD ⟨true, pl, mi, sm, va⟩ la de = ⟨true, la, smMi ⟨true, pl, mi, sm, va⟩ la, (7 * sm + smAd ⟨true, pl, mi, sm, va⟩ la de) / 8, (3 * va + smAp ⟨true, pl, mi, sm, va⟩ la de) / 4⟩ := rfl
    rw [e]
    have hm : smMi ⟨true, pl, mi, sm, va⟩ la = mi ∧ mi ≤ la ∨ smMi ⟨true, pl, mi, sm, va⟩ la = la ∧ la < mi := by
      unfold smMi
      split
      · exact Or.inr ⟨rfl, by assumption⟩
      · exact Or.inl ⟨rfl, by simp_all⟩
    have ha : 0 ≤ smAd ⟨true, pl, mi, sm, va⟩ la de ∧ smAd ⟨true, pl, mi, sm, va⟩ la de ≤ 1000000000 := by
      unfold smAd
      split
      · rename_i h9
        omega
      · omega
    have hp : 0 ≤ smAp ⟨true, pl, mi, sm, va⟩ la de ∧ smAp ⟨true, pl, mi, sm, va⟩ la de ≤ 1000000000 := by
      unfold smAp
      dsimp only
      split <;> omega
    generalize smMi ⟨true, pl, mi, sm, va⟩ la = m at *
    generalize smAd ⟨true, pl, mi, sm, va⟩ la de = a at *
    generalize smAp ⟨true, pl, mi, sm, va⟩ la de = p at *
    simp only [rtB, tkB, if_true, Bool.and_eq_true, decide_eq_true_eq]
    omega
/-- what stands of good packets -/
theorem allS_at {S : List SentD} (h : allS S = true) {i : Nat} (hi : i < S.length) : orB S i = true := by
  unfold allS at h
  rw [List.all_eq_true] at h
  exact h i (List.mem_range.2 hi)
theorem os_at {S : List SentD} (h : allS S = true) {i : Nat} (hi : i < S.length) : osB (gt sentK S i) = true := by
  have := allS_at h hi
  unfold orB at this
  rw [Bool.and_eq_true] at this
  exact this.1
theorem time_up {S : List SentD} (h : allS S = true) : ∀ (d i : Nat), i + d < S.length → (gt sentK S i).f1 ≤ (gt sentK S (i + d)).f1
  | 0, i, _ => Int.le_refl _
  | d + 1, i, hi => by
    have h1 := time_up h d i (by omega)
    have h2 := allS_at h (i := i + (d + 1)) hi
    unfold orB at h2
    simp only [Bool.and_eq_true, decide_eq_true_eq] at h2
    rcases h2.2 with h0 | h0
    · omega
    · have e : i + (d + 1) - 1 = i + d := by omega
      rw [e] at h0
      exact Int.le_trans h1 h0.2
theorem mem_gt {S : List SentD} {x : SentD} (h : x ∈ S) : ∃ i, i < S.length ∧ gt sentK S i = x := by
  obtain ⟨i, hi, e⟩ := List.getElem_of_mem h
  exact ⟨i, hi, by rw [gt_of sentK S i hi]; exact e⟩
theorem time_in {S : List SentD} (h : allS S = true) {x : SentD} (hx : x ∈ S) : 0 ≤ x.f1 ∧ x.f1 ≤ (laS S).f1 ∧ 0 ≤ x.f0 ∧ x.f0 ≤ 4611686018427387903 := by
  obtain ⟨i, hi, rfl⟩ := mem_gt hx
  have h1 := os_at h hi
  unfold osB knB tkB at h1
  simp only [Bool.and_eq_true, decide_eq_true_eq] at h1
  refine ⟨h1.2.1.1, ?_, h1.1.1, h1.1.2⟩
  unfold laS
  rw [if_neg (by omega)]
  have h2 := time_up h (S.length - 1 - i) i (by omega)
  rw [show i + (S.length - 1 - i) = S.length - 1 by omega] at h2
  exact h2
/-- round trips stay good while packets are taken -/
theorem rt_fold {hi now de : Int} (hd : tkB de = true) : ∀ (M : List SentD) (r : RttD), (∀ x ∈ M, tkB (now - x.f1) = true) → rtB r = true → rtB (M.foldl (rtF hi now de) r) = true
  | [], r, _, h => h
  | x :: M, r, hx, h => by
    rw [List.foldl_cons]
    refine rt_fold hd M _ (fun y hy => hx y (List.mem_cons_of_mem _ hy)) ?_
    unfold rtF
    split
    · exact sm_good h (hx x List.mem_cons_self) hd
    · exact h
theorem ak_mem {L : List RangeD} {S : List SentD} {x : SentD} (h : x ∈ akS L S) : x ∈ S := (List.mem_filter.1 h).1
theorem lf_mem {L : List RangeD} {S : List SentD} {x : SentD} (h : x ∈ lfS L S) : x ∈ S := (List.mem_filter.1 h).1
/-- lists by one more -/
theorem take_gt {S : List SentD} {k : Nat} (h : k < S.length) : S.take (k + 1) = S.take k ++ [gt sentK S k] := by rw [gt_of sentK S k h]; exact (List.take_append_getElem h).symm
theorem fil_yes {p : SentD → Bool} {S : List SentD} {k : Nat} (h : k < S.length) (hp : p (gt sentK S k) = true) : (S.take (k + 1)).filter p = (S.take k).filter p ++ [gt sentK S k] := by
  rw [take_gt h, List.filter_append]
  simp [hp]
theorem fil_no {p : SentD → Bool} {S : List SentD} {k : Nat} (h : k < S.length) (hp : p (gt sentK S k) = false) : (S.take (k + 1)).filter p = (S.take k).filter p := by
  rw [take_gt h, List.filter_append]
  simp [hp]
theorem ta_parts {D : SpaceD} {L : List RangeD} {now de : Int} (h : taB D L now de = true) : gsB D = true ∧ grB L = true ∧ L.length ≠ 0 ∧ tkB now = true ∧ (laS D.S).f1 ≤ now ∧ tkB de = true := by
  unfold taB at h
  simp only [Bool.and_eq_true, decide_eq_true_eq] at h
  exact h
theorem gs_parts {D : SpaceD} (h : gsB D = true) : allS D.S = true ∧ -1 ≤ D.lg ∧ D.lg ≤ 4611686018427387903 ∧ D.S.length ≤ 60 ∧ rtB D.r = true := by
  unfold gsB at h
  simp only [Bool.and_eq_true, decide_eq_true_eq] at h
  exact ⟨h.1, h.2.1.1, h.2.1.2, h.2.2.1, h.2.2.2⟩
theorem tick_in {D : SpaceD} {now : Int} (hg : gsB D = true) (hn : tkB now = true) (hl : (laS D.S).f1 ≤ now) {x : SentD} (hx : x ∈ D.S) : tkB (now - x.f1) = true := by
  obtain ⟨h0, h1, _, _⟩ := time_in (gs_parts hg).1 hx
  obtain ⟨n0, n1⟩ := tkB_yes hn
  unfold tkB
  simp only [Bool.and_eq_true, decide_eq_true_eq]
  omega
theorem rt_in {r : RttD} (h : rtB r = true) : 0 ≤ r.sm ∧ r.sm ≤ 1000000000 ∧ 0 ≤ r.la ∧ r.la ≤ 1000000000 := by
  obtain ⟨kn, la, mi, sm, va⟩ := r
  cases kn with
  | false => simp only [rtB] at h; simp at h; dsimp only; omega
  | true => simp only [rtB, tkB, if_true, Bool.and_eq_true, decide_eq_true_eq] at h; dsimp only; omega
end Go.Proofs.Ytccfbkpelehldaa.Rc
