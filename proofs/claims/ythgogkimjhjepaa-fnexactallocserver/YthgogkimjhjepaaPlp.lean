/-
  The place of an id among good servers.
-/
import Derived.Test.YthgogkimjhjepaaPlc
import Derived.Test.YthgogkimjhjepaaTgd
namespace Go.Proofs.Ythgogkimjhjepaa
open Go.ChangeShapes Go.WideShapes Go.ChangeAt Go.RowKit
set_option linter.unusedVariables false

theorem cb_lt : ∀ x y : List UInt8, Lib.compareBytes x y < 0 ↔ Go.Op.bytesLess x y = true
  | [], [] => by simp [Lib.compareBytes, Go.Op.bytesLess]
  | [], _ :: _ => by simp [Lib.compareBytes, Go.Op.bytesLess]
  | _ :: _, [] => by simp [Lib.compareBytes, Go.Op.bytesLess]
  | a :: x, b :: y => by
    rw [Lib.compareBytes, Go.Op.bytesLess, Bool.or_eq_true, Bool.and_eq_true]
    by_cases h1 : a < b
    · rw [if_pos h1]
      exact ⟨fun _ => Or.inl (decide_eq_true h1), fun _ => by decide⟩
    · rw [if_neg h1]
      by_cases h2 : b < a
      · rw [if_pos h2]
        refine ⟨fun h => absurd h (by decide), fun h => ?_⟩
        rcases h with h | ⟨h, _⟩
        · exact absurd (of_decide_eq_true h) h1
        · rw [eq_of_beq h] at h2; exact absurd h2 (UInt8.lt_irrefl b)
      · rw [if_neg h2]
        have e : a = b := UInt8.le_antisymm (UInt8.not_lt.1 h2) (UInt8.not_lt.1 h1)
        refine ⟨fun h => Or.inr ⟨by rw [e]; exact beq_self_eq_true _, (cb_lt x y).1 h⟩, fun h => ?_⟩
        rcases h with h | ⟨_, h⟩
        · exact absurd (of_decide_eq_true h) h1
        · exact (cb_lt x y).2 h
theorem cb_eq : ∀ x y : List UInt8, Lib.compareBytes x y = 0 ↔ x = y
  | [], [] => by simp [Lib.compareBytes]
  | [], _ :: _ => by simp [Lib.compareBytes]
  | _ :: _, [] => by simp [Lib.compareBytes]
  | a :: x, b :: y => by
    rw [Lib.compareBytes]
    by_cases h1 : a < b
    · rw [if_pos h1]
      exact ⟨fun h => absurd h (by decide), fun h => by injection h with e; rw [e] at h1; exact absurd h1 (UInt8.lt_irrefl b)⟩
    · rw [if_neg h1]
      by_cases h2 : b < a
      · rw [if_pos h2]
        exact ⟨fun h => absurd h (by decide), fun h => by injection h with e; rw [e] at h2; exact absurd h2 (UInt8.lt_irrefl b)⟩
      · rw [if_neg h2]
        have e : a = b := UInt8.le_antisymm (UInt8.not_lt.1 h2) (UInt8.not_lt.1 h1)
        rw [e, cb_eq x y]
        exact ⟨fun h => by rw [h], fun h => by injection h⟩
theorem cp_lt (x y : ByteArray) : cpT x y < 0 ↔ ltT x y = true := by
  unfold cpT ltT
  rw [Lib.toList_data, Lib.toList_data]
  exact cb_lt _ _
theorem cp_eq (x y : ByteArray) : cpT x y = 0 ↔ x = y := by
  unfold cpT
  rw [cb_eq]
  exact ⟨fun h => ByteArray.ext (Array.toList_inj.mp h), fun h => by rw [h]⟩
theorem bl_ir : ∀ x : List UInt8, Go.Op.bytesLess x x = false
  | [] => rfl
  | a :: x => by rw [Go.Op.bytesLess, bl_ir x, Bool.and_false, Bool.or_false]; exact decide_eq_false (UInt8.lt_irrefl a)
theorem bl_trs : ∀ x y z : List UInt8, Go.Op.bytesLess x y = true → Go.Op.bytesLess y z = true → Go.Op.bytesLess x z = true
  | _, [], _, h, _ => by simp [Go.Op.bytesLess] at h
  | _, _ :: _, [], _, h => by simp [Go.Op.bytesLess] at h
  | [], _ :: _, _ :: _, _, _ => by simp [Go.Op.bytesLess]
  | a :: x, b :: y, c :: z, h1, h2 => by
    rw [Go.Op.bytesLess, Bool.or_eq_true, Bool.and_eq_true] at h1 h2 ⊢
    rcases h1 with h1 | ⟨e1, h1⟩
    · rcases h2 with h2 | ⟨e2, h2⟩
      · exact Or.inl (decide_eq_true (UInt8.lt_trans (of_decide_eq_true h1) (of_decide_eq_true h2)))
      · rw [eq_of_beq e2] at h1; exact Or.inl h1
    · rcases h2 with h2 | ⟨e2, h2⟩
      · rw [← eq_of_beq e1] at h2; exact Or.inl h2
      · exact Or.inr ⟨by rw [eq_of_beq e1]; exact e2, bl_trs x y z h1 h2⟩
theorem okS_at (L : List AlD) (sv : Int) : ∀ {k m : Nat}, k < m → okS L sv m = true → okA L sv k = true
  | k, 0, h, _ => absurd h (by omega)
  | k, m + 1, h, e => by
    unfold okS at e
    rw [Bool.and_eq_true] at e
    by_cases hk : k = m
    · subst hk; exact e.2
    · exact okS_at L sv (show k < m by omega) e.1
/-- ids of good servers rise -/
theorem gs_nx {L : List AlD} {sv : Int} (h : gsB L sv = true) {k : Nat} (hk : k + 1 < L.length) : ltT (aA L k).i (aA L (k + 1)).i = true := by
  unfold gsB at h
  rw [Bool.and_eq_true] at h
  have := okS_at L sv hk h.2
  unfold okA at this
  rw [Bool.and_eq_true, Bool.and_eq_true, decide_eq_false (show ¬ k + 1 = 0 by omega), Bool.false_or, Nat.add_sub_cancel] at this
  exact this.1.2
theorem gs_lt {L : List AlD} {sv : Int} (h : gsB L sv = true) : ∀ {j k : Nat}, j < k → k < L.length → ltT (aA L j).i (aA L k).i = true
  | j, 0, h1, _ => absurd h1 (by omega)
  | j, k + 1, h1, h2 => by
    by_cases e : j = k
    · subst e; exact gs_nx h h2
    · exact bl_trs _ _ _ (gs_lt h (show j < k by omega) (by omega)) (gs_nx h h2)
theorem bs_congr (p q : Nat → Bool) : ∀ (f lo hi : Nat), (∀ t, lo ≤ t → t < hi → p t = q t) → Lib.bsGo p f lo hi = Lib.bsGo q f lo hi
  | 0, lo, hi, _ => rfl
  | f + 1, lo, hi, h => by
    rw [Lib.bsGo, Lib.bsGo]
    by_cases c : lo < hi
    · rw [if_pos c, if_pos c, h ((lo + hi) / 2) (by omega) (by omega), bs_congr p q f _ _ (fun t a b => h t (by omega) b), bs_congr p q f _ _ (fun t a b => h t a (by omega))]
    · rw [if_neg c, if_neg c]
/-- the place of an id among good servers: how many lie ahead of it -/
theorem pl_is {L : List AlD} {sv : Int} (h : gsB L sv = true) (x : ByteArray) {k : Nat} (hk : k ≤ L.length) (h1 : ∀ t, t < k → ltT (aA L t).i x = true) (h2 : k < L.length → ltT (aA L k).i x = false) : plP L x = k := by
  unfold plP
  rw [bs_congr (plL L x) (fun t => decide (t < k)) L.length 0 L.length (fun t _ ht => ?_)]
  · exact Lib.bsGo_spec _ k (fun t ht => decide_eq_true ht) (fun t ht => decide_eq_false (by omega)) L.length 0 L.length (by omega) (by omega) hk
  · unfold plL
    by_cases c : t < k
    · rw [decide_eq_true c]
      exact decide_eq_true ((cp_lt _ _).2 (h1 t c))
    · rw [decide_eq_false c]
      refine decide_eq_false (fun z => ?_)
      have z := (cp_lt _ _).1 z
      by_cases e : t = k
      · rw [e, h2 (by omega)] at z; cases z
      · have := bl_trs _ _ _ (gs_lt h (show k < t by omega) ht) z
        have h3 := h2 (by omega)
        unfold ltT at h3
        rw [h3] at this
        cases this
end Go.Proofs.Ythgogkimjhjepaa
