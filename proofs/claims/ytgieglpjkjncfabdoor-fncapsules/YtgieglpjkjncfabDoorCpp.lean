/-
  Capsules: how bytes are read, at once or in pieces (pure).
-/
import Derived.Test.YtgieglpjkjncfabDoorVrb
import Derived.Test.YtgieglpjkjncfabDoorCp0
namespace Go.Proofs.YtgieglpjkjncfabDoor.Rc
open Go.ChangeShapes Go.WideShapes Go.ChangeAt Go.RowKit Go.Deep
set_option linter.unusedVariables false
set_option maxRecDepth 100000

/-! what a number at the front can be -/
theorem st_in16 (m : Int) (c : UInt8) (h0 : 0 ≤ m) (h1 : m < 36028797018963968) : st m c = m * 256 + c.toNat := by
  have hc := c.toNat_lt
  unfold st
  rw [show wrap64 (m * 256) = m * 256 by unfold wrap64; omega, show wrap64 (c.toNat : Int) = (c.toNat : Int) by unfold wrap64; omega, or_byte _ _ (by omega) (by omega) (by omega) (by omega) (by omega)]
def bnd : Nat → Int
  | 0 => 4611686018427387904
  | n + 1 => bnd n / 256
theorem bnd_le : ∀ n, bnd n ≤ 4611686018427387904
  | 0 => Int.le_refl _
  | n + 1 => by have := bnd_le n; show bnd n / 256 ≤ _; omega
theorem big_in : ∀ (l : List UInt8) (m : Int), 0 ≤ m → m < bnd l.length → 0 ≤ big m l ∧ big m l < 4611686018427387904
  | [], m, h0, h1 => ⟨h0, h1⟩
  | c :: l, m, h0, h1 => by
    have hc := c.toNat_lt
    have hb := bnd_le l.length
    have h2 : m < bnd l.length / 256 := h1
    have e := st_in16 m c h0 (by omega)
    rw [show c :: l = [c] ++ l from rfl, show big m ([c] ++ l) = big (st m c) l from List.foldl_append ..]
    exact big_in l (st m c) (by rw [e]; omega) (by rw [e]; omega)
theorem tk_in (l : List UInt8) : 0 ≤ (tk l).1 ∧ (tk l).1 < 4611686018427387904 ∧ (tk l).2 ≤ l.length := by
  cases l with
  | nil => exact ⟨by decide, by decide, by decide⟩
  | cons c r =>
    have hc := c.toNat_lt
    simp only [tk]
    split
    · exact ⟨by show (0 : Int) ≤ 0; omega, by show (0 : Int) < _; omega, Nat.zero_le _⟩
    · rename_i h
      have hl : (r.take (tkN c - 1)).length = tkN c - 1 := by rw [List.length_take]; omega
      have h8 : tkN c = 1 ∨ tkN c = 2 ∨ tkN c = 4 ∨ tkN c = 8 := by rcases quarter c with ⟨_, a⟩ | ⟨_, a⟩ | ⟨_, a⟩ | ⟨_, a⟩ <;> omega
      have := big_in (r.take (tkN c - 1)) (c.toNat % 64) (by omega) (by
        rw [hl]
        rcases h8 with a | a | a | a <;> rw [a]
        · show _ < (4611686018427387904 : Int); omega
        · show _ < (18014398509481984 : Int); omega
        · show _ < (274877906944 : Int); omega
        · show _ < (64 : Int); omega)
      exact ⟨this.1, this.2, by simp; omega⟩
theorem tk_app {l : List UInt8} (h : (tk l).2 ≠ 0) (t : List UInt8) : tk (l ++ t) = tk l := by
  cases l with
  | nil => exact absurd rfl h
  | cons c r =>
    have h8 : 1 ≤ tkN c := by rcases quarter c with ⟨_, a⟩ | ⟨_, a⟩ | ⟨_, a⟩ | ⟨_, a⟩ <;> omega
    rw [List.cons_append]
    simp only [tk] at h ⊢
    by_cases hr : r.length + 1 < tkN c
    · rw [if_pos hr] at h; exact absurd rfl h
    · rw [if_neg hr, if_neg (by rw [List.length_append]; omega), List.take_append_of_le_length (by omega)]

/-- one capsule at the front: none where it has more Data than may be, some none where bytes lack -/
def rdB (l : List UInt8) (k : Int) (a : Nat) (x : Int × Nat) : Option (Option (CapsuleD × Nat)) :=
  if x.2 = 0 then some none else if 200 < x.1 then none else if (l.length : Int) - ((a + x.2 : Nat) : Int) < x.1 then some none
  else some (some (⟨k, ⟨((l.drop (a + x.2)).take x.1.toNat).toArray⟩⟩, a + x.2 + x.1.toNat))
def rd1 (l : List UInt8) : Option (Option (CapsuleD × Nat)) := if (tk l).2 = 0 then some none else rdB l (tk l).1 (tk l).2 (tk (l.drop (tk l).2))
theorem rd1_k {l : List UInt8} {D : CapsuleD} {n : Nat} (h : rd1 l = some (some (D, n))) : 2 ≤ n ∧ n ≤ l.length ∧ gdC D = true := by
  unfold rd1 at h
  split at h
  · cases h
  · rename_i h1
    unfold rdB at h
    split at h
    · cases h
    · rename_i h2
      split at h
      · cases h
      · rename_i h3
        split at h
        · cases h
        · rename_i h4
          injection h with h
          injection h with h
          injection h with hD hn
          subst hD hn
          have i1 := tk_in l
          have i2 := tk_in (l.drop (tk l).2)
          generalize tk (l.drop (tk l).2) = x at *
          generalize tk l = y at *
          have hs : ((⟨((l.drop (y.2 + x.2)).take x.1.toNat).toArray⟩ : ByteArray)).size ≤ x.1.toNat := by
            show (((l.drop (y.2 + x.2)).take x.1.toNat).toArray).size ≤ _
            rw [List.size_toArray, List.length_take]
            omega
          refine ⟨by omega, by omega, ?_⟩
          unfold gdC k62
          simp only [Bool.and_eq_true, decide_eq_true_eq]
          exact ⟨⟨i1.1, by omega⟩, by omega⟩
theorem rd1_app {l : List UInt8} (h : rd1 l ≠ some none) (t : List UInt8) : rd1 (l ++ t) = rd1 l := by
  unfold rd1 at h ⊢
  by_cases h1 : (tk l).2 = 0
  · rw [if_pos h1] at h; exact absurd rfl h
  · rw [if_neg h1] at h
    rw [tk_app h1, if_neg h1, if_neg h1]
    have i1 := tk_in l
    have hd : (l ++ t).drop (tk l).2 = l.drop (tk l).2 ++ t := List.drop_append_of_le_length i1.2.2
    rw [hd]
    by_cases h2 : (tk (l.drop (tk l).2)).2 = 0
    · unfold rdB at h; rw [if_pos h2] at h; exact absurd rfl h
    · rw [tk_app h2]
      have i2 := tk_in (l.drop (tk l).2)
      rw [List.length_drop] at i2
      generalize tk (l.drop (tk l).2) = x at *
      generalize tk l = y at *
      unfold rdB at h ⊢
      rw [if_neg h2] at h ⊢
      by_cases h3 : 200 < x.1
      · rw [if_pos h3, if_neg h2, if_pos h3]
      · rw [if_neg h3] at h ⊢
        by_cases h4 : (l.length : Int) - ((y.2 + x.2 : Nat) : Int) < x.1
        · rw [if_pos h4] at h; exact absurd rfl h
        · rw [if_neg h2, if_neg h3, if_neg h4, if_neg (by rw [List.length_append]; omega), List.drop_append_of_le_length (by omega), List.take_append_of_le_length (by rw [List.length_drop]; omega)]
/-- all whole ones at the front: they, how many bytes they take, whether what stands behind may be -/
def whC : Nat → List UInt8 → List CapsuleD × Nat × Bool
  | 0, _ => ([], 0, true)
  | f + 1, l => match rd1 l with
    | none => ([], 0, false)
    | some none => ([], 0, true)
    | some (some (D, n)) => (D :: (whC f (l.drop n)).1, n + (whC f (l.drop n)).2.1, (whC f (l.drop n)).2.2)
def wh (l : List UInt8) : List CapsuleD × Nat × Bool := whC (l.length + 1) l
theorem whC_same : ∀ (f g : Nat) (l : List UInt8), l.length < f → l.length < g → whC f l = whC g l
  | 0, _, _, h, _ => absurd h (Nat.not_lt_zero _)
  | _, 0, _, _, h => absurd h (Nat.not_lt_zero _)
  | f + 1, g + 1, l, hf, hg => by
    unfold whC
    cases h : rd1 l with
    | none => rfl
    | some o =>
      cases o with
      | none => rfl
      | some x =>
        obtain ⟨D, n⟩ := x
        have hk := rd1_k h
        dsimp only
        rw [whC_same f g (l.drop n) (by rw [List.length_drop]; omega) (by rw [List.length_drop]; omega)]
theorem wh_bad {l : List UInt8} (h : rd1 l = none) : wh l = ([], 0, false) := by unfold wh whC; rw [h]
theorem wh_lack {l : List UInt8} (h : rd1 l = some none) : wh l = ([], 0, true) := by unfold wh whC; rw [h]
theorem wh_one {l : List UInt8} {D : CapsuleD} {n : Nat} (h : rd1 l = some (some (D, n))) : wh l = (D :: (wh (l.drop n)).1, n + (wh (l.drop n)).2.1, (wh (l.drop n)).2.2) := by
  have hk := rd1_k h
  have e : whC l.length (l.drop n) = wh (l.drop n) := whC_same _ _ _ (by rw [List.length_drop]; omega) (by omega)
  unfold wh at e ⊢
  rw [← e]
  conv => lhs; unfold whC
  rw [h]
theorem wh_nil : wh [] = ([], 0, true) := wh_lack rfl
theorem wh_k : ∀ (m : Nat) (l : List UInt8), l.length ≤ m → (wh l).2.1 ≤ l.length ∧ 2 * (wh l).1.length ≤ (wh l).2.1 ∧ ∀ D ∈ (wh l).1, gdC D = true
  | m, l, hm => by
    cases h : rd1 l with
    | none => rw [wh_bad h]; exact ⟨Nat.zero_le _, Nat.le_refl _, fun D hD => by cases hD⟩
    | some o =>
      cases o with
      | none => rw [wh_lack h]; exact ⟨Nat.zero_le _, Nat.le_refl _, fun D hD => by cases hD⟩
      | some x =>
        obtain ⟨D, n⟩ := x
        have hk := rd1_k h
        cases m with
        | zero => omega
        | succ m =>
          have ih := wh_k m (l.drop n) (by rw [List.length_drop]; omega)
          rw [List.length_drop] at ih
          rw [wh_one h]
          dsimp only
          rw [List.length_cons]
          refine ⟨by omega, by omega, fun E hE => ?_⟩
          rcases List.mem_cons.1 hE with rfl | hE
          · exact hk.2.2
          · exact ih.2.2 E hE
theorem wh_le (l : List UInt8) : (wh l).2.1 ≤ l.length := (wh_k _ l (Nat.le_refl _)).1
theorem wh_few (l : List UInt8) : 2 * (wh l).1.length ≤ (wh l).2.1 := (wh_k _ l (Nat.le_refl _)).2.1
theorem wh_good (l : List UInt8) : ∀ D ∈ (wh l).1, gdC D = true := (wh_k _ l (Nat.le_refl _)).2.2
theorem wh_app : ∀ (m : Nat) (l t : List UInt8), l.length ≤ m → wh (l ++ t) = if (wh l).2.2 = true then ((wh l).1 ++ (wh (l.drop (wh l).2.1 ++ t)).1, (wh l).2.1 + (wh (l.drop (wh l).2.1 ++ t)).2.1, (wh (l.drop (wh l).2.1 ++ t)).2.2) else wh l
  | m, l, t, hm => by
    cases h : rd1 l with
    | none => rw [wh_bad (show rd1 (l ++ t) = none by rw [rd1_app (by rw [h]; simp)]; exact h), wh_bad h]; simp
    | some o =>
      cases o with
      | none =>
        rw [wh_lack h]
        simp
      | some x =>
        obtain ⟨D, n⟩ := x
        have hk := rd1_k h
        cases m with
        | zero => omega
        | succ m =>
          have ih := wh_app m (l.drop n) t (by rw [List.length_drop]; omega)
          have ha : rd1 (l ++ t) = some (some (D, n)) := by rw [rd1_app (by rw [h]; simp)]; exact h
          rw [wh_one ha, wh_one h, List.drop_append_of_le_length hk.2.1, ih]
          dsimp only
          rw [show l.drop (n + (wh (l.drop n)).2.1) = (l.drop n).drop (wh (l.drop n)).2.1 by rw [List.drop_drop]]
          split
          · simp [Nat.add_assoc]
          · rfl
/-- what pieces come to: the capsules and how many bytes they take -/
def fdC (l : List UInt8) : Option (List CapsuleD × Nat) := if (wh l).2.2 = true ∧ (wh l).1.length ≤ 30 then some ((wh l).1, (wh l).2.1) else none
theorem fdC_app {l : List UInt8} (h : fdC l = none) (t : List UInt8) : fdC (l ++ t) = none := by
  unfold fdC at h ⊢
  split at h
  · cases h
  · rename_i hn
    rw [wh_app _ l t (Nat.le_refl _)]
    by_cases hb : (wh l).2.2 = true
    · rw [if_pos hb]
      have hl : ¬ (wh l).1.length ≤ 30 := fun z => hn ⟨hb, z⟩
      rw [if_neg (fun z => hl (by have := z.2; dsimp only at this; rw [List.length_append] at this; omega))]
    · rw [if_neg hb, if_neg hn]
/-- one more piece behind what is left -/
theorem fdC_step {l : List UInt8} {L : List CapsuleD} {n : Nat} (h : fdC l = some (L, n)) (t : List UInt8) :
    fdC (l ++ t) = if (wh (l.drop n ++ t)).2.2 = true ∧ L.length + (wh (l.drop n ++ t)).1.length ≤ 30 then some (L ++ (wh (l.drop n ++ t)).1, n + (wh (l.drop n ++ t)).2.1) else none := by
  unfold fdC at h
  split at h
  · rename_i hy
    injection h with h
    injection h with h1 h2
    unfold fdC
    rw [wh_app _ l t (Nat.le_refl _), if_pos hy.1, h1, h2]
    dsimp only
    rw [List.length_append]
  · cases h
/-- the model's way: so many more may come -/
def rdC : Nat → List UInt8 → Nat → List CapsuleD → Option (List CapsuleD × Nat)
  | f, l, at0, out => match rd1 l with
    | none => none
    | some none => some (out, at0)
    | some (some (D, n)) => match f with
      | 0 => none
      | f + 1 => rdC f (l.drop n) (at0 + n) (out ++ [D])
theorem rdC_wh : ∀ (f : Nat) (l : List UInt8) (at0 : Nat) (out : List CapsuleD), rdC f l at0 out = if (wh l).2.2 = true ∧ (wh l).1.length ≤ f then some (out ++ (wh l).1, at0 + (wh l).2.1) else none
  | f, l, at0, out => by
    unfold rdC
    cases h : rd1 l with
    | none => rw [wh_bad h]; simp
    | some o =>
      cases o with
      | none => rw [wh_lack h]; simp
      | some x =>
        obtain ⟨D, n⟩ := x
        rw [wh_one h]
        cases f with
        | zero => simp
        | succ f =>
          dsimp only
          rw [rdC_wh f (l.drop n) (at0 + n) (out ++ [D])]
          simp [Nat.add_assoc]
theorem rdC_fd (l : List UInt8) : rdC 30 l 0 [] = fdC l := by rw [rdC_wh]; unfold fdC; simp

end Go.Proofs.YtgieglpjkjncfabDoor.Rc
