/-
  Backends by rank, as a function; and that the library's insertion sort makes it.
-/
import Derived.Test.YtpjmnnaiegdjmaaDoorPkb
import Derived.Test.YtpjmnnaiegdjmaaDoorInsX
import Derived.Shelf.SlSortCmp.InsertionK
namespace Go.Proofs.YtpjmnnaiegdjmaaDoor
open Go.ChangeShapes Go.WideShapes Go.ChangeAt Go.RowKit Go.Sort
set_option linter.unusedVariables false

/-- how many of the first n say yes, up to the first that says no -/
def ldP (p : Nat → Bool) : Nat → Nat
  | 0 => 0
  | n + 1 => if ldP p n = n ∧ p n = true then n + 1 else ldP p n
def IsL (p : Nat → Bool) (n k : Nat) : Prop := k ≤ n ∧ (∀ t, t < k → p t = true) ∧ (k < n → p k = false)
theorem IsL.uniq {p : Nat → Bool} {n k k' : Nat} (h : IsL p n k) (h' : IsL p n k') : k = k' := by
  obtain ⟨a, b, c⟩ := h
  obtain ⟨a', b', c'⟩ := h'
  by_cases h1 : k < k'
  · have := b' k h1
    rw [c (by omega)] at this
    cases this
  by_cases h2 : k' < k
  · have := b k' h2
    rw [c' (by omega)] at this
    cases this
  omega
theorem ldP_is (p : Nat → Bool) : ∀ n, IsL p n (ldP p n)
  | 0 => ⟨Nat.le_refl _, fun t h => absurd h (Nat.not_lt_zero _), fun h => absurd h (Nat.lt_irrefl _)⟩
  | n + 1 => by
    obtain ⟨a, b, c⟩ := ldP_is p n
    rw [ldP]
    by_cases h : ldP p n = n ∧ p n = true
    · rw [if_pos h]
      refine ⟨Nat.le_refl _, fun t ht => ?_, fun h => absurd h (Nat.lt_irrefl _)⟩
      by_cases e : t = n
      · subst e; exact h.2
      · exact b t (by rw [h.1]; omega)
    · rw [if_neg h]
      refine ⟨by omega, b, fun _ => ?_⟩
      by_cases e : ldP p n = n
      · rw [e]
        exact Bool.eq_false_iff.2 fun z => h ⟨e, z⟩
      · exact c (by omega)
/-- as great a score as x has, or a greater one -/
def geS (key x : ByteArray) (R : List ByteArray) (t : Nat) : Bool := decide (scN x key ≤ scN (tA R t) key)
/-- the place of x in rank -/
def rkI (key x : ByteArray) (R : List ByteArray) : Nat := ldP (geS key x R) R.length
/-- the first i in rank -/
def rkL (key : ByteArray) (L : List ByteArray) : Nat → List ByteArray
  | 0 => []
  | i + 1 => insL (rkL key L i) (rkI key (tA L i) (rkL key L i)) (tA L i)
theorem rkI_le (key x : ByteArray) (R : List ByteArray) : rkI key x R ≤ R.length := (ldP_is _ _).1
theorem rkL_len (key : ByteArray) (L : List ByteArray) : ∀ i, (rkL key L i).length = i
  | 0 => rfl
  | i + 1 => by rw [rkL, insL_len _ _ _ (rkI_le _ _ _), rkL_len key L i]
/-- scores fall -/
def Fal (key : ByteArray) (R : List ByteArray) : Prop := ∀ i j, i ≤ j → j < R.length → scN (tA R j) key ≤ scN (tA R i) key
theorem insL_an (L : List ByteArray) (k i : Nat) (x : ByteArray) (hk : k ≤ L.length) : tA (insL L k x) i = if i < k then tA L i else if i = k then x else tA L (i - 1) := by
  by_cases c : i < k
  · rw [if_pos c, insL_lo L k i x hk c]
  · rw [if_neg c]
    by_cases e : i = k
    · rw [if_pos e, e, insL_at L k x hk]
    · rw [if_neg e]
      obtain ⟨j, rfl⟩ : ∃ j, i = k + 1 + j := ⟨i - (k + 1), by omega⟩
      rw [insL_hi L k j x hk]
      congr 1
      omega
theorem fal_ins {key x : ByteArray} {R : List ByteArray} (h : Fal key R) : Fal key (insL R (rkI key x R) x) := by
  obtain ⟨p1, p2, p3⟩ := ldP_is (geS key x R) R.length
  have hp : rkI key x R = ldP (geS key x R) R.length := rfl
  rw [← hp] at p1 p2 p3
  generalize rkI key x R = k at *
  have q2 : ∀ t, t < k → scN x key ≤ scN (tA R t) key := fun t ht => of_decide_eq_true (p2 t ht)
  have q3 : ∀ t, k ≤ t → t < R.length → scN (tA R t) key ≤ scN x key := fun t h1 h2 => by
    have a := of_decide_eq_false (p3 (by omega))
    have b := h k t h1 h2
    omega
  intro i j hij hj
  rw [insL_len R k x p1] at hj
  rw [insL_an R k i x p1, insL_an R k j x p1]
  by_cases c1 : j < k
  · rw [if_pos c1, if_pos (by omega)]; exact h i j hij (by omega)
  · rw [if_neg c1]
    by_cases c2 : j = k
    · rw [if_pos c2]
      by_cases c3 : i < k
      · rw [if_pos c3]; exact q2 i c3
      · rw [if_neg c3, if_pos (by omega)]; exact Nat.le_refl _
    · rw [if_neg c2]
      by_cases c3 : i < k
      · rw [if_pos c3]; exact h i (j - 1) (by omega) (by omega)
      · rw [if_neg c3]
        by_cases c4 : i = k
        · rw [if_pos c4]; exact q3 (j - 1) (by omega) (by omega)
        · rw [if_neg c4]; exact h (i - 1) (j - 1) (by omega) (by omega)
theorem fal_rk (key : ByteArray) (L : List ByteArray) : ∀ i, Fal key (rkL key L i)
  | 0 => fun i j _ hj => absurd hj (Nat.not_lt_zero _)
  | i + 1 => by rw [rkL]; exact fal_ins (fal_rk key L i)
/-! ### the insertion sort -/
/-- ahead in rank -/
def ltR (key : ByteArray) (x y : ByteArray) : Bool := decide (scN y key < scN x key)
theorem swp_at (d : Array ByteArray) (j q : Nat) (hj : j + 1 < d.size) : (swp d (j + 1) j)[q]! = if q = j then d[j + 1]! else if q = j + 1 then d[j]! else d[q]! := by
  unfold swp
  by_cases e1 : q = j
  · rw [if_pos e1, e1, getElem!_set_same _ _ _ (by simp; omega)]
  · rw [if_neg e1]
    by_cases e2 : q = j + 1
    · rw [if_pos e2, e2, getElem!_set_other _ _ _ _ (by omega), getElem!_set_same _ _ _ hj]
    · rw [if_neg e2, getElem!_set_other _ _ _ _ (by omega), getElem!_set_other _ _ _ _ (by omega)]
theorem swp_size (d : Array ByteArray) (i j : Nat) : (swp d i j).size = d.size := by unfold swp; simp
/-- the inner loop puts the element at j into its place -/
theorem inner_is (key : ByteArray) (R : List ByteArray) (hF : Fal key R) (x : ByteArray) (n : Nat) (D : Nat → ByteArray) (hn : R.length < n) : ∀ (j : Nat) (d : Array ByteArray), d.size = n → j ≤ R.length →
    (∀ q, q < j → d[q]! = tA R q) → d[j]! = x → (∀ q, j < q → q ≤ R.length → d[q]! = tA R (q - 1)) → (∀ q, j ≤ q → q < R.length → scN (tA R q) key < scN x key) → (∀ q, R.length < q → d[q]! = D q) →
    (insInner (ltR key) 0 j d).size = n ∧ (∀ q, q ≤ R.length → (insInner (ltR key) 0 j d)[q]! = tA (insL R (rkI key x R) x) q) ∧ ∀ q, R.length < q → (insInner (ltR key) 0 j d)[q]! = D q
  | j, d, hs, hj, h1, h2, h3, h4, h5 => by
    have stop : (∀ t, t < j → scN x key ≤ scN (tA R t) key) → d.size = n ∧ (∀ q, q ≤ R.length → d[q]! = tA (insL R (rkI key x R) x) q) ∧ ∀ q, R.length < q → d[q]! = D q := fun hlo => by
      have hk : rkI key x R = j := (ldP_is (geS key x R) R.length).uniq ⟨hj, fun t ht => decide_eq_true (hlo t ht), fun hl => decide_eq_false (by have := h4 j (Nat.le_refl _) hl; omega)⟩
      refine ⟨hs, fun q hq => ?_, h5⟩
      rw [hk, insL_an R j q x hj]
      by_cases c : q < j
      · rw [if_pos c, h1 q c]
      · rw [if_neg c]
        by_cases e : q = j
        · rw [if_pos e, e, h2]
        · rw [if_neg e, h3 q (by omega) hq]
    match j, hj, h1, h2, h3, h4, stop with
    | 0, _, _, _, _, _, stop => exact stop (fun t ht => absurd ht (Nat.not_lt_zero _))
    | j + 1, hj, h1, h2, h3, h4, stop =>
      rw [insInner]
      by_cases c : scN (tA R j) key < scN x key
      · have hc : (decide (j + 1 > 0) && ltR key d[j + 1]! d[j]!) = true := by
          rw [h2, h1 j (by omega), decide_eq_true (show j + 1 > 0 by omega)]
          unfold ltR
          rw [decide_eq_true c]
          rfl
        rw [if_pos hc]
        refine inner_is key R hF x n D hn j (swp d (j + 1) j) (by rw [swp_size, hs]) (by omega) (fun q hq => ?_) ?_ (fun q hq hq2 => ?_) (fun q hq hq2 => ?_) (fun q hq => ?_)
        · rw [swp_at d j q (by omega), if_neg (by omega), if_neg (by omega)]; exact h1 q (by omega)
        · rw [swp_at d j j (by omega), if_pos rfl, h2]
        · rw [swp_at d j q (by omega), if_neg (by omega)]
          by_cases e : q = j + 1
          · rw [if_pos e, h1 j (by omega), e, Nat.add_sub_cancel]
          · rw [if_neg e]; exact h3 q (by omega) hq2
        · by_cases e : q = j
          · rw [e]; exact c
          · exact h4 q (by omega) hq2
        · rw [swp_at d j q (by omega), if_neg (by omega), if_neg (by omega)]; exact h5 q hq
      · have hc : ¬ (decide (j + 1 > 0) && ltR key d[j + 1]! d[j]!) = true := by
          rw [h2, h1 j (by omega)]
          unfold ltR
          rw [decide_eq_false c, Bool.and_false]
          exact Bool.false_ne_true
        rw [if_neg hc]
        refine stop (fun t ht => ?_)
        have := hF t j (by omega) (by omega)
        omega
theorem outer_is (key : ByteArray) (L : List ByteArray) : ∀ (m i : Nat) (d : Array ByteArray), L.length - i = m → i ≤ L.length → d.size = L.length → (∀ q, q < i → d[q]! = tA (rkL key L i) q) → (∀ q, i ≤ q → q < L.length → d[q]! = tA L q) →
    (insOuter (ltR key) 0 L.length i d).size = L.length ∧ ∀ q, q < L.length → (insOuter (ltR key) 0 L.length i d)[q]! = tA (rkL key L L.length) q
  | 0, i, d, hm, hi, hs, h1, h2 => by
    obtain rfl : i = L.length := by omega
    rw [insOuter, if_neg (Nat.lt_irrefl _)]
    exact ⟨hs, h1⟩
  | m + 1, i, d, hm, hi, hs, h1, h2 => by
    rw [insOuter, if_pos (by omega)]
    have hl := rkL_len key L i
    obtain ⟨q1, q2, q3⟩ := inner_is key (rkL key L i) (fal_rk key L i) (tA L i) L.length (fun q => d[q]!) (by omega) i d hs (by omega) (fun q hq => h1 q hq) (h2 i (Nat.le_refl _) (by omega)) (fun q a b => by omega) (fun q a b => by omega) (fun q _ => rfl)
    refine outer_is key L m (i + 1) _ (by omega) (by omega) q1 (fun q hq => ?_) (fun q a b => ?_)
    · rw [q2 q (by omega)]
      rfl
    · rw [q3 q (by omega)]
      exact h2 q (by omega) b
theorem sort_is (key : ByteArray) (L : List ByteArray) : (insertionSort (ltR key) L.toArray 0 L.length).size = L.length ∧ ∀ q, q < L.length → (insertionSort (ltR key) L.toArray 0 L.length)[q]! = tA (rkL key L L.length) q := by
  have hd : ∀ q, q < L.length → L.toArray[q]! = tA L q := fun q hq => by
    rw [getElem!_pos _ q (by simpa using hq)]
    unfold tA
    rw [List.getD, List.getElem?_eq_getElem hq]
    simp
  unfold insertionSort
  by_cases h0 : L.length = 0
  · refine ⟨?_, fun q hq => by omega⟩
    rw [insOuter, if_neg (by omega)]
    simp
  · refine outer_is key L (L.length - 1) (0 + 1) L.toArray (by omega) (by omega) (by simp) (fun q hq => ?_) (fun q a b => hd q b)
    obtain rfl : q = 0 := by omega
    rw [hd 0 (by omega)]
    rfl
end Go.Proofs.YtpjmnnaiegdjmaaDoor
