/-
  Rows of texts: how they stay when another one is marked. Live sets: which lists of texts are one, and where a text lies in one.
-/
import Derived.Test.YtbabipaipbjlbaaTxr
import Derived.Test.YtbabipaipbjlbaaBkd
namespace Go.Proofs.Ytbabipaipbjlbaa
open Go.ChangeShapes Go.WideShapes Go.ChangeAt Go.RowKit Go.Deep
set_option linter.unusedVariables false

theorem Sa.kg {a a' : Option Addr} {n : Nat} {F : Nat → ByteArray} {w w' : World} (h : Sa w a n F) (k : Kg a' w w') (hne : ∀ b o g, a = some ⟨b, o, none⟩ → a' = some ⟨g, 0, none⟩ → b < w.heap.size → b ≠ g) : Sa w' a n F := by
  rcases h with h | ⟨b, o, e, h⟩
  · exact Or.inl h
  · exact Or.inr ⟨b, o, e, k.sr h (fun g eg => hne b o g e eg h.lt)⟩
theorem Sn.kg {base : Nat} {a a' : Option Addr} {n : Nat} {F : Nat → ByteArray} {w w' : World} (h : Sn base w a n F) (k : Kg a' w w') (hne : ∀ b g, a = some ⟨b, 0, none⟩ → a' = some ⟨g, 0, none⟩ → base ≤ b → b ≠ g) : Sn base w' a n F := by
  rcases h with h | ⟨b, e, h⟩
  · exact Or.inl h
  · have eb := k.block b h.lt (fun g eg => hne b g e eg h.ge)
    exact Or.inr ⟨b, e, h.ge, Nat.lt_of_lt_of_le h.lt k.size, fun i hi => (World.cell?_of_block (a := ⟨b, i, none⟩) eb).trans (h.c i hi), fun i hi => (World.frozen?_of_block (a := ⟨b, i, none⟩) eb).trans (h.fz i hi)⟩
/-- a row of texts lies below a bound -/
def Un (a : Option Addr) (n B : Nat) : Prop := n = 0 ∨ ∃ g, a = some ⟨g, 0, none⟩ ∧ g < B
theorem Sn.un {base : Nat} {a : Option Addr} {n : Nat} {F : Nat → ByteArray} {w : World} (h : Sn base w a n F) : Un a n w.heap.size := by
  rcases h with h | ⟨b, e, h⟩
  · exact Or.inl h
  · exact Or.inr ⟨b, e, h.lt⟩
theorem Sa.kgu {a a' : Option Addr} {n m B : Nat} {F G : Nat → ByteArray} {w w' w0 : World} (h : Sa w a n F) (u : Un a n B) (k : Kg a' w w') (s : Sn B w0 a' m G) (hm : m = 0 → w' = w) : Sa w' a n F := by
  rcases s with s | ⟨g, e, s⟩
  · rw [hm s]; exact h
  · rcases u with u | ⟨g', e', u⟩
    · exact Or.inl u
    · refine h.kg k (fun b o q e1 e2 _ => ?_)
      rw [e'] at e1
      rw [e] at e2
      injection e1 with e1
      injection e1 with e1 _ _
      injection e2 with e2
      injection e2 with e2 _ _
      have := s.ge
      omega
/-- a list of texts as an answer, with a yes or no -/
def Rs (M : List ByteArray) (b : Bool) (w : World) (e : Ending) (w' : World) : Prop := ∃ a cap, e = .returned (.tuple #[.slice a M.length cap, .bool b]) ∧ Sn w.heap.size w' a M.length (tA M) ∧ Below w.heap.size w w'
theorem Rs.none {w w' : World} (h : Below w.heap.size w w') : Rs [] false w (.returned (.tuple #[.slice Option.none 0 0, .bool false])) w' := ⟨Option.none, 0, rfl, Or.inl rfl, h⟩
theorem Sn.from {base base' : Nat} {w : World} {a : Option Addr} {n : Nat} {F : Nat → ByteArray} (h : Sn base w a n F) (hb : base' ≤ base) : Sn base' w a n F := by
  rcases h with h | ⟨g, e, h⟩
  · exact Or.inl h
  · exact Or.inr ⟨g, e, Nat.le_trans hb h.ge, h.lt, h.c, h.fz⟩
end Go.Proofs.Ytbabipaipbjlbaa
namespace Go.Proofs.Ytbabipaipbjlbaa
open Go.ChangeShapes Go.WideShapes Go.ChangeAt Go.RowKit
set_option linter.unusedVariables false

/-- a text lies ahead of another -/
def lsT (x y : ByteArray) : Bool := Go.Op.bytesLess x.toList y.toList
theorem tl_inj {x y : ByteArray} (h : x.toList = y.toList) : x = y := by
  rw [Lib.toList_data, Lib.toList_data] at h
  exact ByteArray.ext (Array.toList_inj.mp h)
theorem bl_irr : ∀ x : List UInt8, Go.Op.bytesLess x x = false
  | [] => rfl
  | a :: x => by rw [Go.Op.bytesLess, bl_irr x, Bool.and_false, Bool.or_false]; exact decide_eq_false (UInt8.lt_irrefl a)
theorem bl_tr : ∀ x y z : List UInt8, Go.Op.bytesLess x y = true → Go.Op.bytesLess y z = true → Go.Op.bytesLess x z = true
  | _, [], _, h, _ => by simp [Go.Op.bytesLess] at h
  | _, _ :: _, [], _, h => by simp [Go.Op.bytesLess] at h
  | [], _ :: _, _ :: _, _, _ => by simp [Go.Op.bytesLess]
  | a :: x, b :: y, c :: z, h1, h2 => by
    rw [Go.Op.bytesLess, Bool.or_eq_true, Bool.and_eq_true] at h1 h2 ⊢
    rcases h1 with h1 | ⟨e1, h1⟩
    · rcases h2 with h2 | ⟨e2, h2⟩
      · exact Or.inl (decide_eq_true (UInt8.lt_trans (of_decide_eq_true h1) (of_decide_eq_true h2)))
      · rw [eq_of_beq e2] at h1; exact Or.inl h1
    · rcases h2 with h2 | ⟨e2, h2⟩
      · rw [← eq_of_beq e1] at h2; exact Or.inl h2
      · exact Or.inr ⟨by rw [eq_of_beq e1]; exact e2, bl_tr x y z h1 h2⟩
theorem lsT_irr (x : ByteArray) : lsT x x = false := by
  exact bl_irr _
theorem lsT_tr {x y z : ByteArray} (h1 : lsT x y = true) (h2 : lsT y z = true) : lsT x z = true := by
  exact bl_tr _ _ _ h1 h2
/-- text k is as it must be in a live set -/
def okB (F : Nat → ByteArray) (k : Nat) : Bool := bkB (F k) && (decide (k = 0) || lsT (F (k - 1)) (F k))
def okV (F : Nat → ByteArray) : Nat → Bool
  | 0 => true
  | k + 1 => okV F k && okB F k
theorem okV_no (F : Nat → ByteArray) : ∀ {k m : Nat}, k < m → okB F k = false → okV F m = false
  | k, 0, h, _ => absurd h (by omega)
  | k, m + 1, h, e => by
    unfold okV
    by_cases hk : k = m
    · subst hk; rw [e, Bool.and_false]
    · rw [okV_no F (show k < m by omega) e, Bool.false_and]
theorem okV_at (F : Nat → ByteArray) : ∀ {k m : Nat}, k < m → okV F m = true → okB F k = true
  | k, 0, h, _ => absurd h (by omega)
  | k, m + 1, h, e => by
    unfold okV at e
    rw [Bool.and_eq_true] at e
    by_cases hk : k = m
    · subst hk; exact e.2
    · exact okV_at F (show k < m by omega) e.1
/-- a live set -/
def glB (F : Nat → ByteArray) (n : Nat) : Bool := decide (n ≤ 12) && okV F n
theorem gl_12 {F : Nat → ByteArray} {n : Nat} (h : glB F n = true) : n ≤ 12 := by
  unfold glB at h
  rw [Bool.and_eq_true] at h
  exact of_decide_eq_true h.1
theorem gl_bk {F : Nat → ByteArray} {n : Nat} (h : glB F n = true) {k : Nat} (hk : k < n) : bkB (F k) = true := by
  unfold glB at h
  rw [Bool.and_eq_true] at h
  have := okV_at F hk h.2
  unfold okB at this
  rw [Bool.and_eq_true] at this
  exact this.1
theorem gl_nx {F : Nat → ByteArray} {n : Nat} (h : glB F n = true) {k : Nat} (hk : k + 1 < n) : lsT (F k) (F (k + 1)) = true := by
  unfold glB at h
  rw [Bool.and_eq_true] at h
  have := okV_at F hk h.2
  unfold okB at this
  rw [Bool.and_eq_true, decide_eq_false (show ¬ k + 1 = 0 by omega), Bool.false_or, Nat.add_sub_cancel] at this
  exact this.2
theorem gl_lt {F : Nat → ByteArray} {n : Nat} (h : glB F n = true) : ∀ {j k : Nat}, j < k → k < n → lsT (F j) (F k) = true
  | j, 0, h1, _ => absurd h1 (by omega)
  | j, k + 1, h1, h2 => by
    by_cases e : j = k
    · subst e; exact gl_nx h h2
    · exact lsT_tr (gl_lt h (show j < k by omega) (by omega)) (gl_nx h h2)
theorem bk_size {s : ByteArray} (h : bkB s = true) : s.size ≤ 12 := by
  unfold bkB at h
  rw [Bool.and_eq_true, Bool.and_eq_true] at h
  exact of_decide_eq_true h.1.2
/-- the place of a text: the first that does not lie ahead of it -/
def IsP (F : Nat → ByteArray) (x : ByteArray) (n k : Nat) : Prop := k ≤ n ∧ (∀ t, t < k → lsT (F t) x = true) ∧ (k < n → lsT (F k) x = false)
theorem IsP.uniq {F : Nat → ByteArray} {x : ByteArray} {n k k' : Nat} (h : IsP F x n k) (h' : IsP F x n k') : k = k' := by
  obtain ⟨a, b, c⟩ := h
  obtain ⟨a', b', c'⟩ := h'
  by_cases h1 : k < k'
  · have := b' k h1
    rw [c (by omega)] at this
    cases this
  by_cases h2 : k' < k
  · have := b k' h2
    rw [c' (by omega)] at this
    cases this
  omega
/-- how many lie ahead -/
def lnP (F : Nat → ByteArray) (x : ByteArray) : Nat → Nat
  | 0 => 0
  | n + 1 => if lnP F x n = n ∧ lsT (F n) x = true then n + 1 else lnP F x n
theorem lnP_is (F : Nat → ByteArray) (x : ByteArray) : ∀ n, IsP F x n (lnP F x n)
  | 0 => ⟨Nat.le_refl _, fun t h => absurd h (Nat.not_lt_zero _), fun h => absurd h (Nat.lt_irrefl _)⟩
  | n + 1 => by
    obtain ⟨a, b, c⟩ := lnP_is F x n
    rw [lnP]
    by_cases h : lnP F x n = n ∧ lsT (F n) x = true
    · rw [if_pos h]
      refine ⟨Nat.le_refl _, fun t ht => ?_, fun h => absurd h (Nat.lt_irrefl _)⟩
      by_cases e : t = n
      · subst e; exact h.2
      · exact b t (by rw [h.1]; omega)
    · rw [if_neg h]
      refine ⟨by omega, b, fun _ => ?_⟩
      by_cases e : lnP F x n = n
      · rw [e]
        exact Bool.eq_false_iff.2 fun z => h ⟨e, z⟩
      · exact c (by omega)
theorem IsP.eq {F : Nat → ByteArray} {x : ByteArray} {n k : Nat} (h : IsP F x n k) : lnP F x n = k := (lnP_is F x n).uniq h
/-- whether it is there -/
def hsP (F : Nat → ByteArray) (x : ByteArray) (n : Nat) : Bool := decide (lnP F x n < n) && decide (F (lnP F x n) = x)
/-- of a live set, what lies behind the place does not lie ahead of the text -/
theorem gl_behind {F : Nat → ByteArray} {n : Nat} (h : glB F n = true) {x : ByteArray} {k : Nat} (hp : IsP F x n k) {t : Nat} (h1 : k ≤ t) (h2 : t < n) : lsT (F t) x = false := by
  obtain ⟨a, b, c⟩ := hp
  by_cases e : t = k
  · rw [e]; exact c (by omega)
  · refine Bool.eq_false_iff.2 fun z => ?_
    have := lsT_tr (gl_lt h (show k < t by omega) h2) z
    rw [c (by omega)] at this
    cases this
theorem beq_txt (x y : ByteArray) : (x.toList == y.toList) = decide (x = y) := by
  by_cases h : x = y
  · subst h; rw [decide_eq_true rfl]; exact beq_self_eq_true _
  · rw [decide_eq_false h]
    exact Bool.eq_false_iff.2 fun z => h (tl_inj (eq_of_beq z))
end Go.Proofs.Ytbabipaipbjlbaa
