/-
  Rows of texts: how they stay when another one is marked.
-/
import Derived.Test.YtldjenhknejpnaaTxr
namespace Go.Proofs.Ytldjenhknejpnaa
open Go.ChangeShapes Go.WideShapes Go.ChangeAt Go.RowKit Go.Deep
set_option linter.unusedVariables false

theorem Sa.kg {a a' : Option Addr} {n : Nat} {F : Nat → ByteArray} {w w' : World} (h : Sa w a n F) (k : Kg a' w w') (hne : ∀ b o g, a = some ⟨b, o, none⟩ → a' = some ⟨g, 0, none⟩ → b < w.heap.size → b ≠ g) : Sa w' a n F := by
  rcases h with h | ⟨b, o, e, h⟩
  · exact Or.inl h
  · exact Or.inr ⟨b, o, e, k.sr h (fun g eg => hne b o g e eg h.lt)⟩
theorem Sn.kg {base : Nat} {a a' : Option Addr} {n : Nat} {F : Nat → ByteArray} {w w' : World} (h : Sn base w a n F) (k : Kg a' w w') (hne : ∀ b g, a = some ⟨b, 0, none⟩ → a' = some ⟨g, 0, none⟩ → base ≤ b → b ≠ g) : Sn base w' a n F := by
  rcases h with h | ⟨b, e, h⟩
  · exact Or.inl h
  · have eb := k.block b h.lt (fun g eg => hne b g e eg h.ge)
    exact Or.inr ⟨b, e, h.ge, Nat.lt_of_lt_of_le h.lt k.size, fun i hi => (World.cell?_of_block (a := ⟨b, i, none⟩) eb).trans (h.c i hi), fun i hi => (World.frozen?_of_block (a := ⟨b, i, none⟩) eb).trans (h.fz i hi)⟩
/-- a row of texts lies below a bound -/
def Un (a : Option Addr) (n B : Nat) : Prop := n = 0 ∨ ∃ g, a = some ⟨g, 0, none⟩ ∧ g < B
theorem Sn.un {base : Nat} {a : Option Addr} {n : Nat} {F : Nat → ByteArray} {w : World} (h : Sn base w a n F) : Un a n w.heap.size := by
  rcases h with h | ⟨b, e, h⟩
  · exact Or.inl h
  · exact Or.inr ⟨b, e, h.lt⟩
theorem Sa.kgu {a a' : Option Addr} {n m B : Nat} {F G : Nat → ByteArray} {w w' w0 : World} (h : Sa w a n F) (u : Un a n B) (k : Kg a' w w') (s : Sn B w0 a' m G) (hm : m = 0 → w' = w) : Sa w' a n F := by
  rcases s with s | ⟨g, e, s⟩
  · rw [hm s]; exact h
  · rcases u with u | ⟨g', e', u⟩
    · exact Or.inl u
    · refine h.kg k (fun b o q e1 e2 _ => ?_)
      rw [e'] at e1
      rw [e] at e2
      injection e1 with e1
      injection e1 with e1 _ _
      injection e2 with e2
      injection e2 with e2 _ _
      have := s.ge
      omega
/-- a list of texts as an answer, with a yes or no -/
def Rs (M : List ByteArray) (b : Bool) (w : World) (e : Ending) (w' : World) : Prop := ∃ a cap, e = .returned (.tuple #[.slice a M.length cap, .bool b]) ∧ Sn w.heap.size w' a M.length (tA M) ∧ Below w.heap.size w w'
theorem Rs.none {w w' : World} (h : Below w.heap.size w w') : Rs [] false w (.returned (.tuple #[.slice Option.none 0 0, .bool false])) w' := ⟨Option.none, 0, rfl, Or.inl rfl, h⟩
theorem Sn.from {base base' : Nat} {w : World} {a : Option Addr} {n : Nat} {F : Nat → ByteArray} (h : Sn base w a n F) (hb : base' ≤ base) : Sn base' w a n F := by
  rcases h with h | ⟨g, e, h⟩
  · exact Or.inl h
  · exact Or.inr ⟨g, e, Nat.le_trans hb h.ge, h.lt, h.c, h.fz⟩
end Go.Proofs.Ytldjenhknejpnaa
