/-
  Rows of numbers: appended to, held against each other, marked; and a row that lies in a block of its own.
-/
import Derived.Test.YtagnkelpdgpigaaRcs
import Derived.Deep.QuietTactic
import Derived.Deep.RegionWith
import Derived.BigQuiet
namespace Go.Proofs.Ytagnkelpdgpigaa.Rc
open Go.ChangeShapes Go.WideShapes Go.ChangeAt Go.RowKit Go.Deep
set_option linter.unusedVariables false
set_option maxRecDepth 100000

/-- how a number lies in cells -/
def intK : Kd Int := ⟨fun n => [.int .i64 n], 1, 0, fun _ => rfl, by decide, fun x u hu => by simp at hu; rw [hu]; rfl⟩
theorem int_c (L : List Int) (k : Nat) : cl intK L k = .int .i64 (gt intK L k) := by
  have h := cl_at intK L k 0 (by decide)
  rw [show k * intK.m + 0 = k from Nat.mul_one k] at h
  exact h
theorem int_m (L : List Int) : L.length * intK.m = L.length := Nat.mul_one _
theorem int_r {w : World} {b o k : Nat} {L : List Int} (h : ∀ q, q < L.length * intK.m → w.cell? ⟨b, o + q, none⟩ = some (cl intK L q)) (hk : k < L.length) : w.cell? ⟨b, o + k, none⟩ = some (.int .i64 (gt intK L k)) := by
  have h1 := h k (by rw [int_m]; exact hk)
  rw [int_c] at h1
  exact h1
theorem Try.infoInt : (Try.prog.info? 3).map (fun i => (i.zero, i.size, i.bytes)) = some (some (.int .i64 0), 1, 8) := by kernel_rfl
/-- kept where its own block is -/
theorem Ro.ko {α : Type} {K : Kd α} {e : TypeId} {base : Nat} {w w' : World} {v : Value} {L : List α} {P : Nat → Prop} (h : Ro K e base w v L) (k : Kq P w w') (hP : ∀ q, v.ownBlock = some q → ¬ P q) : Ro K e base w' v L := by
  refine ⟨h.1, ?_⟩
  rcases h.2 with hn | ⟨g, cap, cur, rfl, hg, hgg, rest⟩
  · exact .inl hn
  · exact .inr ⟨g, cap, cur, rfl, hg, (k.block g (Array.getElem?_eq_some_iff.1 hgg).1 (hP g rfl)).trans hgg, rest⟩
theorem Ro.ob {α : Type} {K : Kd α} {e : TypeId} {base : Nat} {w : World} {v : Value} {L : List α} (h : Ro K e base w v L) (q : Nat) (hq : v.ownBlock = some q) : base ≤ q ∧ q < w.heap.size := World.ownsRow.lt (w := w) h q hq
/-- two rows lie apart -/
def Dj (v v' : Value) : Prop := ∀ q, v.ownBlock = some q → v'.ownBlock ≠ some q
theorem Dj.nil (v : Value) : Dj (.slice none 0 0) v := fun q hq => by simp [Value.ownBlock] at hq
theorem Dj.symm {v v' : Value} (h : Dj v v') : Dj v' v := fun q hq e => h q e hq
theorem Dj.grow {v v' u : Value} {n : Nat} (h : Dj v u) (hb : v'.ownBlock = v.ownBlock ∨ ∃ k, v'.ownBlock = some k ∧ n ≤ k) (hu : ∀ q, u.ownBlock = some q → q < n) : Dj v' u := by
  intro q hq e
  rcases hb with hb | ⟨k, hb, hk⟩
  · exact h q (hb ▸ hq) e
  · have := hu q e
    rw [hb] at hq
    injection hq with hq
    omega
/-- a row of the call's own in block g -/
def Rb {α : Type} (K : Kd α) (base : Nat) (w : World) (a : Option Addr) (L : List α) (g : Nat) : Prop := L = [] ∨ (a = some ⟨g, 0, none⟩ ∧ base ≤ g ∧ Rg w g (L.length * K.m) (cl K L))
theorem Rb.rd {α : Type} {K : Kd α} {base g : Nat} {w : World} {a : Option Addr} {L : List α} (h : Rb K base w a L g) : Rd K w a L :=
  h.imp id fun ⟨e, _, h⟩ => ⟨g, 0, e, h.lt, fun q hq => by rw [Nat.zero_add]; exact h.c q hq⟩
theorem Rb.below {α : Type} {K : Kd α} {base g : Nat} {w w' : World} {a : Option Addr} {L : List α} (h : Rb K base w a L g) (hb : Below w.heap.size w w') : Rb K base w' a L g :=
  h.imp id fun ⟨e, l, h⟩ => ⟨e, l, h.below hb⟩
theorem Rb.kq {α : Type} {K : Kd α} {base g : Nat} {w w' : World} {a : Option Addr} {L : List α} {P : Nat → Prop} (h : Rb K base w a L g) (k : Kq P w w') (hP : ¬ P g) : Rb K base w' a L g :=
  h.imp id fun ⟨e, l, h⟩ => ⟨e, l, h.kept k.size (k.block g h.lt hP)⟩
theorem Rb.mono {α : Type} {K : Kd α} {base base' g : Nat} {w : World} {a : Option Addr} {L : List α} (h : Rb K base w a L g) (hb : base' ≤ base) : Rb K base' w a L g :=
  h.imp id fun ⟨e, l, h⟩ => ⟨e, Nat.le_trans hb l, h⟩
/-- a marked row in block g -/
def Rn (w : World) (a : Option Addr) (N : Nat) (f : Nat → Value) (g : Nat) : Prop := N = 0 ∨ (a = some ⟨g, 0, none⟩ ∧ Rg w g N f)
theorem Rn.below {w w' : World} {a : Option Addr} {N : Nat} {f : Nat → Value} {g : Nat} (h : Rn w a N f g) (hb : Below w.heap.size w w') : Rn w' a N f g := h.imp id fun ⟨e, h⟩ => ⟨e, h.below hb⟩
theorem Rn.kq {w w' : World} {a : Option Addr} {N : Nat} {f : Nat → Value} {g : Nat} {P : Nat → Prop} (h : Rn w a N f g) (k : Kq P w w') (hP : ¬ P g) : Rn w' a N f g := h.imp id fun ⟨e, h⟩ => ⟨e, h.kept k.size (k.block g h.lt hP)⟩
/-- where a row lies, n where it is of none -/
def blk {α : Type} (L : List α) (v : Value) (n : Nat) : Nat := if L = [] then n else v.ownBlock.getD n
theorem Ro.rb {α : Type} {K : Kd α} {e : TypeId} {base : Nat} {w : World} {v : Value} {L : List α} (h : Ro K e base w v L) (n : Nat) : ∃ a c, v = .slice a L.length c ∧ L.length ≤ c ∧ Rb K base w a L (blk L v n) ∧ (L ≠ [] → v.ownBlock = some (blk L v n)) := by
  obtain ⟨a, c, rfl, hc, hi⟩ := h.form
  refine ⟨a, c, rfl, hc, ?_⟩
  rcases hi with rfl | ⟨g, rfl, hg, hG⟩
  · exact ⟨Or.inl rfl, fun h => absurd rfl h⟩
  · unfold blk
    by_cases h0 : L = []
    · exact ⟨Or.inl h0, fun h => absurd h0 h⟩
    · rw [if_neg h0]
      exact ⟨Or.inr ⟨rfl, hg.1, hG⟩, fun _ => rfl⟩
/-- two rows that lie apart, in blocks that are not one -/
theorem blk_ne {α β : Type} {K : Kd α} {K' : Kd β} {e e' : TypeId} {base base' : Nat} {w : World} {v v' : Value} {L : List α} {L' : List β} (h : Ro K e base w v L) (h' : Ro K' e' base' w v' L') (hd : Dj v v') {n n' : Nat} (hn : w.heap.size ≤ n) (hn' : w.heap.size ≤ n') (hne : n ≠ n') : blk L v n ≠ blk L' v' n' := by
  obtain ⟨_, _, _, _, _, h1⟩ := h.rb n
  obtain ⟨_, _, _, _, _, h2⟩ := h'.rb n'
  by_cases e1 : L = []
  · have b1 : blk L v n = n := by unfold blk; rw [if_pos e1]
    by_cases e2 : L' = []
    · have b2 : blk L' v' n' = n' := by unfold blk; rw [if_pos e2]
      omega
    · have := (h'.ob _ (h2 e2)).2
      omega
  · have l1 := (h.ob _ (h1 e1)).2
    by_cases e2 : L' = []
    · have b2 : blk L' v' n' = n' := by unfold blk; rw [if_pos e2]
      omega
    · intro e
      exact hd _ (h1 e1) (e ▸ h2 e2)
/-- the marks of a row, from k0 on -/
def intM (k0 o : Nat) : Value := .int .i64 ((k0 + o : Nat) : Int)
theorem Rb.pl {α : Type} {K : Kd α} {base g : Nat} {w : World} {a : Option Addr} {L : List α} (h : Rb K base w a L g) (hn : L ≠ []) : base ≤ g ∧ g < w.heap.size := by
  rcases h with h | ⟨_, h1, h2⟩
  · exact absurd h hn
  · exact ⟨h1, h2.lt⟩
theorem Kq.top {P : Nat → Prop} {w w' : World} {n : Nat} (h : Kq (fun q => n ≤ q) w w') (hn : w.heap.size ≤ n) : Kq P w w' := ⟨h.os, h.tape, h.output, h.size, fun q hq _ => h.block q hq (fun p => by omega)⟩
theorem Rb.kz {α : Type} {K : Kd α} {base g : Nat} {w w' : World} {a : Option Addr} {L : List α} {P : Nat → Prop} (h : Rb K base w a L g) (k : Kq P w w') (hP : L ≠ [] → ¬ P g) : Rb K base w' a L g := by
  by_cases h0 : L = []
  · exact Or.inl h0
  · exact h.kq k (hP h0)
theorem Rn.kz {w w' : World} {a : Option Addr} {N : Nat} {f : Nat → Value} {g : Nat} {P : Nat → Prop} (h : Rn w a N f g) (k : Kq P w w') (hP : N ≠ 0 → ¬ P g) : Rn w' a N f g := by
  by_cases h0 : N = 0
  · exact Or.inl h0
  · exact h.kq k (hP h0)
theorem Ro.blk_ge {α : Type} {K : Kd α} {e : TypeId} {base : Nat} {w : World} {v : Value} {L : List α} (h : Ro K e base w v L) {n : Nat} (hn : base ≤ n) : base ≤ blk L v n := by
  obtain ⟨_, _, _, _, _, h1⟩ := h.rb n
  by_cases e1 : L = []
  · unfold blk
    rw [if_pos e1]
    exact hn
  · exact (h.ob _ (h1 e1)).1
theorem Ro.blk_or {α : Type} {K : Kd α} {e : TypeId} {base : Nat} {w : World} {v : Value} {L : List α} (h : Ro K e base w v L) (n : Nat) : blk L v n = n ∨ (base ≤ blk L v n ∧ blk L v n < w.heap.size) := by
  obtain ⟨_, _, _, _, _, h1⟩ := h.rb n
  by_cases e1 : L = []
  · refine Or.inl ?_
    unfold blk
    rw [if_pos e1]
  · exact Or.inr (h.ob _ (h1 e1))
theorem Bx.kq {P : Nat → Prop} {w w' : World} {g : Nat} {cs : List Value} (h : Bx w g cs) (k : Kq P w w') (hP : ¬ P g) : Bx w' g cs := h.kept k.size (k.block g h.lt hP)
end Go.Proofs.Ytagnkelpdgpigaa.Rc
