/-
  Rows of texts: held against each other, marked, held; the marks themselves.
-/
import Derived.Test.YtgieglpjkjncfaaBase
import Derived.Laws.Concat
import Derived.Deep.RegionHeld3
import Derived.Deep.DeepCutAuto
import Derived.Deep.QuietTactic
import Derived.BigQuiet
namespace Go.Proofs.Ytgieglpjkjncfaa
open Go.ChangeShapes Go.WideShapes Go.ChangeAt Go.RowKit
set_option linter.unusedVariables false
set_option maxRecDepth 100000

/-- a number's digits ahead of a text -/
def mtG : Nat → Nat → ByteArray → ByteArray
  | 0, _, o => o
  | f + 1, k, o => if k = 0 then o else mtG f (k / 10) (⟨#[UInt8.ofNat (48 + k % 10)]⟩ ++ o)
theorem mtG_zero (f : Nat) (o : ByteArray) : mtG f 0 o = o := by
  cases f with
  | zero => rfl
  | succ f => rw [mtG, if_pos rfl]
/-- a mark -/
def mtT (k : Nat) : ByteArray := ⟨#[109]⟩ ++ mtG k k ⟨#[]⟩
set_option maxHeartbeats 1000000 in
theorem markText_any (k : Nat) (hk : 1 ≤ k) (hk2 : k ≤ 1000000000) (w : World) :
    Calls Try.prog 26 #[.int .i64 k] w fun e w' => e = .returned (.string (mtT k)) ∧ Below w.heap.size w w' := by
  unfold mtT
  obtain ⟨R, hR⟩ : ∃ R, mtG k k ⟨#[]⟩ = R := ⟨_, rfl⟩
  have HR := hide hR
  rw [hR]
  clear hR
  have hk0 : ¬ (k : Int) ≤ 0 := by omega
  go_enter Try.func26, Try.ntmps26
  go_wp2_with fail
  go_loopw [0, 3] (fun kv ov wr => ∃ (f j : Nat) (o : ByteArray), kv = .int .i64 j ∧ ov = .string o ∧ j ≤ f ∧ o.size + j ≤ k ∧ Hid (mtG f j o = R) ∧ Below w.heap.size w wr) (fun kv _ _ => (intOf kv).toNat)
  case atStart => exact ⟨k, k, ⟨#[]⟩, rfl, rfl, Nat.le_refl _, by show 0 + k ≤ k; omega, HR, Below.refl _ _⟩
  case round =>
    obtain ⟨f, j, o, rfl, rfl, hjf, hoj, hm, hB⟩ := hrel
    have HB := hide hB
    clear hB
    by_cases hj : j = 0
    · subst hj
      have e := unhide hm
      rw [mtG_zero] at e
      subst e
      have ad := fun W : World => run_string_add_sum (P := Try.prog) (w := W) (⟨#[109]⟩ : ByteArray) o (by show 1 + o.size ≤ _; omega)
      clear hm HR
      go_wp2
      go_ret
      exact ⟨rfl, unhide HB⟩
    · obtain ⟨f, rfl⟩ : ∃ f', f = f' + 1 := ⟨f - 1, by omega⟩
      have hj0 : (0 : Int) < (j : Int) := by omega
      have hm2 : Hid (mtG f (j / 10) (⟨#[UInt8.ofNat (48 + j % 10)]⟩ ++ o) = R) := by
        have e := unhide hm
        rw [mtG, if_neg hj] at e
        exact e
      clear hm
      have hd : j % 10 < 10 := Nat.mod_lt _ (by omega)
      have hst : (convert 67 9 (.slice (some ⟨wr.heap.size, 0, none⟩) 1 1)).run Try.prog (wr.alloc (.cells #[.int .u8 (48 + (j : Int) % 10)] 5)) = .ok (.string ⟨#[UInt8.ofNat (48 + j % 10)]⟩) (wr.alloc (.cells #[.int .u8 (48 + (j : Int) % 10)] 5)) := run_convert_bytes_back (P := Try.prog) (wr.alloc (.cells #[.int .u8 (48 + (j : Int) % 10)] 5)) 67 9 5 ⟨wr.heap.size, 0, none⟩ 1 [UInt8.ofNat (48 + j % 10)] Try.underlying67 Try.underlying5 Try.underlying9 (by
        intro i hi
        simp at hi
        subst hi
        have e9 : (UInt8.ofNat (48 + j % 10)).toNat = 48 + j % 10 := by rw [UInt8.toNat_ofNat']; omega
        have e8 : (((UInt8.ofNat (48 + j % 10)).toNat : Nat) : Int) = 48 + (j : Int) % 10 := by rw [e9]; omega
        simp only [Addr.add_lit, List.getElem_singleton, e8]
        simp)
      have ad := fun W : World => run_string_add_sum (P := Try.prog) (w := W) (⟨#[UInt8.ofNat (48 + j % 10)]⟩ : ByteArray) o (by show 1 + o.size ≤ _; omega)
      generalize UInt8.ofNat (48 + j % 10) = u at *
      have hsz : ((⟨#[u]⟩ : ByteArray) ++ o).size = 1 + o.size := by rw [ByteArray.size_append]; rfl
      have HA := hide ((unhide HB).alloc (unhide HB).size (.cells #[.int .u8 (48 + (j : Int) % 10)] 5))
      generalize (⟨#[u]⟩ : ByteArray) ++ o = o2 at *
      go_wp2
      exact ⟨⟨f, j / 10, o2, by go_num, rfl, by omega, by omega, hm2, unhide HA⟩, by simp [intOf]; omega⟩
/-- a row of texts to be read -/
structure Sr (w : World) (b o n : Nat) (F : Nat → ByteArray) : Prop where
  lt : b < w.heap.size
  c : ∀ i, i < n → w.cell? ⟨b, o + i, none⟩ = some (.string (F i))
theorem Sr.kept {w w' : World} {b o n : Nat} {F : Nat → ByteArray} (h : Sr w b o n F) (hb : Below w.heap.size w w') : Sr w' b o n F := by
  obtain ⟨hc, hf⟩ := bcell hb
  exact ⟨Nat.lt_of_lt_of_le h.lt hb.size, fun i hi => (hc _ _ h.lt).trans (h.c i hi)⟩
/-- a slice of texts -/
def Sa (w : World) (a : Option Addr) (n : Nat) (F : Nat → ByteArray) : Prop := n = 0 ∨ ∃ b o, a = some ⟨b, o, none⟩ ∧ Sr w b o n F
theorem Sa.kept {w w' : World} {a : Option Addr} {n : Nat} {F : Nat → ByteArray} (h : Sa w a n F) (hb : Below w.heap.size w w') : Sa w' a n F := by
  rcases h with h | ⟨b, o, e, h⟩
  · exact Or.inl h
  · exact Or.inr ⟨b, o, e, h.kept hb⟩
/-- a row of texts of the call's own, that may be written -/
structure Sw (base : Nat) (w : World) (g n : Nat) (F : Nat → ByteArray) : Prop where
  ge : base ≤ g
  lt : g < w.heap.size
  c : ∀ i, i < n → w.cell? ⟨g, i, none⟩ = some (.string (F i))
  fz : ∀ i, i < n → w.frozen? ⟨g, i, none⟩ = false
theorem Sw.kept {base : Nat} {w w' : World} {g n : Nat} {F : Nat → ByteArray} (h : Sw base w g n F) (hb : Below w.heap.size w w') : Sw base w' g n F := by
  obtain ⟨hc, hf⟩ := bcell hb
  exact ⟨h.ge, Nat.lt_of_lt_of_le h.lt hb.size, fun i hi => (hc _ _ h.lt).trans (h.c i hi), fun i hi => (hf _ _ h.lt).trans (h.fz i hi)⟩
def Sn (base : Nat) (w : World) (a : Option Addr) (n : Nat) (F : Nat → ByteArray) : Prop := n = 0 ∨ ∃ g, a = some ⟨g, 0, none⟩ ∧ Sw base w g n F
theorem Sn.kept {base : Nat} {w w' : World} {a : Option Addr} {n : Nat} {F : Nat → ByteArray} (h : Sn base w a n F) (hb : Below w.heap.size w w') : Sn base w' a n F := by
  rcases h with h | ⟨g, e, h⟩
  · exact Or.inl h
  · exact Or.inr ⟨g, e, h.kept hb⟩
theorem Sn.sa {base : Nat} {w : World} {a : Option Addr} {n : Nat} {F : Nat → ByteArray} (h : Sn base w a n F) : Sa w a n F := by
  rcases h with h | ⟨g, e, h⟩
  · exact Or.inl h
  · exact Or.inr ⟨g, 0, e, h.lt, fun i hi => by rw [Nat.zero_add]; exact h.c i hi⟩
/-- all that was there but the slice's own row is kept -/
structure Kg (a : Option Addr) (w w' : World) : Prop where
  os : w'.os = w.os
  tape : w'.tape = w.tape
  output : w'.output = w.output
  size : w.heap.size ≤ w'.heap.size
  block : ∀ k, k < w.heap.size → (∀ g, a = some ⟨g, 0, none⟩ → k ≠ g) → w'.heap[k]? = w.heap[k]?
theorem Kg.refl (a : Option Addr) (w : World) : Kg a w w := ⟨rfl, rfl, rfl, Nat.le_refl _, fun _ _ _ => rfl⟩
theorem Kg.trans {a : Option Addr} {w w1 w2 : World} (h : Kg a w w1) (k : Kg a w1 w2) : Kg a w w2 :=
  ⟨k.os.trans h.os, k.tape.trans h.tape, k.output.trans h.output, Nat.le_trans h.size k.size, fun q hq hn => (k.block q (Nat.lt_of_lt_of_le hq h.size) hn).trans (h.block q hq hn)⟩
theorem Kg.of {a : Option Addr} {w w' : World} (h : Below w.heap.size w w') : Kg a w w' := ⟨h.os, h.tape, h.output, h.size, fun k hk _ => h.block k hk⟩
theorem Kg.set {g i : Nat} {w w' : World} {u : Value} (h : Kg (some ⟨g, 0, none⟩) w w') : Kg (some ⟨g, 0, none⟩) w (w'.setCell ⟨g, i, none⟩ u) :=
  ⟨h.os, h.tape, h.output, by simpa [World.setCell] using h.size, fun k hk hn => (Below.heap_setCell w' ⟨g, i, none⟩ u k (hn g rfl)).trans (h.block k hk hn)⟩
theorem Kg.sr {a : Option Addr} {w w' : World} {b o n : Nat} {F : Nat → ByteArray} (h : Kg a w w') (hI : Sr w b o n F) (hne : ∀ g, a = some ⟨g, 0, none⟩ → b ≠ g) : Sr w' b o n F := by
  have e := h.block b hI.lt hne
  exact ⟨Nat.lt_of_lt_of_le hI.lt h.size, fun i hi => (World.cell?_of_block (a := ⟨b, o + i, none⟩) e).trans (hI.c i hi)⟩
theorem Kg.below {a : Option Addr} {w w' : World} {base : Nat} (h : Kg a w w') (hb : base ≤ w.heap.size) (hg : ∀ g, a = some ⟨g, 0, none⟩ → base ≤ g) : Below base w w' :=
  ⟨h.os, h.tape, h.output, h.size, fun k hk => h.block k (by omega) (fun g e => by have := hg g e; omega)⟩
/-- the marks k, k + 1, .. -/
def mkS (k i : Nat) : ByteArray := mtT (k + i)
/-- the first i places of f, the others of g -/
def stS (f g : Nat → ByteArray) (k i : Nat) : ByteArray := if i < k then f i else g i
end Go.Proofs.Ytgieglpjkjncfaa
