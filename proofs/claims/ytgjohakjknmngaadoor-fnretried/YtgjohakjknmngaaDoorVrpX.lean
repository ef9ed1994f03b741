/-
  Contracts: small things that VersionAnswer's law asks for: a number looked for in a list, copies of lists and texts, marks. Contracts: the laws' own copies of lists and headers as rows of their own, their marks, and how they are held against each other where one may be empty. Contracts: two headers held against each other.
-/
import Derived.Test.YtgjohakjknmngaaDoorIntsX
import Derived.Test.YtgjohakjknmngaaDoorShelf
import Derived.Deep.AppendLies
namespace Go.Proofs.YtgjohakjknmngaaDoor
open Go.ChangeShapes Go.WideShapes Go.ChangeAt Go.RowKit
set_option linter.unusedVariables false
set_option maxRecDepth 100000

/-- the first n of some numbers, as a list -/
def ls (V : Nat → Int) (n : Nat) : List Int := (List.range n).map V
theorem ls_length (V : Nat → Int) (n : Nat) : (ls V n).length = n := by simp [ls]
theorem ls_getD (V : Nat → Int) (n j : Nat) (h : j < n) : (ls V n).getD j 0 = V j := by simp [ls, List.getD, h]
/-- x is among the first n -/
def has (V : Nat → Int) (n : Nat) (x : Int) : Bool := (ls V n).contains x
theorem has_no {V : Nat → Int} {n : Nat} {x : Int} (h : ∀ j, j < n → (V j == x) = false) : has V n x = false := by
  unfold has
  rw [Bool.eq_false_iff]
  intro q
  rw [List.contains_iff_mem] at q
  obtain ⟨j, hj, e⟩ := List.mem_map.1 q
  have := h j (List.mem_range.1 hj)
  rw [e] at this
  simp at this
theorem has_yes {V : Nat → Int} {n k : Nat} {x : Int} (hk : k < n) (h : V k = x) : has V n x = true := by
  unfold has
  rw [List.contains_iff_mem]
  exact List.mem_map.2 ⟨k, List.mem_range.2 hk, h⟩

/-- a row of n numbers of the call's own, in block g, which was new at 'base' -/
structure Iw (w : World) (base g n : Nat) (V : Nat → Int) : Prop where
  ge : base ≤ g
  lt : g < w.heap.size
  cv : ∀ i, i < n → w.cell? ⟨g, i, none⟩ = some (.int .i64 (V i))
  bv : ∀ i, i < n → -9223372036854775808 ≤ V i ∧ V i ≤ 9223372036854775807
  fz : ∀ o, w.frozen? ⟨g, o, none⟩ = false
theorem Iw.ir {w : World} {base g n : Nat} {V : Nat → Int} (h : Iw w base g n V) : Ir w g 0 n V := ⟨Or.inr h.lt, fun i hi => by rw [Nat.zero_add]; exact h.cv i hi, h.bv⟩
theorem Iw.below {w w' : World} {base g n : Nat} {V : Nat → Int} (h : Iw w base g n V) (hb : Below w.heap.size w w') : Iw w' base g n V :=
  ⟨h.ge, Nat.lt_of_lt_of_le h.lt hb.size, fun i hi => (hb.cell (p := ⟨g, i, none⟩) h.lt).trans (h.cv i hi), h.bv, fun o => (hb.frozen (p := ⟨g, o, none⟩) h.lt).trans (h.fz o)⟩
theorem Iw.of_own {w : World} {base n : Nat} {V : Nat → Int} {v : Value} (h : w.ownsRow base 3 1 v n ((ls V n).map (Value.int .i64))) (hn : 1 ≤ n) (hV : ∀ i, i < n → -9223372036854775808 ≤ V i ∧ V i ≤ 9223372036854775807) :
    ∃ g cap, v = .slice (some ⟨g, 0, none⟩) n cap ∧ n ≤ cap ∧ Iw w base g n V := by
  rcases h.2 with ⟨_, e⟩ | ⟨g, cap, cur, rfl, hb, hg, hc, hm, hs, ht⟩
  · omega
  · have hl := ls_length V n
    refine ⟨g, cap, rfl, hc, hb, ?_, ?_, hV, ?_⟩
    · rcases Nat.lt_or_ge g w.heap.size with h' | h'
      · exact h'
      · rw [Array.getElem?_eq_none h'] at hg; cases hg
    · intro i hi
      rw [cell_of_row w g i cur 3 (0, 0) hg]
      have h1 : (cur.toList.take (n * 1))[i]? = ((ls V n).map (Value.int .i64))[i]? := by rw [ht]
      rw [List.getElem?_take, if_pos (by omega), List.getElem?_map] at h1
      rw [← Array.getElem?_toList, h1, List.getElem?_eq_getElem (by omega)]
      simp [ls]
    · exact fun o => frozen_of_row w g o cur _ hg
theorem clone_text (s : ByteArray) (w : World) (hs : s.size ≤ 1048576) :
    Calls Tryd.prog 16 #[.string s] w fun e w' => e = .returned (.string s) ∧ Below w.heap.size w w' := by
  have HC := hide (fun W => Tryd.stringslite_Clone s W (by omega))
  go_enter Tryd.func16, Tryd.ntmps16
  go_wp2_with (go_at_call 30; refine (unhide HC _).mono ?_; rintro e w1 ⟨rfl, hb1⟩)
  go_ret
  exact ⟨rfl, hb1⟩
end Go.Proofs.YtgjohakjknmngaaDoor
namespace Go.Proofs.YtgjohakjknmngaaDoor
open Go.ChangeShapes Go.WideShapes Go.ChangeAt Go.RowKit
set_option linter.unusedVariables false
set_option maxRecDepth 100000

theorem Iw.setOther {w : World} {base g n : Nat} {V : Nat → Int} {a : Addr} {u : Value} (h : Iw w base g n V) (hne : a.block ≠ g) : Iw (w.setCell a u) base g n V := by
  refine ⟨h.ge, by simpa using h.lt, fun i hi => ?_, h.bv, fun o => by rw [frozen_set]; exact h.fz o⟩
  rw [World.cell?_setCell_other _ _ _ _ (by intro e; rw [e] at hne; simp at hne)]; exact h.cv i hi

/-- the marks k, k + 1, .. -/
def mks (k : Int) (i : Nat) : Int := k + i
/-- all but block g is as it was -/
structure Kb (g : Nat) (w w' : World) : Prop where
  os : w'.os = w.os
  tape : w'.tape = w.tape
  output : w'.output = w.output
  size : w'.heap.size = w.heap.size
  block : ∀ k, k ≠ g → w'.heap[k]? = w.heap[k]?
theorem Kb.below {g : Nat} {w w' : World} (h : Kb g w w') {base : Nat} (hb : base ≤ g) : Below base w w' :=
  ⟨h.os, h.tape, h.output, Nat.le_of_eq h.size.symm, fun k hk => h.block k (by omega)⟩
theorem Kb.iw {g : Nat} {w w' : World} (h : Kb g w w') {base g' n : Nat} {V : Nat → Int} (hI : Iw w base g' n V) (hne : g' ≠ g) : Iw w' base g' n V := by
  have e := h.block g' hne
  exact ⟨hI.ge, by rw [h.size]; exact hI.lt, fun i hi => (World.cell?_of_block (a := ⟨g', i, none⟩) e).trans (hI.cv i hi), hI.bv, fun o => (World.frozen?_of_block (a := ⟨g', o, none⟩) e).trans (hI.fz o)⟩
theorem Kb.refl (g : Nat) (w : World) : Kb g w w := ⟨rfl, rfl, rfl, rfl, fun _ _ => rfl⟩
theorem Kb.set {g q : Nat} {w w' : World} {u : Value} (h : Kb g w w') : Kb g w (w'.setCell ⟨g, q, none⟩ u) :=
  ⟨h.os, h.tape, h.output, by simpa using h.size, fun k hk => (Below.heap_setCell w' ⟨g, q, none⟩ u k hk).trans (h.block k hk)⟩
/-- the first q are marked -/
def mx (k0 : Int) (V : Nat → Int) (q j : Nat) : Int := if j < q then k0 + j else V j
theorem Iw.mark {w : World} {base g n q : Nat} {V : Nat → Int} {k0 : Int} (h : Iw w base g n (mx k0 V q)) (hq : q < n) (hk0 : 0 ≤ k0) (hk1 : k0 ≤ 10000000) (hn : n ≤ 1048576) : Iw (w.setCell ⟨g, q, none⟩ (.int .i64 (k0 + q))) base g n (mx k0 V (q + 1)) := by
  refine ⟨h.ge, by simpa using h.lt, fun i hi => ?_, fun i hi => ?_, fun o => by rw [frozen_set]; exact h.fz o⟩
  · by_cases e : i = q
    · subst e
      rw [World.cell?_setCell_same _ _ _ (h.cv i hi)]
      simp [mx]
    · rw [World.cell?_setCell_other _ _ _ _ (by intro e'; simp at e' <;> omega), h.cv i hi]
      unfold mx
      by_cases l : i < q
      · rw [if_pos l, if_pos (by omega)]
      · rw [if_neg l, if_neg (by omega)]
  · have := h.bv i hi
    unfold mx at this ⊢
    by_cases l : i < q + 1
    · rw [if_pos l]; omega
    · rw [if_neg l]; rw [if_neg (by omega)] at this; exact this
theorem Iw.congr {w : World} {base g n : Nat} {V V' : Nat → Int} (h : Iw w base g n V) (e : ∀ i, i < n → V i = V' i) : Iw w base g n V' :=
  ⟨h.ge, h.lt, fun i hi => by rw [← e i hi]; exact h.cv i hi, fun i hi => by rw [← e i hi]; exact h.bv i hi, h.fz⟩
/-- a list handed out: nothing, or a row of the call's own -/
def Io (w : World) (base : Nat) (ra : Option Addr) (n cap : Nat) (V : Nat → Int) : Prop := (ra = none ∧ n = 0) ∨ ∃ g, ra = some ⟨g, 0, none⟩ ∧ Iw w base g n V
end Go.Proofs.YtgjohakjknmngaaDoor
namespace Go.Proofs.YtgjohakjknmngaaDoor
open Go.ChangeShapes Go.WideShapes Go.ChangeAt Go.RowKit
set_option linter.unusedVariables false
set_option maxRecDepth 100000

set_option maxHeartbeats 1000000 in
theorem sameInts_yes (b off n cap b' off' cap' : Nat) (V : Nat → Int) (w : World) (hn : n ≤ 1048576) (h : Ir w b off n V) (h' : Ir w b' off' n V) :
    Calls Tryd.prog 21 #[.slice (some ⟨b, off, none⟩) n cap, .slice (some ⟨b', off', none⟩) n cap'] w fun e w' => e = .returned (.bool true) ∧ Below w.heap.size w w' := by
  have HR := hide h
  have HR' := hide h'
  clear h h'
  go_enter Tryd.func21, Tryd.ntmps21
  go_wp2
  go_loopw [13] (fun i wr => ∃ k : Nat, k ≤ n ∧ i = .int .i64 k ∧ Below w.heap.size w wr) (fun i _ => n - (intOf i).toNat)
  case atStart => exact ⟨0, Nat.zero_le _, rfl, Below.refl _ _⟩
  case round =>
    obtain ⟨k, hk, rfl, hbel⟩ := hrel
    by_cases hlt : k < n
    · have hR := (unhide HR).below hbel
      have hcf := hR.cv k hlt
      have hR' := (unhide HR').below hbel
      have hcf' := hR'.cv k hlt
      have hnk : (k : Int) < (n : Int) := by omega
      have hk0 : (0 : Int) ≤ (k : Int) := by omega
      go_wp2_with fail
      go_quiet (fail)
      all_goals
        go_wp2
        exact ⟨⟨k + 1, by omega, by go_num, below_drewN hbel _⟩, by simp [intOf]; omega⟩
    · go_wp2
      go_ret
      exact ⟨rfl, hbel⟩
theorem sameInts_nil (a a' : Option Addr) (cap cap' : Nat) (w : World) :
    Calls Tryd.prog 21 #[.slice a 0 cap, .slice a' 0 cap'] w fun e w' => e = .returned (.bool true) ∧ Below w.heap.size w w' := by
  go_enter Tryd.func21, Tryd.ntmps21
  go_wp2
  go_loopw [13] (fun i wr => i = .int .i64 0 ∧ Below w.heap.size w wr) (fun i _ => 0)
  case atStart => exact ⟨rfl, Below.refl _ _⟩
  case round =>
    obtain ⟨rfl, hbel⟩ := hrel
    go_wp2
    go_ret
    exact ⟨rfl, hbel⟩
theorem sameInts_any (a a' : Option Addr) (n cap cap' : Nat) (V : Nat → Int) (w : World) (hn : n ≤ 1048576) (h : Ia w a n cap V) (h' : Ia w a' n cap' V) :
    Calls Tryd.prog 21 #[.slice a n cap, .slice a' n cap'] w fun e w' => e = .returned (.bool true) ∧ Below w.heap.size w w' := by
  rcases h with h0 | ⟨b, off, rfl, h⟩
  · subst h0
    exact sameInts_nil a a' cap cap' w
  · rcases h' with h0 | ⟨b', off', rfl, h'⟩
    · subst h0
      exact sameInts_nil _ a' cap cap' w
    · exact sameInts_yes b off n cap b' off' cap' V w hn h h'
set_option maxHeartbeats 1000000 in
theorem sameHd (f bi ve : Int) (d s t p : ByteArray) (ra ra' : Option Addr) (n cap cap' : Nat) (V : Nat → Int) (w : World) (hn : n ≤ 1048576) (h : Ia w ra n cap V) (h' : Ia w ra' n cap' V) :
    Calls Tryd.prog 7 #[hv f bi ve d s t p ra n cap, hv f bi ve d s t p ra' n cap'] w fun e w' => e = .returned (.bool true) ∧ Below w.heap.size w w' := by
  have HS := hide (fun (W : World) (b : Below w.heap.size w W) => sameInts_any ra ra' n cap cap' V W hn (h.below b) (h'.below b))
  clear h h'
  go_enter Tryd.func7, Tryd.ntmps7
  go_wp2_with fail
  refine (unhide HS _ (((Below.refl _ _).alloc (Nat.le_refl _) _).alloc (by simp) _)).mono ?_
  rintro e w2 ⟨rfl, b2⟩
  go_wp2
  go_ret
  exact ⟨rfl, (((Below.refl _ _).alloc (Nat.le_refl _) _).alloc (by simp) _).trans (b2.mono (by simp; omega))⟩
end Go.Proofs.YtgjohakjknmngaaDoor
