/-
  Contracts: lists of numbers: the laws' own copies of them, and how they are held against each other. Contracts: the laws' own copies of headers, and how they are held against each other. Contract: the model's look at a header. Contract: the model's look at a header, case by case. Contracts: the model's GoodHeader by cases, whatever slice holds the versions. Contract: the model's GoodHeader of an answer with no version. Contract: the model's look at a header: it answers 'gh'.
-/
import Derived.Test.YtgjohakjknmngaaDoorBase
import Derived.Deep.QuietTactic
import Derived.BigQuiet
import Derived.Laws.ResultCell
import Derived.Deep.RegionWith
import Derived.Carry
namespace Go.Proofs.YtgjohakjknmngaaDoor
open Go.ChangeShapes Go.WideShapes Go.ChangeAt Go.RowKit
set_option linter.unusedVariables false
set_option maxRecDepth 100000

/-- A slice of n numbers: nil, or cells that hold each. -/
structure Ir (w : World) (b off n : Nat) (V : Nat → Int) : Prop where
  lt : n = 0 ∨ b < w.heap.size
  cv : ∀ i, i < n → w.cell? ⟨b, off + i, none⟩ = some (.int .i64 (V i))
  bv : ∀ i, i < n → -9223372036854775808 ≤ V i ∧ V i ≤ 9223372036854775807
theorem Ir.below {w w' : World} {b off n : Nat} {V : Nat → Int} (h : Ir w b off n V) (hb : Below w.heap.size w w') : Ir w' b off n V := by
  refine ⟨?_, ?_, h.bv⟩
  · rcases h.lt with h1 | h1
    · exact Or.inl h1
    · exact Or.inr (Nat.lt_of_lt_of_le h1 hb.size)
  · intro i hi
    rcases h.lt with h1 | h1
    · omega
    · exact (hb.cell (p := ⟨b, off + i, none⟩) h1).trans (h.cv i hi)
theorem Ir.alloc {w : World} {b off n : Nat} {V : Nat → Int} (h : Ir w b off n V) (o : Obj) : Ir (w.alloc o) b off n V := h.below ((Below.refl _ _).alloc (Nat.le_refl _) _)
theorem Ir.setOther {w : World} {b off n : Nat} {V : Nat → Int} {a : Addr} {u : Value} (h : Ir w b off n V) (hne : a.block ≠ b) : Ir (w.setCell a u) b off n V := by
  refine ⟨?_, ?_, h.bv⟩
  · rcases h.lt with h1 | h1
    · exact Or.inl h1
    · exact Or.inr (by simpa using h1)
  · intro i hi
    rw [World.cell?_setCell_other _ _ _ _ (by intro e; rw [e] at hne; simp at hne)]; exact h.cv i hi
/-- A slice of numbers that came in: empty, or as 'Ir' says. -/
def Ia (w : World) (a : Option Addr) (n cap : Nat) (V : Nat → Int) : Prop := n = 0 ∨ ∃ b off, a = some ⟨b, off, none⟩ ∧ Ir w b off n V
theorem Ia.below {w w' : World} {a : Option Addr} {n cap : Nat} {V : Nat → Int} (h : Ia w a n cap V) (hb : Below w.heap.size w w') : Ia w' a n cap V := by
  rcases h with h | ⟨b, off, e, h⟩
  · exact Or.inl h
  · exact Or.inr ⟨b, off, e, h.below hb⟩

/-- A slice of numbers in the making: k of n are laid. -/
structure Mi (w wr : World) (n k : Nat) (V : Nat → Int) : Prop where
  bel : Below w.heap.size w wr
  lt : w.heap.size < wr.heap.size
  cf : ∀ j, j < k → wr.cell? ⟨w.heap.size, j, none⟩ = some (.int .i64 (V j))
  rf : ∀ j, j < n → (wr.cell? ⟨w.heap.size, j, none⟩).isSome = true
  fz : ∀ o, wr.frozen? ⟨w.heap.size, o, none⟩ = false
theorem isSome_set {w : World} {a p : Addr} {u : Value} (h : (w.cell? p).isSome = true) : ((w.setCell a u).cell? p).isSome = true := by
  by_cases e : a = p
  · subst e
    obtain ⟨v, hv⟩ := Option.isSome_iff_exists.1 h
    rw [World.cell?_setCell_same _ _ _ hv]; rfl
  · rw [World.cell?_setCell_other _ _ _ _ e]; exact h
theorem frozen_set (w : World) (a p : Addr) (u : Value) : (w.setCell a u).frozen? p = w.frozen? p := by simp
theorem Mi.step {w wr : World} {n k : Nat} {V : Nat → Int} (h : Mi w wr n k V) (hk : k < n) : Mi w (wr.setCell ⟨w.heap.size, k, none⟩ (.int .i64 (V k))) n (k + 1) V := by
  obtain ⟨v0, e0⟩ := Option.isSome_iff_exists.1 (h.rf k hk)
  refine ⟨h.bel.setCell (Nat.le_refl _) _, by simpa using h.lt, ?_, ?_, ?_⟩
  · intro j hj
    by_cases e : j = k
    · subst e; exact World.cell?_setCell_same _ _ _ e0
    · rw [World.cell?_setCell_other _ _ _ _ (by intro e; simp at e <;> omega)]; exact h.cf j (by omega)
  · intro j hj; exact isSome_set (h.rf j hj)
  · intro o; rw [frozen_set]; exact h.fz o

theorem infoI : (Tryd.prog.info? 3).map (fun i => (i.zero, i.size, i.bytes)) = some (some (.int .i64 0), 1, 8) := by kernel_rfl
theorem infoI_parts : ∃ i0, Tryd.prog.info? 3 = some i0 ∧ i0.zero = some (.int .i64 0) ∧ i0.size = 1 ∧ i0.bytes = 8 := by
  have h := infoI
  cases e : Tryd.prog.info? 3 with
  | none => rw [e] at h; cases h
  | some i0 => rw [e] at h; simp at h; exact ⟨i0, rfl, h.1, h.2.1, h.2.2⟩

end Go.Proofs.YtgjohakjknmngaaDoor
namespace Go.Proofs.YtgjohakjknmngaaDoor
open Go.ChangeShapes Go.WideShapes Go.ChangeAt Go.RowKit
set_option linter.unusedVariables false
set_option maxRecDepth 100000

/-- a header, as a value -/
abbrev hv (f bi ve : Int) (d s t p : ByteArray) (ra : Option Addr) (n cap : Nat) : Value := .agg #[.int .i64 f, .int .i64 bi, .int .i64 ve, .string d, .string s, .string t, .string p, .slice ra n cap]

end Go.Proofs.YtgjohakjknmngaaDoor
namespace Go.Proofs.YtgjohakjknmngaaDoor
open Go.ChangeShapes Go.WideShapes Go.ChangeAt Go.RowKit
set_option linter.unusedVariables false
set_option maxRecDepth 100000

theorem in_yes (n lo hi : Int) (w : World) (h0 : lo ≤ n) (h1 : n ≤ hi) :
    Calls Tryd.prog 18 #[.int .i64 n, .int .i64 lo, .int .i64 hi] w fun e w' => e = .returned (.bool true) ∧ w' = w := by
  go_enter Tryd.func18, Tryd.ntmps18
  go_wp2
  go_ret
  exact ⟨rfl, rfl⟩
theorem in_no (n lo hi : Int) (w : World) (h : ¬ (lo ≤ n ∧ n ≤ hi)) :
    Calls Tryd.prog 18 #[.int .i64 n, .int .i64 lo, .int .i64 hi] w fun e w' => e = .returned (.bool false) ∧ w' = w := by
  by_cases h1 : lo ≤ n
  · have h2 : ¬ n ≤ hi := fun q => h ⟨h1, q⟩
    clear h
    go_enter Tryd.func18, Tryd.ntmps18
    go_wp2
    go_ret
    exact ⟨rfl, rfl⟩
  · clear h
    go_enter Tryd.func18, Tryd.ntmps18
    go_wp2
    go_ret
    exact ⟨rfl, rfl⟩
def okW (lo v : Int) : Bool := decide (lo ≤ v ∧ v ≤ 4294967295)
theorem word_yes (v : Int) (w : World) (h : okW 0 v = true) :
    Calls Tryd.prog 31 #[.int .i64 v] w fun e w' => e = .returned (.bool true) ∧ w' = w := by
  simp [okW] at h
  go_enter Tryd.func31, Tryd.ntmps31
  go_wp2_with (go_at_call 18; refine (in_yes _ _ _ _ (by omega) (by omega)).mono ?_; rintro e w' ⟨rfl, rfl⟩)
  go_ret
  exact ⟨rfl, rfl⟩
theorem word_no (v : Int) (w : World) (h : okW 0 v = false) :
    Calls Tryd.prog 31 #[.int .i64 v] w fun e w' => e = .returned (.bool false) ∧ w' = w := by
  have h' : ¬ ((0 : Int) ≤ v ∧ v ≤ 4294967295) := of_decide_eq_false h
  clear h
  go_enter Tryd.func31, Tryd.ntmps31
  go_wp2_with (go_at_call 18; refine (in_no _ _ _ _ (by omega)).mono ?_; rintro e w' ⟨rfl, rfl⟩)
  go_ret
  exact ⟨rfl, rfl⟩

def allW (lo : Int) (V : Nat → Int) (n : Nat) : Bool := (List.range n).all fun i => okW lo (V i)
theorem allW_no {lo : Int} {V : Nat → Int} {n k : Nat} (hk : k < n) (h : okW lo (V k) = false) : allW lo V n = false := by
  unfold allW
  rw [List.all_eq_false]
  exact ⟨k, List.mem_range.2 hk, by simp [h]⟩
theorem allW_yes {lo : Int} {V : Nat → Int} {n : Nat} (h : ∀ j, j < n → okW lo (V j) = true) : allW lo V n = true := by
  unfold allW
  rw [List.all_eq_true]
  exact fun j hj => h j (List.mem_range.1 hj)

theorem upto_succW {lo : Int} {V : Nat → Int} {k : Nat} (h : ∀ j, j < k → okW lo (V j) = true) (hk : okW lo (V k) = true) : ∀ j, j < k + 1 → okW lo (V j) = true := by
  intro j hj
  by_cases e : j = k
  · rw [e]; exact hk
  · exact h j (by omega)
theorem size0 (s : ByteArray) : s.toList = [] ↔ s.size = 0 := by
  have h : s.toList.length = s.size := by rw [Lib.toList_data, Array.length_toList]; rfl
  constructor
  · intro e; rw [e] at h; simpa using h.symm
  · intro e; rw [e] at h; exact List.length_eq_zero_iff.1 h

def g4 (ve : Int) (p n : Nat) (V : Nat → Int) : Bool := decide (ve = 0 ∧ p = 0 ∧ 1 ≤ n ∧ n ≤ 20 ∧ allW 0 V n = true)
def gv (lo : Int) (n : Nat) (V : Nat → Int) : Bool := decide (1 ≤ n ∧ n ≤ 20 ∧ allW lo V n = true)
/-- what a form names, and nothing else -/
def gpB (f ve : Int) (s t p n : Nat) (V : Nat → Int) : Bool :=
  if f = 0 then decide (p ≤ 1200 ∧ okW 1 ve = true ∧ t ≤ 200 ∧ 1 ≤ p ∧ n = 0)
  else if f = 1 ∨ f = 2 ∨ f = 3 then decide (p ≤ 1200 ∧ okW 1 ve = true ∧ t = 0 ∧ 1 ≤ p ∧ n = 0)
  else if f = 4 then decide (p ≤ 1200 ∧ ve = 0 ∧ t = 0 ∧ p = 0 ∧ gv 0 n V = true)
  else if f = 5 then decide (p ≤ 1200 ∧ ve = 0 ∧ s = 0 ∧ t = 0 ∧ n = 0) else false
/-- a good header -/
def gh (f bi ve : Int) (d s t p n : Nat) (V : Nat → Int) : Bool := decide (d ≤ 20 ∧ s ≤ 20 ∧ 0 ≤ bi ∧ bi ≤ 15 ∧ gpB f ve s t p n V = true)
theorem gpB_lim {f ve : Int} {s t p n : Nat} {V : Nat → Int} (h : gpB f ve s t p n V = true) : p ≤ 1200 ∧ t ≤ 200 ∧ (f ≠ 0 → t = 0) ∧ (f ≠ 4 → n = 0) ∧ (f = 0 ∨ f = 1 ∨ f = 2 ∨ f = 3 ∨ f = 4 ∨ f = 5) := by
  unfold gpB at h
  split at h
  · rw [decide_eq_true_eq] at h; omega
  · split at h
    · rw [decide_eq_true_eq] at h; omega
    · split at h
      · rw [decide_eq_true_eq] at h; omega
      · split at h
        · rw [decide_eq_true_eq] at h; omega
        · cases h
theorem gpB_0 (ve : Int) (s t p n : Nat) (V : Nat → Int) : gpB 0 ve s t p n V = decide (p ≤ 1200 ∧ okW 1 ve = true ∧ t ≤ 200 ∧ 1 ≤ p ∧ n = 0) := rfl
theorem gpB_1 (ve : Int) (s t p n : Nat) (V : Nat → Int) : gpB 1 ve s t p n V = decide (p ≤ 1200 ∧ okW 1 ve = true ∧ t = 0 ∧ 1 ≤ p ∧ n = 0) := rfl
theorem gpB_2 (ve : Int) (s t p n : Nat) (V : Nat → Int) : gpB 2 ve s t p n V = decide (p ≤ 1200 ∧ okW 1 ve = true ∧ t = 0 ∧ 1 ≤ p ∧ n = 0) := rfl
theorem gpB_3 (ve : Int) (s t p n : Nat) (V : Nat → Int) : gpB 3 ve s t p n V = decide (p ≤ 1200 ∧ okW 1 ve = true ∧ t = 0 ∧ 1 ≤ p ∧ n = 0) := rfl
theorem gpB_4 (ve : Int) (s t p n : Nat) (V : Nat → Int) : gpB 4 ve s t p n V = decide (p ≤ 1200 ∧ ve = 0 ∧ t = 0 ∧ p = 0 ∧ gv 0 n V = true) := rfl
theorem gpB_5 (ve : Int) (s t p n : Nat) (V : Nat → Int) : gpB 5 ve s t p n V = decide (p ≤ 1200 ∧ ve = 0 ∧ s = 0 ∧ t = 0 ∧ n = 0) := rfl
theorem g4_gv (ve : Int) (p n : Nat) (V : Nat → Int) : (g4 ve p n V = true) ↔ (ve = 0 ∧ p = 0 ∧ gv 0 n V = true) := by
  unfold g4 gv
  rw [decide_eq_true_eq, decide_eq_true_eq]
theorem isE {s : ByteArray} (h : ¬ s.toList = []) : s.toList.isEmpty = false := by
  cases e : s.toList with
  | nil => exact absurd e h
  | cons a l => rfl

set_option maxHeartbeats 4000000 in
theorem specGood_early (f bi ve : Int) (d s t p : ByteArray) (ra : Option Addr) (n cap : Nat) (w : World) (hd : d.size ≤ 1048576) (hs : s.size ≤ 1048576) (ht : t.size ≤ 1048576) (hp : p.size ≤ 1048576)
    (h : ¬ (d.size ≤ 20 ∧ s.size ≤ 20 ∧ (0 ≤ bi ∧ bi ≤ 15) ∧ t.size ≤ 200 ∧ p.size ≤ 1200)) :
    Calls Tryd.prog 17 #[hv f bi ve d s t p ra n cap] w fun e w' => e = .returned (.bool false) ∧ Below w.heap.size w w' := by
  by_cases c1 : d.size ≤ 20
  case neg =>
    go_enter Tryd.func17, Tryd.ntmps17
    go_wp2
    go_ret
    exact ⟨rfl, (Below.refl _ _).alloc (Nat.le_refl _) _⟩
  by_cases c2 : s.size ≤ 20
  case neg =>
    go_enter Tryd.func17, Tryd.ntmps17
    go_wp2
    go_ret
    exact ⟨rfl, (Below.refl _ _).alloc (Nat.le_refl _) _⟩
  by_cases c3 : 0 ≤ bi ∧ bi ≤ 15
  case neg =>
    go_enter Tryd.func17, Tryd.ntmps17
    go_wp2_with (go_at_call 18; refine (in_no _ _ _ _ (by omega)).mono ?_; rintro e w' ⟨rfl, rfl⟩)
    go_ret
    exact ⟨rfl, (Below.refl _ _).alloc (Nat.le_refl _) _⟩
  by_cases c4 : t.size ≤ 200
  case neg =>
    go_enter Tryd.func17, Tryd.ntmps17
    go_wp2_with (go_at_call 18; refine (in_yes _ _ _ _ (by omega) (by omega)).mono ?_; rintro e w' ⟨rfl, rfl⟩)
    go_ret
    exact ⟨rfl, (Below.refl _ _).alloc (Nat.le_refl _) _⟩
  have c5 : ¬ p.size ≤ 1200 := by omega
  clear h
  go_enter Tryd.func17, Tryd.ntmps17
  go_wp2_with (go_at_call 18; refine (in_yes _ _ _ _ (by omega) (by omega)).mono ?_; rintro e w' ⟨rfl, rfl⟩)
  go_ret
  exact ⟨rfl, (Below.refl _ _).alloc (Nat.le_refl _) _⟩

end Go.Proofs.YtgjohakjknmngaaDoor
namespace Go.Proofs.YtgjohakjknmngaaDoor
open Go.ChangeShapes Go.WideShapes Go.ChangeAt Go.RowKit
set_option linter.unusedVariables false
set_option maxRecDepth 100000

set_option maxHeartbeats 4000000 in
theorem sg_5s (bi ve : Int) (d s t p : ByteArray) (g off n cap : Nat) (w : World) (c1 : d.size ≤ 20) (c2 : s.size ≤ 20) (c3 : 0 ≤ bi) (c3' : bi ≤ 15) (c4 : t.size ≤ 200) (c5 : p.size ≤ 1200)
    (ht : t.toList = []) (hn : n = 0) (hs : ¬ s.toList = []) :
    Calls Tryd.prog 17 #[hv 5 bi ve d s t p (some ⟨g, off, none⟩) n cap] w fun e w' => e = .returned (.bool false) ∧ Below w.heap.size w w' := by
  go_enter Tryd.func17, Tryd.ntmps17
  go_wp2_with ((go_at_call 18; refine (in_yes _ _ _ _ (by omega) (by omega)).mono ?_; rintro e w' ⟨rfl, rfl⟩))
  go_ret
  exact ⟨rfl, (Below.refl _ _).alloc (Nat.le_refl _) _⟩

set_option maxHeartbeats 4000000 in
theorem sg_5v (bi ve : Int) (d s t p : ByteArray) (g off n cap : Nat) (w : World) (c1 : d.size ≤ 20) (c2 : s.size ≤ 20) (c3 : 0 ≤ bi) (c3' : bi ≤ 15) (c4 : t.size ≤ 200) (c5 : p.size ≤ 1200)
    (ht : t.toList = []) (hn : n = 0) (hs : s.toList = []) (hw : (ve == 0) = false) :
    Calls Tryd.prog 17 #[hv 5 bi ve d s t p (some ⟨g, off, none⟩) n cap] w fun e w' => e = .returned (.bool false) ∧ Below w.heap.size w w' := by
  go_enter Tryd.func17, Tryd.ntmps17
  go_wp2_with ((go_at_call 18; refine (in_yes _ _ _ _ (by omega) (by omega)).mono ?_; rintro e w' ⟨rfl, rfl⟩))
  go_ret
  exact ⟨rfl, (Below.refl _ _).alloc (Nat.le_refl _) _⟩

set_option maxHeartbeats 4000000 in
theorem sg_5y (bi : Int) (d s t p : ByteArray) (g off n cap : Nat) (w : World) (c1 : d.size ≤ 20) (c2 : s.size ≤ 20) (c3 : 0 ≤ bi) (c3' : bi ≤ 15) (c4 : t.size ≤ 200) (c5 : p.size ≤ 1200)
    (ht : t.toList = []) (hn : n = 0) (hs : s.toList = []) :
    Calls Tryd.prog 17 #[hv 5 bi 0 d s t p (some ⟨g, off, none⟩) n cap] w fun e w' => e = .returned (.bool true) ∧ Below w.heap.size w w' := by
  go_enter Tryd.func17, Tryd.ntmps17
  go_wp2_with ((go_at_call 18; refine (in_yes _ _ _ _ (by omega) (by omega)).mono ?_; rintro e w' ⟨rfl, rfl⟩))
  go_ret
  exact ⟨rfl, (Below.refl _ _).alloc (Nat.le_refl _) _⟩

set_option maxHeartbeats 4000000 in
theorem sg_other (f bi ve : Int) (d s t p : ByteArray) (g off n cap : Nat) (w : World) (c1 : d.size ≤ 20) (c2 : s.size ≤ 20) (c3 : 0 ≤ bi) (c3' : bi ≤ 15) (c4 : t.size ≤ 200) (c5 : p.size ≤ 1200)
    (ht : t.toList = []) (hn : n = 0) (n0 : (f != 0) = true) (n4 : (f != 4) = true) (e0 : (f == 0) = false) (e1 : (f == 1) = false) (e2 : (f == 2) = false) (e3 : (f == 3) = false) (e4 : (f == 4) = false) (e5 : (f == 5) = false) :
    Calls Tryd.prog 17 #[hv f bi ve d s t p (some ⟨g, off, none⟩) n cap] w fun e w' => e = .returned (.bool false) ∧ Below w.heap.size w w' := by
  go_enter Tryd.func17, Tryd.ntmps17
  go_wp2_with ((go_at_call 18; refine (in_yes _ _ _ _ (by omega) (by omega)).mono ?_; rintro e w' ⟨rfl, rfl⟩))
  go_ret
  exact ⟨rfl, (Below.refl _ _).alloc (Nat.le_refl _) _⟩

set_option maxHeartbeats 4000000 in
theorem sg_4 (bi ve : Int) (d s t p : ByteArray) (g off n cap : Nat) (V : Nat → Int) (w : World) (hn : n ≤ 1048576) (h : Ir w g off n V) (c1 : d.size ≤ 20) (c2 : s.size ≤ 20) (c3 : 0 ≤ bi) (c3' : bi ≤ 15) (c4 : t.size ≤ 200) (c5 : p.size ≤ 1200)
    (ht : t.toList = []) :
    Calls Tryd.prog 17 #[hv 4 bi ve d s t p (some ⟨g, off, none⟩) n cap] w fun e w' => e = .returned (.bool (g4 ve p.size n V)) ∧ Below w.heap.size w w' := by
  have HR := hide h
  clear h
  go_enter Tryd.func17, Tryd.ntmps17
  go_wp2_with (go_at_call 18; refine (in_yes _ _ _ _ (by omega) (by omega)).mono ?_; rintro e w' ⟨rfl, rfl⟩)
  go_loopw [72] (fun i wr => ∃ k : Nat, k ≤ n ∧ i = .int .i64 k ∧ (∀ j, j < k → okW 0 (V j) = true) ∧ wr = w.alloc (.cells #[.int .i64 4, .int .i64 bi, .int .i64 ve, .string d, .string s, .string t, .string p, .slice (some ⟨g, off, none⟩) n cap] 25)) (fun i _ => n - (intOf i).toNat)
  case atStart => exact ⟨0, Nat.zero_le _, rfl, fun j hj => by omega, rfl⟩
  case round =>
    obtain ⟨k, hk, rfl, hok, rfl⟩ := hrel
    by_cases hlt : k < n
    · have hR := (unhide HR).alloc (.cells #[.int .i64 4, .int .i64 bi, .int .i64 ve, .string d, .string s, .string t, .string p, .slice (some ⟨g, off, none⟩) n cap] 25)
      have hcf := hR.cv k hlt
      have hlt' : g < w.heap.size := by rcases (unhide HR).lt with h1 | h1 <;> omega
      have HO := hide hok
      clear hok hR
      cases hw : okW 0 (V k) with
      | true =>
        have HW := hide (fun W => word_yes (V k) W hw)
        go_wp2_with (go_at_call 31; refine (unhide HW _).mono ?_; rintro e w' ⟨rfl, rfl⟩)
        exact ⟨⟨k + 1, by omega, by go_num, upto_succW (unhide HO) hw, by first | trivial | rfl⟩, by simp [intOf]; omega⟩
      | false =>
        have HW := hide (fun W => word_no (V k) W hw)
        have HF : Hid (g4 ve p.size n V = false) := decide_eq_false (fun q => by have := allW_no hlt hw; rw [this] at q; exact absurd q.2.2.2.2 (by decide))
        go_wp2_with (go_at_call 31; refine (unhide HW _).mono ?_; rintro e w' ⟨rfl, rfl⟩)
        go_ret
        exact ⟨by rw [unhide HF]; rfl, (Below.refl _ _).alloc (Nat.le_refl _) _⟩
    · obtain rfl : k = n := by omega
      have HA : Hid (allW 0 V k = true) := allW_yes hok
      clear hok
      have fin : ∀ b : Bool, (g4 ve p.size k V = b) → Hid (g4 ve p.size k V = b) := fun _ h => h
      have nl := size0 p
      by_cases v0 : ve = 0
      case neg =>
        have HF := fin false (decide_eq_false (fun q => v0 q.1))
        have v0' : (ve == 0) = false := beq_eq_false_iff_ne.2 v0
        clear fin nl
        go_wp2
        go_ret
        exact ⟨by rw [unhide HF]; rfl, (Below.refl _ _).alloc (Nat.le_refl _) _⟩
      subst v0
      by_cases p0 : p.toList = []
      case neg =>
        have HF := fin false (decide_eq_false (fun q => p0 (nl.2 q.2.1)))
        clear fin nl
        go_wp2
        go_ret
        exact ⟨by rw [unhide HF]; rfl, (Below.refl _ _).alloc (Nat.le_refl _) _⟩
      by_cases n0 : 1 ≤ k ∧ k ≤ 20
      · have HF := fin true (decide_eq_true ⟨rfl, nl.1 p0, n0.1, n0.2, unhide HA⟩)
        have HI := hide (fun W => in_yes (k : Int) 1 20 W (by omega) (by omega))
        clear fin nl n0
        go_wp2_with (go_at_call 18; refine (unhide HI _).mono ?_; rintro e w' ⟨rfl, rfl⟩)
        go_ret
        exact ⟨by rw [unhide HF]; rfl, (Below.refl _ _).alloc (Nat.le_refl _) _⟩
      · have HF := fin false (decide_eq_false (fun q => n0 ⟨q.2.2.1, q.2.2.2.1⟩))
        have HI := hide (fun W => in_no (k : Int) 1 20 W (by omega))
        clear fin nl n0
        go_wp2_with (go_at_call 18; refine (unhide HI _).mono ?_; rintro e w' ⟨rfl, rfl⟩)
        go_ret
        exact ⟨by rw [unhide HF]; rfl, (Below.refl _ _).alloc (Nat.le_refl _) _⟩
end Go.Proofs.YtgjohakjknmngaaDoor
namespace Go.Proofs.YtgjohakjknmngaaDoor
open Go.ChangeShapes Go.WideShapes Go.ChangeAt Go.RowKit
set_option linter.unusedVariables false
set_option maxRecDepth 100000

set_option maxHeartbeats 4000000 in
theorem so_token (f bi ve : Int) (d s t p : ByteArray) (ra : Option Addr) (n cap : Nat) (w : World) (c1 : d.size ≤ 20) (c2 : s.size ≤ 20) (c3 : 0 ≤ bi) (c3' : bi ≤ 15) (c4 : t.size ≤ 200) (c5 : p.size ≤ 1200)
    (hf : (f != 0) = true) (ht : ¬ t.toList = []) :
    Calls Tryd.prog 17 #[hv f bi ve d s t p ra n cap] w fun e w' => e = .returned (.bool false) ∧ Below w.heap.size w w' := by
  go_enter Tryd.func17, Tryd.ntmps17
  go_wp2_with ((go_at_call 18; refine (in_yes _ _ _ _ (by omega) (by omega)).mono ?_; rintro e w' ⟨rfl, rfl⟩))
  go_ret
  exact ⟨rfl, (Below.refl _ _).alloc (Nat.le_refl _) _⟩

set_option maxHeartbeats 4000000 in
theorem so_versT (f bi ve : Int) (d s t p : ByteArray) (ra : Option Addr) (n cap : Nat) (w : World) (c1 : d.size ≤ 20) (c2 : s.size ≤ 20) (c3 : 0 ≤ bi) (c3' : bi ≤ 15) (c4 : t.size ≤ 200) (c5 : p.size ≤ 1200)
    (hf0 : (f != 0) = true) (ht : t.toList = []) (hf : (f != 4) = true) (hn : 0 < n) :
    Calls Tryd.prog 17 #[hv f bi ve d s t p ra n cap] w fun e w' => e = .returned (.bool false) ∧ Below w.heap.size w w' := by
  go_enter Tryd.func17, Tryd.ntmps17
  go_wp2_with ((go_at_call 18; refine (in_yes _ _ _ _ (by omega) (by omega)).mono ?_; rintro e w' ⟨rfl, rfl⟩))
  go_ret
  exact ⟨rfl, (Below.refl _ _).alloc (Nat.le_refl _) _⟩

set_option maxHeartbeats 4000000 in
theorem so_vers0 (bi ve : Int) (d s t p : ByteArray) (ra : Option Addr) (n cap : Nat) (w : World) (c1 : d.size ≤ 20) (c2 : s.size ≤ 20) (c3 : 0 ≤ bi) (c3' : bi ≤ 15) (c4 : t.size ≤ 200) (c5 : p.size ≤ 1200)
    (hn : 0 < n) :
    Calls Tryd.prog 17 #[hv 0 bi ve d s t p ra n cap] w fun e w' => e = .returned (.bool false) ∧ Below w.heap.size w w' := by
  go_enter Tryd.func17, Tryd.ntmps17
  go_wp2_with ((go_at_call 18; refine (in_yes _ _ _ _ (by omega) (by omega)).mono ?_; rintro e w' ⟨rfl, rfl⟩))
  go_ret
  exact ⟨rfl, (Below.refl _ _).alloc (Nat.le_refl _) _⟩


set_option maxHeartbeats 4000000 in
theorem so_0v (bi ve : Int) (d s t p : ByteArray) (ra : Option Addr) (n cap : Nat) (w : World) (c1 : d.size ≤ 20) (c2 : s.size ≤ 20) (c3 : 0 ≤ bi) (c3' : bi ≤ 15) (c4 : t.size ≤ 200) (c5 : p.size ≤ 1200)
     (hn : n = 0) (hw : ¬ (1 ≤ ve ∧ ve ≤ 4294967295)) :
    Calls Tryd.prog 17 #[hv 0 bi ve d s t p ra n cap] w fun e w' => e = .returned (.bool false) ∧ Below w.heap.size w w' := by
  go_enter Tryd.func17, Tryd.ntmps17
  go_wp2_with (first | (go_at_call 18; refine (in_yes _ _ _ _ (by omega) (by omega)).mono ?_; rintro e w' ⟨rfl, rfl⟩) | (go_at_call 18; refine (in_no _ _ _ _ (by omega)).mono ?_; rintro e w' ⟨rfl, rfl⟩))
  go_ret
  exact ⟨rfl, (Below.refl _ _).alloc (Nat.le_refl _) _⟩

set_option maxHeartbeats 4000000 in
theorem so_0p (bi ve : Int) (d s t p : ByteArray) (ra : Option Addr) (n cap : Nat) (w : World) (c1 : d.size ≤ 20) (c2 : s.size ≤ 20) (c3 : 0 ≤ bi) (c3' : bi ≤ 15) (c4 : t.size ≤ 200) (c5 : p.size ≤ 1200)
     (hn : n = 0) (hw : 1 ≤ ve) (hw' : ve ≤ 4294967295) (hp : p.toList = []) :
    Calls Tryd.prog 17 #[hv 0 bi ve d s t p ra n cap] w fun e w' => e = .returned (.bool false) ∧ Below w.heap.size w w' := by
  go_enter Tryd.func17, Tryd.ntmps17
  go_wp2_with ((go_at_call 18; refine (in_yes _ _ _ _ (by omega) (by omega)).mono ?_; rintro e w' ⟨rfl, rfl⟩))
  go_ret
  exact ⟨rfl, (Below.refl _ _).alloc (Nat.le_refl _) _⟩

set_option maxHeartbeats 4000000 in
theorem so_0y (bi ve : Int) (d s t p : ByteArray) (ra : Option Addr) (n cap : Nat) (w : World) (c1 : d.size ≤ 20) (c2 : s.size ≤ 20) (c3 : 0 ≤ bi) (c3' : bi ≤ 15) (c4 : t.size ≤ 200) (c5 : p.size ≤ 1200)
     (hn : n = 0) (hw : 1 ≤ ve) (hw' : ve ≤ 4294967295) (hp : p.toList.isEmpty = false) :
    Calls Tryd.prog 17 #[hv 0 bi ve d s t p ra n cap] w fun e w' => e = .returned (.bool true) ∧ Below w.heap.size w w' := by
  go_enter Tryd.func17, Tryd.ntmps17
  go_wp2_with ((go_at_call 18; refine (in_yes _ _ _ _ (by omega) (by omega)).mono ?_; rintro e w' ⟨rfl, rfl⟩))
  go_ret
  exact ⟨rfl, (Below.refl _ _).alloc (Nat.le_refl _) _⟩

set_option maxHeartbeats 4000000 in
theorem so_1v (bi ve : Int) (d s t p : ByteArray) (ra : Option Addr) (n cap : Nat) (w : World) (c1 : d.size ≤ 20) (c2 : s.size ≤ 20) (c3 : 0 ≤ bi) (c3' : bi ≤ 15) (c4 : t.size ≤ 200) (c5 : p.size ≤ 1200)
    (ht : t.toList = []) (hn : n = 0) (hw : ¬ (1 ≤ ve ∧ ve ≤ 4294967295)) :
    Calls Tryd.prog 17 #[hv 1 bi ve d s t p ra n cap] w fun e w' => e = .returned (.bool false) ∧ Below w.heap.size w w' := by
  go_enter Tryd.func17, Tryd.ntmps17
  go_wp2_with (first | (go_at_call 18; refine (in_yes _ _ _ _ (by omega) (by omega)).mono ?_; rintro e w' ⟨rfl, rfl⟩) | (go_at_call 18; refine (in_no _ _ _ _ (by omega)).mono ?_; rintro e w' ⟨rfl, rfl⟩))
  go_ret
  exact ⟨rfl, (Below.refl _ _).alloc (Nat.le_refl _) _⟩

set_option maxHeartbeats 4000000 in
theorem so_1p (bi ve : Int) (d s t p : ByteArray) (ra : Option Addr) (n cap : Nat) (w : World) (c1 : d.size ≤ 20) (c2 : s.size ≤ 20) (c3 : 0 ≤ bi) (c3' : bi ≤ 15) (c4 : t.size ≤ 200) (c5 : p.size ≤ 1200)
    (ht : t.toList = []) (hn : n = 0) (hw : 1 ≤ ve) (hw' : ve ≤ 4294967295) (hp : p.toList = []) :
    Calls Tryd.prog 17 #[hv 1 bi ve d s t p ra n cap] w fun e w' => e = .returned (.bool false) ∧ Below w.heap.size w w' := by
  go_enter Tryd.func17, Tryd.ntmps17
  go_wp2_with ((go_at_call 18; refine (in_yes _ _ _ _ (by omega) (by omega)).mono ?_; rintro e w' ⟨rfl, rfl⟩))
  go_ret
  exact ⟨rfl, (Below.refl _ _).alloc (Nat.le_refl _) _⟩

set_option maxHeartbeats 4000000 in
theorem so_1y (bi ve : Int) (d s t p : ByteArray) (ra : Option Addr) (n cap : Nat) (w : World) (c1 : d.size ≤ 20) (c2 : s.size ≤ 20) (c3 : 0 ≤ bi) (c3' : bi ≤ 15) (c4 : t.size ≤ 200) (c5 : p.size ≤ 1200)
    (ht : t.toList = []) (hn : n = 0) (hw : 1 ≤ ve) (hw' : ve ≤ 4294967295) (hp : p.toList.isEmpty = false) :
    Calls Tryd.prog 17 #[hv 1 bi ve d s t p ra n cap] w fun e w' => e = .returned (.bool true) ∧ Below w.heap.size w w' := by
  go_enter Tryd.func17, Tryd.ntmps17
  go_wp2_with ((go_at_call 18; refine (in_yes _ _ _ _ (by omega) (by omega)).mono ?_; rintro e w' ⟨rfl, rfl⟩))
  go_ret
  exact ⟨rfl, (Below.refl _ _).alloc (Nat.le_refl _) _⟩

set_option maxHeartbeats 4000000 in
theorem so_2v (bi ve : Int) (d s t p : ByteArray) (ra : Option Addr) (n cap : Nat) (w : World) (c1 : d.size ≤ 20) (c2 : s.size ≤ 20) (c3 : 0 ≤ bi) (c3' : bi ≤ 15) (c4 : t.size ≤ 200) (c5 : p.size ≤ 1200)
    (ht : t.toList = []) (hn : n = 0) (hw : ¬ (1 ≤ ve ∧ ve ≤ 4294967295)) :
    Calls Tryd.prog 17 #[hv 2 bi ve d s t p ra n cap] w fun e w' => e = .returned (.bool false) ∧ Below w.heap.size w w' := by
  go_enter Tryd.func17, Tryd.ntmps17
  go_wp2_with (first | (go_at_call 18; refine (in_yes _ _ _ _ (by omega) (by omega)).mono ?_; rintro e w' ⟨rfl, rfl⟩) | (go_at_call 18; refine (in_no _ _ _ _ (by omega)).mono ?_; rintro e w' ⟨rfl, rfl⟩))
  go_ret
  exact ⟨rfl, (Below.refl _ _).alloc (Nat.le_refl _) _⟩

set_option maxHeartbeats 4000000 in
theorem so_2p (bi ve : Int) (d s t p : ByteArray) (ra : Option Addr) (n cap : Nat) (w : World) (c1 : d.size ≤ 20) (c2 : s.size ≤ 20) (c3 : 0 ≤ bi) (c3' : bi ≤ 15) (c4 : t.size ≤ 200) (c5 : p.size ≤ 1200)
    (ht : t.toList = []) (hn : n = 0) (hw : 1 ≤ ve) (hw' : ve ≤ 4294967295) (hp : p.toList = []) :
    Calls Tryd.prog 17 #[hv 2 bi ve d s t p ra n cap] w fun e w' => e = .returned (.bool false) ∧ Below w.heap.size w w' := by
  go_enter Tryd.func17, Tryd.ntmps17
  go_wp2_with ((go_at_call 18; refine (in_yes _ _ _ _ (by omega) (by omega)).mono ?_; rintro e w' ⟨rfl, rfl⟩))
  go_ret
  exact ⟨rfl, (Below.refl _ _).alloc (Nat.le_refl _) _⟩

set_option maxHeartbeats 4000000 in
theorem so_2y (bi ve : Int) (d s t p : ByteArray) (ra : Option Addr) (n cap : Nat) (w : World) (c1 : d.size ≤ 20) (c2 : s.size ≤ 20) (c3 : 0 ≤ bi) (c3' : bi ≤ 15) (c4 : t.size ≤ 200) (c5 : p.size ≤ 1200)
    (ht : t.toList = []) (hn : n = 0) (hw : 1 ≤ ve) (hw' : ve ≤ 4294967295) (hp : p.toList.isEmpty = false) :
    Calls Tryd.prog 17 #[hv 2 bi ve d s t p ra n cap] w fun e w' => e = .returned (.bool true) ∧ Below w.heap.size w w' := by
  go_enter Tryd.func17, Tryd.ntmps17
  go_wp2_with ((go_at_call 18; refine (in_yes _ _ _ _ (by omega) (by omega)).mono ?_; rintro e w' ⟨rfl, rfl⟩))
  go_ret
  exact ⟨rfl, (Below.refl _ _).alloc (Nat.le_refl _) _⟩

set_option maxHeartbeats 4000000 in
theorem so_3v (bi ve : Int) (d s t p : ByteArray) (ra : Option Addr) (n cap : Nat) (w : World) (c1 : d.size ≤ 20) (c2 : s.size ≤ 20) (c3 : 0 ≤ bi) (c3' : bi ≤ 15) (c4 : t.size ≤ 200) (c5 : p.size ≤ 1200)
    (ht : t.toList = []) (hn : n = 0) (hw : ¬ (1 ≤ ve ∧ ve ≤ 4294967295)) :
    Calls Tryd.prog 17 #[hv 3 bi ve d s t p ra n cap] w fun e w' => e = .returned (.bool false) ∧ Below w.heap.size w w' := by
  go_enter Tryd.func17, Tryd.ntmps17
  go_wp2_with (first | (go_at_call 18; refine (in_yes _ _ _ _ (by omega) (by omega)).mono ?_; rintro e w' ⟨rfl, rfl⟩) | (go_at_call 18; refine (in_no _ _ _ _ (by omega)).mono ?_; rintro e w' ⟨rfl, rfl⟩))
  go_ret
  exact ⟨rfl, (Below.refl _ _).alloc (Nat.le_refl _) _⟩

set_option maxHeartbeats 4000000 in
theorem so_3p (bi ve : Int) (d s t p : ByteArray) (ra : Option Addr) (n cap : Nat) (w : World) (c1 : d.size ≤ 20) (c2 : s.size ≤ 20) (c3 : 0 ≤ bi) (c3' : bi ≤ 15) (c4 : t.size ≤ 200) (c5 : p.size ≤ 1200)
    (ht : t.toList = []) (hn : n = 0) (hw : 1 ≤ ve) (hw' : ve ≤ 4294967295) (hp : p.toList = []) :
    Calls Tryd.prog 17 #[hv 3 bi ve d s t p ra n cap] w fun e w' => e = .returned (.bool false) ∧ Below w.heap.size w w' := by
  go_enter Tryd.func17, Tryd.ntmps17
  go_wp2_with ((go_at_call 18; refine (in_yes _ _ _ _ (by omega) (by omega)).mono ?_; rintro e w' ⟨rfl, rfl⟩))
  go_ret
  exact ⟨rfl, (Below.refl _ _).alloc (Nat.le_refl _) _⟩

set_option maxHeartbeats 4000000 in
theorem so_3y (bi ve : Int) (d s t p : ByteArray) (ra : Option Addr) (n cap : Nat) (w : World) (c1 : d.size ≤ 20) (c2 : s.size ≤ 20) (c3 : 0 ≤ bi) (c3' : bi ≤ 15) (c4 : t.size ≤ 200) (c5 : p.size ≤ 1200)
    (ht : t.toList = []) (hn : n = 0) (hw : 1 ≤ ve) (hw' : ve ≤ 4294967295) (hp : p.toList.isEmpty = false) :
    Calls Tryd.prog 17 #[hv 3 bi ve d s t p ra n cap] w fun e w' => e = .returned (.bool true) ∧ Below w.heap.size w w' := by
  go_enter Tryd.func17, Tryd.ntmps17
  go_wp2_with ((go_at_call 18; refine (in_yes _ _ _ _ (by omega) (by omega)).mono ?_; rintro e w' ⟨rfl, rfl⟩))
  go_ret
  exact ⟨rfl, (Below.refl _ _).alloc (Nat.le_refl _) _⟩


set_option maxHeartbeats 4000000 in
theorem so_5s (bi ve : Int) (d s t p : ByteArray) (ra : Option Addr) (n cap : Nat) (w : World) (c1 : d.size ≤ 20) (c2 : s.size ≤ 20) (c3 : 0 ≤ bi) (c3' : bi ≤ 15) (c4 : t.size ≤ 200) (c5 : p.size ≤ 1200)
    (ht : t.toList = []) (hn : n = 0) (hs : ¬ s.toList = []) :
    Calls Tryd.prog 17 #[hv 5 bi ve d s t p ra n cap] w fun e w' => e = .returned (.bool false) ∧ Below w.heap.size w w' := by
  go_enter Tryd.func17, Tryd.ntmps17
  go_wp2_with ((go_at_call 18; refine (in_yes _ _ _ _ (by omega) (by omega)).mono ?_; rintro e w' ⟨rfl, rfl⟩))
  go_ret
  exact ⟨rfl, (Below.refl _ _).alloc (Nat.le_refl _) _⟩

set_option maxHeartbeats 4000000 in
theorem so_5v (bi ve : Int) (d s t p : ByteArray) (ra : Option Addr) (n cap : Nat) (w : World) (c1 : d.size ≤ 20) (c2 : s.size ≤ 20) (c3 : 0 ≤ bi) (c3' : bi ≤ 15) (c4 : t.size ≤ 200) (c5 : p.size ≤ 1200)
    (ht : t.toList = []) (hn : n = 0) (hs : s.toList = []) (hw : (ve == 0) = false) :
    Calls Tryd.prog 17 #[hv 5 bi ve d s t p ra n cap] w fun e w' => e = .returned (.bool false) ∧ Below w.heap.size w w' := by
  go_enter Tryd.func17, Tryd.ntmps17
  go_wp2_with ((go_at_call 18; refine (in_yes _ _ _ _ (by omega) (by omega)).mono ?_; rintro e w' ⟨rfl, rfl⟩))
  go_ret
  exact ⟨rfl, (Below.refl _ _).alloc (Nat.le_refl _) _⟩

set_option maxHeartbeats 4000000 in
theorem so_5y (bi : Int) (d s t p : ByteArray) (ra : Option Addr) (n cap : Nat) (w : World) (c1 : d.size ≤ 20) (c2 : s.size ≤ 20) (c3 : 0 ≤ bi) (c3' : bi ≤ 15) (c4 : t.size ≤ 200) (c5 : p.size ≤ 1200)
    (ht : t.toList = []) (hn : n = 0) (hs : s.toList = []) :
    Calls Tryd.prog 17 #[hv 5 bi 0 d s t p ra n cap] w fun e w' => e = .returned (.bool true) ∧ Below w.heap.size w w' := by
  go_enter Tryd.func17, Tryd.ntmps17
  go_wp2_with ((go_at_call 18; refine (in_yes _ _ _ _ (by omega) (by omega)).mono ?_; rintro e w' ⟨rfl, rfl⟩))
  go_ret
  exact ⟨rfl, (Below.refl _ _).alloc (Nat.le_refl _) _⟩

set_option maxHeartbeats 4000000 in
theorem so_other (f bi ve : Int) (d s t p : ByteArray) (ra : Option Addr) (n cap : Nat) (w : World) (c1 : d.size ≤ 20) (c2 : s.size ≤ 20) (c3 : 0 ≤ bi) (c3' : bi ≤ 15) (c4 : t.size ≤ 200) (c5 : p.size ≤ 1200)
    (ht : t.toList = []) (hn : n = 0) (n0 : (f != 0) = true) (n4 : (f != 4) = true) (e0 : (f == 0) = false) (e1 : (f == 1) = false) (e2 : (f == 2) = false) (e3 : (f == 3) = false) (e4 : (f == 4) = false) (e5 : (f == 5) = false) :
    Calls Tryd.prog 17 #[hv f bi ve d s t p ra n cap] w fun e w' => e = .returned (.bool false) ∧ Below w.heap.size w w' := by
  go_enter Tryd.func17, Tryd.ntmps17
  go_wp2_with ((go_at_call 18; refine (in_yes _ _ _ _ (by omega) (by omega)).mono ?_; rintro e w' ⟨rfl, rfl⟩))
  go_ret
  exact ⟨rfl, (Below.refl _ _).alloc (Nat.le_refl _) _⟩


end Go.Proofs.YtgjohakjknmngaaDoor
namespace Go.Proofs.YtgjohakjknmngaaDoor
open Go.ChangeShapes Go.WideShapes Go.ChangeAt Go.RowKit
set_option linter.unusedVariables false
set_option maxRecDepth 100000

set_option maxHeartbeats 4000000 in
theorem so_4n (bi ve : Int) (d s t p : ByteArray) (ra : Option Addr) (cap : Nat) (w : World) (c1 : d.size ≤ 20) (c2 : s.size ≤ 20) (c3 : 0 ≤ bi) (c3' : bi ≤ 15) (c4 : t.size ≤ 200) (c5 : p.size ≤ 1200) (ht : t.toList = []) :
    Calls Tryd.prog 17 #[hv 4 bi ve d s t p ra 0 cap] w fun e w' => e = .returned (.bool false) ∧ Below w.heap.size w w' := by
  by_cases v0 : ve = 0
  · subst v0
    by_cases p0 : p.toList = []
    · go_enter Tryd.func17, Tryd.ntmps17
      go_wp2_with (go_at_call 18; refine (in_yes _ _ _ _ (by omega) (by omega)).mono ?_; rintro e w' ⟨rfl, rfl⟩)
      refine wp_loop_rounds 1 ?_
      rw [rounds_succ]
      go_wp2_with (go_at_call 18; refine (in_no _ _ _ _ (by omega)).mono ?_; rintro e w' ⟨rfl, rfl⟩)
      go_ret
      exact ⟨rfl, (Below.refl _ _).alloc (Nat.le_refl _) _⟩
    · go_enter Tryd.func17, Tryd.ntmps17
      go_wp2_with (go_at_call 18; refine (in_yes _ _ _ _ (by omega) (by omega)).mono ?_; rintro e w' ⟨rfl, rfl⟩)
      refine wp_loop_rounds 1 ?_
      rw [rounds_succ]
      go_wp2
      go_ret
      exact ⟨rfl, (Below.refl _ _).alloc (Nat.le_refl _) _⟩
  · have v1 : (ve == 0) = false := beq_eq_false_iff_ne.2 v0
    go_enter Tryd.func17, Tryd.ntmps17
    go_wp2_with (go_at_call 18; refine (in_yes _ _ _ _ (by omega) (by omega)).mono ?_; rintro e w' ⟨rfl, rfl⟩)
    refine wp_loop_rounds 1 ?_
    rw [rounds_succ]
    go_wp2
    go_ret
    exact ⟨rfl, (Below.refl _ _).alloc (Nat.le_refl _) _⟩
end Go.Proofs.YtgjohakjknmngaaDoor
namespace Go.Proofs.YtgjohakjknmngaaDoor
open Go.ChangeShapes Go.WideShapes Go.ChangeAt Go.RowKit
set_option linter.unusedVariables false
set_option maxRecDepth 100000

theorem specGood_ra (f bi ve : Int) (d s t p : ByteArray) (ra : Option Addr) (n cap : Nat) (V : Nat → Int) (w : World) (hd : d.size ≤ 1048576) (hs : s.size ≤ 1048576) (ht : t.size ≤ 1048576) (hp : p.size ≤ 1048576) (hn : n ≤ 1048576) (hR : Ia w ra n cap V) :
    Calls Tryd.prog 17 #[hv f bi ve d s t p ra n cap] w fun e w' => e = .returned (.bool (gh f bi ve d.size s.size t.size p.size n V)) ∧ Below w.heap.size w w' := by
  have nt := size0 t
  have np := size0 p
  have ns := size0 s
  have no : ∀ {q : Prop}, (gpB f ve s.size t.size p.size n V = true → q) → ¬ q → gh f bi ve d.size s.size t.size p.size n V = false := fun h1 h2 => decide_eq_false (fun q => h2 (h1 q.2.2.2.2))
  by_cases E : d.size ≤ 20 ∧ s.size ≤ 20 ∧ (0 ≤ bi ∧ bi ≤ 15) ∧ t.size ≤ 200 ∧ p.size ≤ 1200
  case neg =>
    have e : gh f bi ve d.size s.size t.size p.size n V = false := decide_eq_false (fun q => E ⟨q.1, q.2.1, ⟨q.2.2.1, q.2.2.2.1⟩, (gpB_lim q.2.2.2.2).2.1, (gpB_lim q.2.2.2.2).1⟩)
    rw [e]
    exact specGood_early f bi ve d s t p _ n cap w hd hs ht hp E
  obtain ⟨c1, c2, ⟨c3, c3'⟩, c4, c5⟩ := E
  have yes : ∀ b, gpB f ve s.size t.size p.size n V = b → gh f bi ve d.size s.size t.size p.size n V = b := fun b h => by
    cases b with
    | true => exact decide_eq_true ⟨c1, c2, c3, c3', h⟩
    | false => exact decide_eq_false (fun q => by rw [h] at q; exact absurd q.2.2.2.2 (by decide))
  by_cases h0 : f ≠ 0 ∧ t.size ≠ 0
  · rw [no (fun h => (gpB_lim h).2.2.1 h0.1) h0.2]
    exact so_token f bi ve d s t p ra n cap w c1 c2 c3 c3' c4 c5 (bne_iff_ne.2 h0.1) (fun h => h0.2 (nt.1 h))
  by_cases h4 : f ≠ 4 ∧ n ≠ 0
  · rw [no (fun h => (gpB_lim h).2.2.2.1 h4.1) h4.2]
    by_cases z : f = 0
    · subst z
      exact so_vers0 bi ve d s t p ra n cap w c1 c2 c3 c3' c4 c5 (by omega)
    · exact so_versT f bi ve d s t p ra n cap w c1 c2 c3 c3' c4 c5 (bne_iff_ne.2 z) (nt.2 (by omega)) (bne_iff_ne.2 h4.1) (by omega)
  by_cases k : f = 0 ∨ f = 1 ∨ f = 2 ∨ f = 3 ∨ f = 4 ∨ f = 5
  case neg =>
    rw [no (fun h => (gpB_lim h).2.2.2.2) k]
    exact so_other f bi ve d s t p ra n cap w c1 c2 c3 c3' c4 c5 (nt.2 (by omega)) (by omega) (bne_iff_ne.2 (by omega)) (bne_iff_ne.2 (by omega)) (beq_eq_false_iff_ne.2 (by omega)) (beq_eq_false_iff_ne.2 (by omega)) (beq_eq_false_iff_ne.2 (by omega)) (beq_eq_false_iff_ne.2 (by omega)) (beq_eq_false_iff_ne.2 (by omega)) (beq_eq_false_iff_ne.2 (by omega))
  clear no
  rcases k with rfl | rfl | rfl | rfl | rfl | rfl
  · by_cases v : 1 ≤ ve ∧ ve ≤ 4294967295
    · have v' : okW 1 ve = true := decide_eq_true v
      by_cases z : p.toList = []
      · rw [yes false (by rw [gpB_0]; exact decide_eq_false (fun q => by have := np.1 z; omega))]
        exact so_0p bi ve d s t p ra n cap w c1 c2 c3 c3' c4 c5 (by omega) v.1 v.2 z
      · rw [yes true (by rw [gpB_0]; exact decide_eq_true ⟨c5, v', c4, by have : p.size ≠ 0 := fun q => z (np.2 q); omega, by omega⟩)]
        exact so_0y bi ve d s t p ra n cap w c1 c2 c3 c3' c4 c5 (by omega) v.1 v.2 (isE z)
    · rw [yes false (by rw [gpB_0]; exact decide_eq_false (fun q => v (of_decide_eq_true q.2.1)))]
      exact so_0v bi ve d s t p ra n cap w c1 c2 c3 c3' c4 c5 (by omega) v
  · by_cases v : 1 ≤ ve ∧ ve ≤ 4294967295
    · have v' : okW 1 ve = true := decide_eq_true v
      by_cases z : p.toList = []
      · rw [yes false (by rw [gpB_1]; exact decide_eq_false (fun q => by have := np.1 z; omega))]
        exact so_1p bi ve d s t p ra n cap w c1 c2 c3 c3' c4 c5 (nt.2 (by omega)) (by omega) v.1 v.2 z
      · rw [yes true (by rw [gpB_1]; exact decide_eq_true ⟨c5, v', (by omega), by have : p.size ≠ 0 := fun q => z (np.2 q); omega, by omega⟩)]
        exact so_1y bi ve d s t p ra n cap w c1 c2 c3 c3' c4 c5 (nt.2 (by omega)) (by omega) v.1 v.2 (isE z)
    · rw [yes false (by rw [gpB_1]; exact decide_eq_false (fun q => v (of_decide_eq_true q.2.1)))]
      exact so_1v bi ve d s t p ra n cap w c1 c2 c3 c3' c4 c5 (nt.2 (by omega)) (by omega) v
  · by_cases v : 1 ≤ ve ∧ ve ≤ 4294967295
    · have v' : okW 1 ve = true := decide_eq_true v
      by_cases z : p.toList = []
      · rw [yes false (by rw [gpB_2]; exact decide_eq_false (fun q => by have := np.1 z; omega))]
        exact so_2p bi ve d s t p ra n cap w c1 c2 c3 c3' c4 c5 (nt.2 (by omega)) (by omega) v.1 v.2 z
      · rw [yes true (by rw [gpB_2]; exact decide_eq_true ⟨c5, v', (by omega), by have : p.size ≠ 0 := fun q => z (np.2 q); omega, by omega⟩)]
        exact so_2y bi ve d s t p ra n cap w c1 c2 c3 c3' c4 c5 (nt.2 (by omega)) (by omega) v.1 v.2 (isE z)
    · rw [yes false (by rw [gpB_2]; exact decide_eq_false (fun q => v (of_decide_eq_true q.2.1)))]
      exact so_2v bi ve d s t p ra n cap w c1 c2 c3 c3' c4 c5 (nt.2 (by omega)) (by omega) v
  · by_cases v : 1 ≤ ve ∧ ve ≤ 4294967295
    · have v' : okW 1 ve = true := decide_eq_true v
      by_cases z : p.toList = []
      · rw [yes false (by rw [gpB_3]; exact decide_eq_false (fun q => by have := np.1 z; omega))]
        exact so_3p bi ve d s t p ra n cap w c1 c2 c3 c3' c4 c5 (nt.2 (by omega)) (by omega) v.1 v.2 z
      · rw [yes true (by rw [gpB_3]; exact decide_eq_true ⟨c5, v', (by omega), by have : p.size ≠ 0 := fun q => z (np.2 q); omega, by omega⟩)]
        exact so_3y bi ve d s t p ra n cap w c1 c2 c3 c3' c4 c5 (nt.2 (by omega)) (by omega) v.1 v.2 (isE z)
    · rw [yes false (by rw [gpB_3]; exact decide_eq_false (fun q => v (of_decide_eq_true q.2.1)))]
      exact so_3v bi ve d s t p ra n cap w c1 c2 c3 c3' c4 c5 (nt.2 (by omega)) (by omega) v
  · have z : t.size = 0 := by omega
    have e : gpB 4 ve s.size t.size p.size n V = g4 ve p.size n V := by
      rw [gpB_4, Bool.eq_iff_iff, g4_gv, decide_eq_true_eq]
      constructor
      · intro q; exact ⟨q.2.1, q.2.2.2.1, q.2.2.2.2⟩
      · intro q; exact ⟨c5, q.1, z, q.2.1, q.2.2⟩
    rw [yes _ e]
    rcases hR with rfl | ⟨g, off, rfl, hR⟩
    · rw [show g4 ve p.size 0 V = false from decide_eq_false (fun q => by omega)]
      exact so_4n bi ve d s t p ra cap w c1 c2 c3 c3' c4 c5 (nt.2 z)
    · exact sg_4 bi ve d s t p g off n cap V w hn hR c1 c2 c3 c3' c4 c5 (nt.2 z)
  · by_cases z : s.toList = []
    · by_cases v : ve = 0
      · subst v
        rw [yes true (by rw [gpB_5]; exact decide_eq_true ⟨c5, rfl, ns.1 z, by omega, by omega⟩)]
        exact so_5y bi d s t p ra n cap w c1 c2 c3 c3' c4 c5 (nt.2 (by omega)) (by omega) z
      · rw [yes false (by rw [gpB_5]; exact decide_eq_false (fun q => v q.2.1))]
        exact so_5v bi ve d s t p ra n cap w c1 c2 c3 c3' c4 c5 (nt.2 (by omega)) (by omega) z (beq_eq_false_iff_ne.2 v)
    · rw [yes false (by rw [gpB_5]; exact decide_eq_false (fun q => z (ns.2 q.2.2.1)))]
      exact so_5s bi ve d s t p ra n cap w c1 c2 c3 c3' c4 c5 (nt.2 (by omega)) (by omega) z
end Go.Proofs.YtgjohakjknmngaaDoor
