/-
  Contracts: rows of words: the laws' own copies, marks, and how they are held against each other.
-/
import Derived.Test.YtcedecmapgfkhaaDoorOww
import Derived.Deep.QuietTactic
import Derived.BigQuiet
import Derived.Laws.ResultCell
import Derived.Deep.RegionWith
namespace Go.Proofs.YtcedecmapgfkhaaDoor
open Go.ChangeShapes Go.WideShapes Go.ChangeAt Go.RowKit
set_option linter.unusedVariables false

/-- words at a place of a block, to be read -/
structure Rw (w : World) (b o n : Nat) (f : Nat → Nat) : Prop where
  c : ∀ i, i < n → w.cell? ⟨b, o + i, none⟩ = some (.int .u32 (f i : Nat))
  lt : b < w.heap.size
theorem Aw.r {w : World} {b o n : Nat} {f : Nat → Nat} (h : Aw w b o n f) : Rw w b o n f := ⟨h.c, h.lt⟩
theorem Rw.below {w w' : World} {B b o n : Nat} {f : Nat → Nat} (h : Rw w b o n f) (hb : Below B w w') (hB : b < B) : Rw w' b o n f :=
  ⟨fun i hi => by rw [hb.cell (p := ⟨b, o + i, none⟩) hB]; exact h.c i hi, Nat.lt_of_lt_of_le h.lt hb.size⟩
theorem Rw.kept {w w' : World} {b o n : Nat} {f : Nat → Nat} (h : Rw w b o n f) (hb : Below w.heap.size w w') : Rw w' b o n f := h.below hb h.lt
theorem Rw.congr {w : World} {b o n : Nat} {f g : Nat → Nat} (h : Rw w b o n f) (e : ∀ i, i < n → f i = g i) : Rw w b o n g :=
  ⟨fun i hi => by rw [h.c i hi, e i hi], h.lt⟩
theorem Rw.range {w : World} {b o n : Nat} {f : Nat → Nat} (h : Rw w b o n f) : w.rangeAt b o (uw n f) := by
  intro j v hv
  simp only [uw_def, List.getElem?_map] at hv
  by_cases e : j < n
  · rw [List.getElem?_range e] at hv
    simp at hv
    subst hv
    exact h.c j e
  · rw [List.getElem?_eq_none (by simp; omega)] at hv
    simp at hv
/-- all but block g is as it was -/
structure Kb (g : Nat) (w w' : World) : Prop where
  os : w'.os = w.os
  tape : w'.tape = w.tape
  output : w'.output = w.output
  size : w'.heap.size = w.heap.size
  block : ∀ k, k ≠ g → w'.heap[k]? = w.heap[k]?
theorem Kb.below {g : Nat} {w w' : World} (h : Kb g w w') {base : Nat} (hb : base ≤ g) : Below base w w' :=
  ⟨h.os, h.tape, h.output, Nat.le_of_eq h.size.symm, fun k hk => h.block k (by omega)⟩
theorem Kb.refl (g : Nat) (w : World) : Kb g w w := ⟨rfl, rfl, rfl, rfl, fun _ _ => rfl⟩
theorem Kb.set {g q : Nat} {w w' : World} {u : Value} (h : Kb g w w') : Kb g w (w'.setCell ⟨g, q, none⟩ u) :=
  ⟨h.os, h.tape, h.output, by simpa using h.size, fun k hk => (Below.heap_setCell w' ⟨g, q, none⟩ u k hk).trans (h.block k hk)⟩
theorem Kb.rw {g b o n : Nat} {f : Nat → Nat} {w w' : World} (h : Kb g w w') (hI : Rw w b o n f) (hne : b ≠ g) : Rw w' b o n f := by
  have e := h.block b hne
  exact ⟨fun i hi => (World.cell?_of_block (a := ⟨b, o + i, none⟩) e).trans (hI.c i hi), by rw [h.size]; exact hI.lt⟩
theorem Kb.aw {g b o n : Nat} {f : Nat → Nat} {w w' : World} (h : Kb g w w') (hI : Aw w b o n f) (hne : b ≠ g) : Aw w' b o n f := by
  have e := h.block b hne
  exact ⟨fun i hi => (World.cell?_of_block (a := ⟨b, o + i, none⟩) e).trans (hI.c i hi), fun i hi => (World.frozen?_of_block (a := ⟨b, o + i, none⟩) e).trans (hI.fz i hi), by rw [h.size]; exact hI.lt⟩
/-- the marks k, k + 1, .. -/
def mk1 (k i : Nat) : Nat := k + i

set_option maxHeartbeats 1000000 in
theorem eqU_same (b o n cap b' o' cap' : Nat) (f : Nat → Nat) (w : World) (hn : n ≤ 1048576) (h : Rw w b o n f) (h' : Rw w b' o' n f) :
    Calls Tryd.prog 25 #[.slice (some ⟨b, o, none⟩) n cap, .slice (some ⟨b', o', none⟩) n cap'] w fun e w' => e = .returned (.bool true) ∧ Below w.heap.size w w' := by
  have HR := hide h
  have HR' := hide h'
  clear h h'
  go_enter Tryd.func25, Tryd.ntmps25
  go_wp2
  go_loopw [5] (fun i wr => ∃ k : Nat, k ≤ n ∧ i = .int .i64 k ∧ Below w.heap.size w wr) (fun i _ => n - (intOf i).toNat)
  case atStart => exact ⟨0, Nat.zero_le _, rfl, Below.refl _ _⟩
  case round =>
    obtain ⟨k, hk, rfl, hbel⟩ := hrel
    by_cases hlt : k < n
    · have hcf := ((unhide HR).kept hbel).c k hlt
      have hcf' := ((unhide HR').kept hbel).c k hlt
      have hnk : (k : Int) < (n : Int) := by omega
      have hk0 : (0 : Int) ≤ (k : Int) := by omega
      go_wp2_with fail
      go_quiet (fail)
      all_goals
        go_wp2
        exact ⟨⟨k + 1, by omega, by go_num, below_drewN hbel _⟩, by simp [intOf]; omega⟩
    · go_wp2
      go_ret
      exact ⟨rfl, hbel⟩
theorem eqU_none (a a' : Option Addr) (cap cap' : Nat) (w : World) :
    Calls Tryd.prog 25 #[.slice a 0 cap, .slice a' 0 cap'] w fun e w' => e = .returned (.bool true) ∧ Below w.heap.size w w' := by
  go_enter Tryd.func25, Tryd.ntmps25
  go_wp2
  refine wp_loop_rounds 1 ?_
  rw [rounds_succ]
  go_wp2
  go_ret
  exact ⟨rfl, Below.refl _ _⟩
set_option maxHeartbeats 1000000 in
theorem markU (b n cap k0 : Nat) (f : Nat → Nat) (w : World) (hn : n ≤ 1048576) (hk0 : k0 ≤ 1048576) (h : Aw w b 0 n f) :
    Calls Tryd.prog 26 #[.slice (some ⟨b, 0, none⟩) n cap, .int .i64 k0] w fun e w' => e = .returned (.int .i64 ((k0 + n : Nat) : Int)) ∧ Aw w' b 0 n (mk1 k0) ∧ Kb b w w' := by
  go_enter Tryd.func26, Tryd.ntmps26
  go_wp2_with fail
  go_loopw [1, 5] (fun kv iv wr => ∃ i : Nat, i ≤ n ∧ iv = .int .i64 i ∧ kv = .int .i64 ((k0 + i : Nat) : Int) ∧ Aw wr b 0 n (stp (mk1 k0) f i) ∧ Kb b w wr) (fun _ iv _ => n - (intOf iv).toNat)
  case atStart => exact ⟨0, by omega, rfl, rfl, h.stepNone, Kb.refl _ _⟩
  case round =>
    obtain ⟨i, hi, rfl, rfl, hA, hK⟩ := hrel
    by_cases hlt : i < n
    · have hc := hA.c0 i hlt
      have hf := hA.f0 i hlt
      have H1 := hide (hA.step hlt (x := k0 + i) rfl)
      have H2 := hide (hK.set (q := i) (u := .int .u32 ((k0 + i : Nat) : Int)))
      clear hA hK h
      rw [Int.natCast_add] at H1 H2 ⊢
      go_wp2_with fail
      exact ⟨⟨i + 1, by omega, by go_num, by go_num, unhide H1, unhide H2⟩, by simp [intOf]; omega⟩
    · obtain rfl : i = n := by omega
      go_wp2
      go_ret
      exact ⟨rfl, hA.stepEnd, hK⟩
set_option maxHeartbeats 1000000 in
theorem heldU (b n cap k0 : Nat) (w : World) (hn : n ≤ 1048576) (hk0 : k0 ≤ 1048576) (h : Rw w b 0 n (mk1 k0)) :
    Calls Tryd.prog 27 #[.slice (some ⟨b, 0, none⟩) n cap, .int .i64 k0] w fun e w' => e = .returned (.int .i64 ((k0 + n : Nat) : Int)) ∧ Below w.heap.size w w' := by
  go_enter Tryd.func27, Tryd.ntmps27
  go_wp2_with fail
  have HR := hide h
  clear h
  go_loopw [1, 5] (fun kv iv wr => ∃ i : Nat, i ≤ n ∧ iv = .int .i64 i ∧ kv = .int .i64 ((k0 + i : Nat) : Int) ∧ Below w.heap.size w wr) (fun _ iv _ => n - (intOf iv).toNat)
  case atStart => exact ⟨0, by omega, rfl, rfl, Below.refl _ _⟩
  case round =>
    obtain ⟨i, hi, rfl, rfl, hB⟩ := hrel
    by_cases hlt : i < n
    · have hc := ((unhide HR).kept hB).c i hlt
      unfold mk1 at hc
      rw [Nat.zero_add] at hc
      generalize hx : k0 + i = x at *
      have hxb : x < 4294967296 := by omega
      go_wp2_with fail
      exact ⟨⟨i + 1, by omega, by go_num, by go_num, hB⟩, by simp [intOf]; omega⟩
    · obtain rfl : i = n := by omega
      go_wp2
      go_ret
      exact ⟨rfl, hB⟩
/-- a slice of words that came in -/
def Ua (w : World) (a : Option Addr) (n : Nat) (f : Nat → Nat) : Prop := n = 0 ∨ ∃ b o, a = some ⟨b, o, none⟩ ∧ Rw w b o n f
theorem Ua.kept {w w' : World} {B : Nat} {a : Option Addr} {n : Nat} {f : Nat → Nat} (h : Ua w a n f) (hb : Below w.heap.size w w') : Ua w' a n f := by
  rcases h with h | ⟨b, o, e, h⟩
  · exact Or.inl h
  · exact Or.inr ⟨b, o, e, h.kept hb⟩
set_option maxHeartbeats 1000000 in
theorem toU_any (a : Option Addr) (n cap : Nat) (f : Nat → Nat) (w : World) (hn : n ≤ 1048576) (h : Ua w a n f) :
    Calls Tryd.prog 29 #[.slice a n cap] w fun e w' => e = .returned (.slice (some ⟨w.heap.size, 0, none⟩) n n) ∧ Aw w' w.heap.size 0 n f ∧ Below w.heap.size w w' := by
  have hmk := mk_words n hn w
  have hN := Aw.new w n (fun _ => 0) 27
  have hB := (Below.refl w.heap.size w).alloc (Nat.le_refl _) (.cells (uw n fun _ => 0).toArray 27)
  generalize w.alloc (.cells (uw n fun _ => 0).toArray 27) = W at hmk hN hB
  have HN := hide hN
  have HB := hide hB
  have HU := hide h
  clear hN hB h
  go_enter Tryd.func29, Tryd.ntmps29
  go_wp2
  go_loopw [4] (fun i wr => ∃ k : Nat, k ≤ n ∧ i = .int .i64 k ∧ Aw wr w.heap.size 0 n (stp f (fun _ => 0) k) ∧ Below w.heap.size w wr) (fun i _ => n - (intOf i).toNat)
  case atStart => exact ⟨0, by omega, rfl, (unhide HN).stepNone, unhide HB⟩
  case round =>
    obtain ⟨k, hk, rfl, hA, hBr⟩ := hrel
    by_cases hlt : k < n
    · obtain ⟨b, o, rfl, hR⟩ : ∃ b o, a = some ⟨b, o, none⟩ ∧ Rw w b o n f := by
        rcases unhide HU with h | h
        · omega
        · exact h
      have c1 := (hR.kept hBr).c k hlt
      have c0 := hA.c0 k hlt
      have f0 := hA.f0 k hlt
      have q0 := hide (hA.step hlt (x := f k) rfl)
      have q1 := hide (hBr.setCell (p := ⟨w.heap.size, k, none⟩) (Nat.le_refl _) (.int .u32 ((f k : Nat) : Int)))
      clear hA hBr hR HN HB HU
      go_wp2
      exact ⟨⟨k + 1, by omega, by go_num, unhide q0, unhide q1⟩, by simp [intOf]; omega⟩
    · obtain rfl : k = n := by omega
      have q0 := hide hA.stepEnd
      have q1 := hide hBr
      clear hA hBr HN HB HU
      go_wp2
      go_ret
      exact ⟨rfl, unhide q0, unhide q1⟩
theorem markU_none (k0 : Int) (w : World) :
    Calls Tryd.prog 26 #[.slice none 0 0, .int .i64 k0] w fun e w' => e = .returned (.int .i64 k0) ∧ Below w.heap.size w w' := by
  go_enter Tryd.func26, Tryd.ntmps26
  go_wp2
  refine wp_loop_rounds 1 ?_
  rw [rounds_succ]
  go_wp2
  go_ret
  exact ⟨rfl, Below.refl _ _⟩
theorem heldU_none (k0 : Int) (w : World) :
    Calls Tryd.prog 27 #[.slice none 0 0, .int .i64 k0] w fun e w' => e = .returned (.int .i64 k0) ∧ Below w.heap.size w w' := by
  go_enter Tryd.func27, Tryd.ntmps27
  go_wp2
  refine wp_loop_rounds 1 ?_
  rw [rounds_succ]
  go_wp2
  go_ret
  exact ⟨rfl, Below.refl _ _⟩
end Go.Proofs.YtcedecmapgfkhaaDoor
