/-
  Contracts: the laws' own copies of lists and headers as rows of their own, their marks, and how they are held against each other where one may be empty.
-/
import Derived.Test.YtoeiicoaknnomaaVrp
namespace Go.Proofs.Ytoeiicoaknnomaa
open Go.ChangeShapes Go.WideShapes Go.ChangeAt Go.RowKit
set_option linter.unusedVariables false

theorem toIntS_w (a : Option Addr) (n cap : Nat) (V : Nat → Int) (w : World) (hn : n ≤ 1048576) (h : Ia w a n cap V) :
    Calls Try.prog 7 #[.slice a n cap] w fun e w' => e = .returned (.slice (some ⟨w.heap.size, 0, none⟩) n n) ∧ Iw w' w.heap.size w.heap.size n V ∧ Below w.heap.size w w' := by
  rcases h with rfl | ⟨b, off, rfl, h⟩
  · obtain ⟨i0, hi, hz0, hz1, hz2⟩ := infoI_parts
    obtain ⟨w1, hmk, hown, hgr⟩ := run_make_full (P := Try.prog) w w.heap.size 22 3 i0 _ 1 Try.underlying22 hi hz0 hz1 .i64 .i64 0 (by omega) (by unfold maxLen; omega) (Nat.le_refl _)
    have hb : Below w.heap.size w w1 := (Below.refl _ _).grown hgr (Nat.le_refl _) (fun k hk => by cases hk)
    have hI : Iw w1 w.heap.size w.heap.size 0 V := ⟨Nat.le_refl _, (hown.lt w.heap.size rfl).2, fun i hi => by omega, fun i hi => by omega, fun o => hown.frozenAt o⟩
    have hmk0 : (Instr.makeSlice 22 (.int .i64 0) (.int .i64 0)).run Try.prog w = .ok (.slice (some ⟨w.heap.size, 0, none⟩) 0 0) w1 := hmk
    have HI := hide hI
    clear hown hgr hi hz0 hz1 hz2 hmk hI
    go_enter Try.func7, Try.ntmps7
    go_wp2
    refine wp_loop_rounds 1 ?_
    rw [rounds_succ]
    go_wp2
    go_ret
    exact ⟨rfl, unhide HI, hb⟩
  · refine (toIntS_any b off n cap V w hn h).mono ?_
    rintro e w' ⟨rfl, hm⟩
    exact ⟨rfl, ⟨Nat.le_refl _, hm.lt, fun i hi => hm.cf i hi, h.bv, hm.fz⟩, hm.bel⟩

theorem Iw.setOther {w : World} {base g n : Nat} {V : Nat → Int} {a : Addr} {u : Value} (h : Iw w base g n V) (hne : a.block ≠ g) : Iw (w.setCell a u) base g n V := by
  refine ⟨h.ge, by simpa using h.lt, fun i hi => ?_, h.bv, fun o => by rw [frozen_set]; exact h.fz o⟩
  rw [World.cell?_setCell_other _ _ _ _ (by intro e; rw [e] at hne; simp at hne)]; exact h.cv i hi

set_option maxHeartbeats 1000000 in
theorem toHeader_w (f bi ve : Int) (d s t p : ByteArray) (ra : Option Addr) (n cap : Nat) (V : Nat → Int) (w : World) (hn : n ≤ 1048576) (h : Ia w ra n cap V) :
    Calls Try.prog 6 #[hv f bi ve d s t p ra n cap] w fun e w' =>
      ∃ g, e = .returned (hv f bi ve d s t p (some ⟨g, 0, none⟩) n n) ∧ Iw w' w.heap.size g n V ∧ Below w.heap.size w w' := by
  have HR := hide h
  clear h
  go_enter Try.func6, Try.ntmps6
  go_wp2_with fail
  refine (toIntS_w ra n cap V _ hn ((unhide HR).below ((((Below.refl _ _).alloc (Nat.le_refl _) _).alloc (by simp) _).alloc (by simp; omega) _))).mono ?_
  rintro e w2 ⟨rfl, hr2, hb2⟩
  obtain ⟨hc2, hf2⟩ := bcell hb2
  have hz2 : w.heap.size + 1 + 1 < w2.heap.size := by have := hb2.size; simp at this; omega
  have hr3 : Iw w2 w.heap.size (w.heap.size + 1 + 1 + 1) n V := by
    have := hr2
    simp at this
    exact ⟨by omega, this.lt, this.cv, this.bv, this.fz⟩
  have hb3 : Below w.heap.size w w2 := ((((Below.refl _ _).alloc (Nat.le_refl _) _).alloc (by simp) _).alloc (by simp; omega) _).trans (hb2.mono (by simp; omega))
  clear hr2
  have HI := hide hr3
  go_wp2
  refine bodyPost_ret (v := hv f bi ve d s t p (some ⟨w.heap.size + 1 + 1 + 1, 0, none⟩) n n) (by simp [results, Try.results6, go_sem, hc2]) rfl ⟨w.heap.size + 1 + 1 + 1, rfl, ?_, ?_⟩
  · iterate 9 refine Iw.setOther ?_ (by simp)
    exact unhide HI
  · iterate 9 refine Below.setCell ?_ (by simp <;> omega) _
    exact hb3

/-- the marks k, k + 1, .. -/
def mks (k : Int) (i : Nat) : Int := k + i
/-- all but block g is as it was -/
structure Kb (g : Nat) (w w' : World) : Prop where
  os : w'.os = w.os
  tape : w'.tape = w.tape
  output : w'.output = w.output
  size : w'.heap.size = w.heap.size
  block : ∀ k, k ≠ g → w'.heap[k]? = w.heap[k]?
theorem Kb.below {g : Nat} {w w' : World} (h : Kb g w w') {base : Nat} (hb : base ≤ g) : Below base w w' :=
  ⟨h.os, h.tape, h.output, Nat.le_of_eq h.size.symm, fun k hk => h.block k (by omega)⟩
theorem Kb.iw {g : Nat} {w w' : World} (h : Kb g w w') {base g' n : Nat} {V : Nat → Int} (hI : Iw w base g' n V) (hne : g' ≠ g) : Iw w' base g' n V := by
  have e := h.block g' hne
  exact ⟨hI.ge, by rw [h.size]; exact hI.lt, fun i hi => (World.cell?_of_block (a := ⟨g', i, none⟩) e).trans (hI.cv i hi), hI.bv, fun o => (World.frozen?_of_block (a := ⟨g', o, none⟩) e).trans (hI.fz o)⟩
theorem Kb.refl (g : Nat) (w : World) : Kb g w w := ⟨rfl, rfl, rfl, rfl, fun _ _ => rfl⟩
theorem Kb.set {g q : Nat} {w w' : World} {u : Value} (h : Kb g w w') : Kb g w (w'.setCell ⟨g, q, none⟩ u) :=
  ⟨h.os, h.tape, h.output, by simpa using h.size, fun k hk => (Below.heap_setCell w' ⟨g, q, none⟩ u k hk).trans (h.block k hk)⟩
/-- the first q are marked -/
def mx (k0 : Int) (V : Nat → Int) (q j : Nat) : Int := if j < q then k0 + j else V j
theorem Iw.mark {w : World} {base g n q : Nat} {V : Nat → Int} {k0 : Int} (h : Iw w base g n (mx k0 V q)) (hq : q < n) (hk0 : 0 ≤ k0) (hk1 : k0 ≤ 10000000) (hn : n ≤ 1048576) : Iw (w.setCell ⟨g, q, none⟩ (.int .i64 (k0 + q))) base g n (mx k0 V (q + 1)) := by
  refine ⟨h.ge, by simpa using h.lt, fun i hi => ?_, fun i hi => ?_, fun o => by rw [frozen_set]; exact h.fz o⟩
  · by_cases e : i = q
    · subst e
      rw [World.cell?_setCell_same _ _ _ (h.cv i hi)]
      simp [mx]
    · rw [World.cell?_setCell_other _ _ _ _ (by intro e'; simp at e' <;> omega), h.cv i hi]
      unfold mx
      by_cases l : i < q
      · rw [if_pos l, if_pos (by omega)]
      · rw [if_neg l, if_neg (by omega)]
  · have := h.bv i hi
    unfold mx at this ⊢
    by_cases l : i < q + 1
    · rw [if_pos l]; omega
    · rw [if_neg l]; rw [if_neg (by omega)] at this; exact this
theorem Iw.congr {w : World} {base g n : Nat} {V V' : Nat → Int} (h : Iw w base g n V) (e : ∀ i, i < n → V i = V' i) : Iw w base g n V' :=
  ⟨h.ge, h.lt, fun i hi => by rw [← e i hi]; exact h.cv i hi, fun i hi => by rw [← e i hi]; exact h.bv i hi, h.fz⟩
set_option maxHeartbeats 1000000 in
theorem markIntS_w (base g n cap : Nat) (V : Nat → Int) (w : World) (hn : n ≤ 1048576) (hI : Iw w base g n V) (k0 : Int) (hk0 : 0 ≤ k0) (hk1 : k0 ≤ 10000000) :
    Calls Try.prog 12 #[.slice (some ⟨g, 0, none⟩) n cap, .int .i64 k0] w fun e w' => e = .returned (.int .i64 (k0 + n)) ∧ Iw w' base g n (mks k0) ∧ Kb g w w' := by
  have HI : Hid (Iw w base g n (mx k0 V 0)) := hI.congr (fun i hi => by simp [mx])
  clear hI
  go_enter Try.func12, Try.ntmps12
  go_wp2
  go_loopw [1, 5] (fun k i wr => ∃ q : Nat, q ≤ n ∧ i = .int .i64 q ∧ k = .int .i64 (k0 + q) ∧ Iw wr base g n (mx k0 V q) ∧ Kb g w wr) (fun _ i _ => n - (intOf i).toNat)
  case atStart => exact ⟨0, Nat.zero_le _, rfl, by simp, unhide HI, Kb.refl _ _⟩
  case round =>
    obtain ⟨q, hq, rfl, rfl, hI, hK⟩ := hrel
    by_cases hlt : q < n
    · have hc := hI.cv q hlt
      have hf := hI.fz q
      have wk : IntKind.i64.wrap (k0 + (q : Int) + 1) = k0 + (q : Int) + 1 := by rw [IntKind.wrap_i64]; omega
      go_wp2
      exact ⟨⟨q + 1, by omega, by go_num, by go_num, hI.mark hlt hk0 hk1 hn, hK.set⟩, by simp [intOf]; omega⟩
    · obtain rfl : q = n := by omega
      go_wp2
      go_ret
      exact ⟨rfl, hI.congr (fun i hi => by simp [mx, mks, hi]), hK⟩
set_option maxHeartbeats 1000000 in
theorem heldIntS_w (base g n cap : Nat) (w : World) (hn : n ≤ 1048576) (k0 : Int) (hk0 : 0 ≤ k0) (hk1 : k0 ≤ 10000000) (hI : Iw w base g n (mks k0)) :
    Calls Try.prog 23 #[.slice (some ⟨g, 0, none⟩) n cap, .int .i64 k0] w fun e w' => e = .returned (.int .i64 (k0 + n)) ∧ w' = w := by
  have HI := hide hI
  clear hI
  go_enter Try.func23, Try.ntmps23
  go_wp2
  go_loopw [1, 5] (fun k i wr => ∃ q : Nat, q ≤ n ∧ i = .int .i64 q ∧ k = .int .i64 (k0 + q) ∧ wr = w) (fun _ i _ => n - (intOf i).toNat)
  case atStart => exact ⟨0, Nat.zero_le _, rfl, by simp, rfl⟩
  case round =>
    obtain ⟨q, hq, rfl, rfl, rfl⟩ := hrel
    by_cases hlt : q < n
    · have hc : wr.cell? ⟨g, q, none⟩ = some (.int .i64 (k0 + (q : Int))) := (unhide HI).cv q hlt
      have wk : IntKind.i64.wrap (k0 + (q : Int) + 1) = k0 + (q : Int) + 1 := by rw [IntKind.wrap_i64]; omega
      go_wp2
      exact ⟨⟨q + 1, by omega, by go_num, by go_num, by first | trivial | rfl⟩, by simp [intOf]; omega⟩
    · obtain rfl : q = n := by omega
      go_wp2
      go_ret
      exact ⟨rfl, rfl⟩
theorem markIntS_nil (a : Option Addr) (cap : Nat) (k0 : Int) (w : World) :
    Calls Try.prog 12 #[.slice a 0 cap, .int .i64 k0] w fun e w' => e = .returned (.int .i64 k0) ∧ w' = w := by
  go_enter Try.func12, Try.ntmps12
  go_wp2
  refine wp_loop_rounds 1 ?_
  rw [rounds_succ]
  go_wp2
  go_ret
  exact ⟨rfl, rfl⟩
theorem heldIntS_nil (a : Option Addr) (cap : Nat) (k0 : Int) (w : World) :
    Calls Try.prog 23 #[.slice a 0 cap, .int .i64 k0] w fun e w' => e = .returned (.int .i64 k0) ∧ w' = w := by
  go_enter Try.func23, Try.ntmps23
  go_wp2
  refine wp_loop_rounds 1 ?_
  rw [rounds_succ]
  go_wp2
  go_ret
  exact ⟨rfl, rfl⟩
/-- a list handed out: nothing, or a row of the call's own -/
def Io (w : World) (base : Nat) (ra : Option Addr) (n cap : Nat) (V : Nat → Int) : Prop := (ra = none ∧ n = 0) ∨ ∃ g, ra = some ⟨g, 0, none⟩ ∧ Iw w base g n V
end Go.Proofs.Ytoeiicoaknnomaa
