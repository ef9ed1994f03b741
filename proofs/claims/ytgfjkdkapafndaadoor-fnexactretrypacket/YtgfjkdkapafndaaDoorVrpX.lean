/-
  Contracts: small things that VersionAnswer's law asks for: a number looked for in a list, copies of lists and texts, marks. Contracts: the laws' own copies of lists and headers as rows of their own, their marks, and how they are held against each other where one may be empty. Contracts: marks of headers whose versions are a row of the call's own or none; headers without versions held against each other.
-/
import Derived.Test.YtgfjkdkapafndaaDoorIntsX
import Derived.Test.YtgfjkdkapafndaaDoorShelf
import Derived.Deep.AppendLies
namespace Go.Proofs.YtgfjkdkapafndaaDoor
open Go.ChangeShapes Go.WideShapes Go.ChangeAt Go.RowKit
set_option linter.unusedVariables false
set_option maxRecDepth 100000

/-- the first n of some numbers, as a list -/
def ls (V : Nat → Int) (n : Nat) : List Int := (List.range n).map V
theorem ls_length (V : Nat → Int) (n : Nat) : (ls V n).length = n := by simp [ls]
theorem ls_getD (V : Nat → Int) (n j : Nat) (h : j < n) : (ls V n).getD j 0 = V j := by simp [ls, List.getD, h]
/-- x is among the first n -/
def has (V : Nat → Int) (n : Nat) (x : Int) : Bool := (ls V n).contains x
theorem has_no {V : Nat → Int} {n : Nat} {x : Int} (h : ∀ j, j < n → (V j == x) = false) : has V n x = false := by
  unfold has
  rw [Bool.eq_false_iff]
  intro q
  rw [List.contains_iff_mem] at q
  obtain ⟨j, hj, e⟩ := List.mem_map.1 q
  have := h j (List.mem_range.1 hj)
  rw [e] at this
  simp at this
theorem has_yes {V : Nat → Int} {n k : Nat} {x : Int} (hk : k < n) (h : V k = x) : has V n x = true := by
  unfold has
  rw [List.contains_iff_mem]
  exact List.mem_map.2 ⟨k, List.mem_range.2 hk, h⟩

/-- a row of n numbers of the call's own, in block g, which was new at 'base' -/
structure Iw (w : World) (base g n : Nat) (V : Nat → Int) : Prop where
  ge : base ≤ g
  lt : g < w.heap.size
  cv : ∀ i, i < n → w.cell? ⟨g, i, none⟩ = some (.int .i64 (V i))
  bv : ∀ i, i < n → -9223372036854775808 ≤ V i ∧ V i ≤ 9223372036854775807
  fz : ∀ o, w.frozen? ⟨g, o, none⟩ = false
theorem Iw.ir {w : World} {base g n : Nat} {V : Nat → Int} (h : Iw w base g n V) : Ir w g 0 n V := ⟨Or.inr h.lt, fun i hi => by rw [Nat.zero_add]; exact h.cv i hi, h.bv⟩
theorem Iw.below {w w' : World} {base g n : Nat} {V : Nat → Int} (h : Iw w base g n V) (hb : Below w.heap.size w w') : Iw w' base g n V :=
  ⟨h.ge, Nat.lt_of_lt_of_le h.lt hb.size, fun i hi => (hb.cell (p := ⟨g, i, none⟩) h.lt).trans (h.cv i hi), h.bv, fun o => (hb.frozen (p := ⟨g, o, none⟩) h.lt).trans (h.fz o)⟩
theorem Iw.of_own {w : World} {base n : Nat} {V : Nat → Int} {v : Value} (h : w.ownsRow base 3 1 v n ((ls V n).map (Value.int .i64))) (hn : 1 ≤ n) (hV : ∀ i, i < n → -9223372036854775808 ≤ V i ∧ V i ≤ 9223372036854775807) :
    ∃ g cap, v = .slice (some ⟨g, 0, none⟩) n cap ∧ n ≤ cap ∧ Iw w base g n V := by
  rcases h.2 with ⟨_, e⟩ | ⟨g, cap, cur, rfl, hb, hg, hc, hm, hs, ht⟩
  · omega
  · have hl := ls_length V n
    refine ⟨g, cap, rfl, hc, hb, ?_, ?_, hV, ?_⟩
    · rcases Nat.lt_or_ge g w.heap.size with h' | h'
      · exact h'
      · rw [Array.getElem?_eq_none h'] at hg; cases hg
    · intro i hi
      rw [cell_of_row w g i cur 3 (0, 0) hg]
      have h1 : (cur.toList.take (n * 1))[i]? = ((ls V n).map (Value.int .i64))[i]? := by rw [ht]
      rw [List.getElem?_take, if_pos (by omega), List.getElem?_map] at h1
      rw [← Array.getElem?_toList, h1, List.getElem?_eq_getElem (by omega)]
      simp [ls]
    · exact fun o => frozen_of_row w g o cur _ hg
theorem clone_text (s : ByteArray) (w : World) (hs : s.size ≤ 1048576) :
    Calls Tryd.prog 19 #[.string s] w fun e w' => e = .returned (.string s) ∧ Below w.heap.size w w' := by
  have HC := hide (fun W => Tryd.stringslite_Clone s W (by omega))
  go_enter Tryd.func19, Tryd.ntmps19
  go_wp2_with (go_at_call 33; refine (unhide HC _).mono ?_; rintro e w1 ⟨rfl, hb1⟩)
  go_ret
  exact ⟨rfl, hb1⟩
end Go.Proofs.YtgfjkdkapafndaaDoor
namespace Go.Proofs.YtgfjkdkapafndaaDoor
open Go.ChangeShapes Go.WideShapes Go.ChangeAt Go.RowKit
set_option linter.unusedVariables false
set_option maxRecDepth 100000

theorem toIntS_w (a : Option Addr) (n cap : Nat) (V : Nat → Int) (w : World) (hn : n ≤ 1048576) (h : Ia w a n cap V) :
    Calls Tryd.prog 16 #[.slice a n cap] w fun e w' => e = .returned (.slice (some ⟨w.heap.size, 0, none⟩) n n) ∧ Iw w' w.heap.size w.heap.size n V ∧ Below w.heap.size w w' := by
  rcases h with rfl | ⟨b, off, rfl, h⟩
  · obtain ⟨i0, hi, hz0, hz1, hz2⟩ := infoI_parts
    obtain ⟨w1, hmk, hown, hgr⟩ := run_make_full (P := Tryd.prog) w w.heap.size 22 3 i0 _ 1 Tryd.underlying22 hi hz0 hz1 .i64 .i64 0 (by omega) (by unfold maxLen; omega) (Nat.le_refl _)
    have hb : Below w.heap.size w w1 := (Below.refl _ _).grown hgr (Nat.le_refl _) (fun k hk => by cases hk)
    have hI : Iw w1 w.heap.size w.heap.size 0 V := ⟨Nat.le_refl _, (hown.lt w.heap.size rfl).2, fun i hi => by omega, fun i hi => by omega, fun o => hown.frozenAt o⟩
    have hmk0 : (Instr.makeSlice 22 (.int .i64 0) (.int .i64 0)).run Tryd.prog w = .ok (.slice (some ⟨w.heap.size, 0, none⟩) 0 0) w1 := hmk
    have HI := hide hI
    clear hown hgr hi hz0 hz1 hz2 hmk hI
    go_enter Tryd.func16, Tryd.ntmps16
    go_wp2
    refine wp_loop_rounds 1 ?_
    rw [rounds_succ]
    go_wp2
    go_ret
    exact ⟨rfl, unhide HI, hb⟩
  · refine (toIntS_any b off n cap V w hn h).mono ?_
    rintro e w' ⟨rfl, hm⟩
    exact ⟨rfl, ⟨Nat.le_refl _, hm.lt, fun i hi => hm.cf i hi, h.bv, hm.fz⟩, hm.bel⟩

theorem Iw.setOther {w : World} {base g n : Nat} {V : Nat → Int} {a : Addr} {u : Value} (h : Iw w base g n V) (hne : a.block ≠ g) : Iw (w.setCell a u) base g n V := by
  refine ⟨h.ge, by simpa using h.lt, fun i hi => ?_, h.bv, fun o => by rw [frozen_set]; exact h.fz o⟩
  rw [World.cell?_setCell_other _ _ _ _ (by intro e; rw [e] at hne; simp at hne)]; exact h.cv i hi

set_option maxHeartbeats 1000000 in
theorem toHeader_w (f bi ve : Int) (d s t p : ByteArray) (ra : Option Addr) (n cap : Nat) (V : Nat → Int) (w : World) (hn : n ≤ 1048576) (h : Ia w ra n cap V) :
    Calls Tryd.prog 6 #[hv f bi ve d s t p ra n cap] w fun e w' =>
      ∃ g, e = .returned (hv f bi ve d s t p (some ⟨g, 0, none⟩) n n) ∧ Iw w' w.heap.size g n V ∧ Below w.heap.size w w' := by
  have HR := hide h
  clear h
  go_enter Tryd.func6, Tryd.ntmps6
  go_wp2_with fail
  refine (toIntS_w ra n cap V _ hn ((unhide HR).below ((((Below.refl _ _).alloc (Nat.le_refl _) _).alloc (by simp) _).alloc (by simp; omega) _))).mono ?_
  rintro e w2 ⟨rfl, hr2, hb2⟩
  obtain ⟨hc2, hf2⟩ := bcell hb2
  have hz2 : w.heap.size + 1 + 1 < w2.heap.size := by have := hb2.size; simp at this; omega
  have hr3 : Iw w2 w.heap.size (w.heap.size + 1 + 1 + 1) n V := by
    have := hr2
    simp at this
    exact ⟨by omega, this.lt, this.cv, this.bv, this.fz⟩
  have hb3 : Below w.heap.size w w2 := ((((Below.refl _ _).alloc (Nat.le_refl _) _).alloc (by simp) _).alloc (by simp; omega) _).trans (hb2.mono (by simp; omega))
  clear hr2
  have HI := hide hr3
  go_wp2
  refine bodyPost_ret (v := hv f bi ve d s t p (some ⟨w.heap.size + 1 + 1 + 1, 0, none⟩) n n) (by simp [results, Tryd.results6, go_sem, hc2]) rfl ⟨w.heap.size + 1 + 1 + 1, rfl, ?_, ?_⟩
  · iterate 9 refine Iw.setOther ?_ (by simp)
    exact unhide HI
  · iterate 9 refine Below.setCell ?_ (by simp <;> omega) _
    exact hb3

/-- the marks k, k + 1, .. -/
def mks (k : Int) (i : Nat) : Int := k + i
/-- all but block g is as it was -/
structure Kb (g : Nat) (w w' : World) : Prop where
  os : w'.os = w.os
  tape : w'.tape = w.tape
  output : w'.output = w.output
  size : w'.heap.size = w.heap.size
  block : ∀ k, k ≠ g → w'.heap[k]? = w.heap[k]?
theorem Kb.below {g : Nat} {w w' : World} (h : Kb g w w') {base : Nat} (hb : base ≤ g) : Below base w w' :=
  ⟨h.os, h.tape, h.output, Nat.le_of_eq h.size.symm, fun k hk => h.block k (by omega)⟩
theorem Kb.iw {g : Nat} {w w' : World} (h : Kb g w w') {base g' n : Nat} {V : Nat → Int} (hI : Iw w base g' n V) (hne : g' ≠ g) : Iw w' base g' n V := by
  have e := h.block g' hne
  exact ⟨hI.ge, by rw [h.size]; exact hI.lt, fun i hi => (World.cell?_of_block (a := ⟨g', i, none⟩) e).trans (hI.cv i hi), hI.bv, fun o => (World.frozen?_of_block (a := ⟨g', o, none⟩) e).trans (hI.fz o)⟩
theorem Kb.refl (g : Nat) (w : World) : Kb g w w := ⟨rfl, rfl, rfl, rfl, fun _ _ => rfl⟩
theorem Kb.set {g q : Nat} {w w' : World} {u : Value} (h : Kb g w w') : Kb g w (w'.setCell ⟨g, q, none⟩ u) :=
  ⟨h.os, h.tape, h.output, by simpa using h.size, fun k hk => (Below.heap_setCell w' ⟨g, q, none⟩ u k hk).trans (h.block k hk)⟩
/-- the first q are marked -/
def mx (k0 : Int) (V : Nat → Int) (q j : Nat) : Int := if j < q then k0 + j else V j
theorem Iw.mark {w : World} {base g n q : Nat} {V : Nat → Int} {k0 : Int} (h : Iw w base g n (mx k0 V q)) (hq : q < n) (hk0 : 0 ≤ k0) (hk1 : k0 ≤ 10000000) (hn : n ≤ 1048576) : Iw (w.setCell ⟨g, q, none⟩ (.int .i64 (k0 + q))) base g n (mx k0 V (q + 1)) := by
  refine ⟨h.ge, by simpa using h.lt, fun i hi => ?_, fun i hi => ?_, fun o => by rw [frozen_set]; exact h.fz o⟩
  · by_cases e : i = q
    · subst e
      rw [World.cell?_setCell_same _ _ _ (h.cv i hi)]
      simp [mx]
    · rw [World.cell?_setCell_other _ _ _ _ (by intro e'; simp at e' <;> omega), h.cv i hi]
      unfold mx
      by_cases l : i < q
      · rw [if_pos l, if_pos (by omega)]
      · rw [if_neg l, if_neg (by omega)]
  · have := h.bv i hi
    unfold mx at this ⊢
    by_cases l : i < q + 1
    · rw [if_pos l]; omega
    · rw [if_neg l]; rw [if_neg (by omega)] at this; exact this
theorem Iw.congr {w : World} {base g n : Nat} {V V' : Nat → Int} (h : Iw w base g n V) (e : ∀ i, i < n → V i = V' i) : Iw w base g n V' :=
  ⟨h.ge, h.lt, fun i hi => by rw [← e i hi]; exact h.cv i hi, fun i hi => by rw [← e i hi]; exact h.bv i hi, h.fz⟩
set_option maxHeartbeats 1000000 in
theorem markIntS_w (base g n cap : Nat) (V : Nat → Int) (w : World) (hn : n ≤ 1048576) (hI : Iw w base g n V) (k0 : Int) (hk0 : 0 ≤ k0) (hk1 : k0 ≤ 10000000) :
    Calls Tryd.prog 23 #[.slice (some ⟨g, 0, none⟩) n cap, .int .i64 k0] w fun e w' => e = .returned (.int .i64 (k0 + n)) ∧ Iw w' base g n (mks k0) ∧ Kb g w w' := by
  have HI : Hid (Iw w base g n (mx k0 V 0)) := hI.congr (fun i hi => by simp [mx])
  clear hI
  go_enter Tryd.func23, Tryd.ntmps23
  go_wp2
  go_loopw [1, 5] (fun k i wr => ∃ q : Nat, q ≤ n ∧ i = .int .i64 q ∧ k = .int .i64 (k0 + q) ∧ Iw wr base g n (mx k0 V q) ∧ Kb g w wr) (fun _ i _ => n - (intOf i).toNat)
  case atStart => exact ⟨0, Nat.zero_le _, rfl, by simp, unhide HI, Kb.refl _ _⟩
  case round =>
    obtain ⟨q, hq, rfl, rfl, hI, hK⟩ := hrel
    by_cases hlt : q < n
    · have hc := hI.cv q hlt
      have hf := hI.fz q
      have wk : IntKind.i64.wrap (k0 + (q : Int) + 1) = k0 + (q : Int) + 1 := by rw [IntKind.wrap_i64]; omega
      go_wp2
      exact ⟨⟨q + 1, by omega, by go_num, by go_num, hI.mark hlt hk0 hk1 hn, hK.set⟩, by simp [intOf]; omega⟩
    · obtain rfl : q = n := by omega
      go_wp2
      go_ret
      exact ⟨rfl, hI.congr (fun i hi => by simp [mx, mks, hi]), hK⟩
set_option maxHeartbeats 1000000 in
theorem heldIntS_w (base g n cap : Nat) (w : World) (hn : n ≤ 1048576) (k0 : Int) (hk0 : 0 ≤ k0) (hk1 : k0 ≤ 10000000) (hI : Iw w base g n (mks k0)) :
    Calls Tryd.prog 24 #[.slice (some ⟨g, 0, none⟩) n cap, .int .i64 k0] w fun e w' => e = .returned (.int .i64 (k0 + n)) ∧ w' = w := by
  have HI := hide hI
  clear hI
  go_enter Tryd.func24, Tryd.ntmps24
  go_wp2
  go_loopw [1, 5] (fun k i wr => ∃ q : Nat, q ≤ n ∧ i = .int .i64 q ∧ k = .int .i64 (k0 + q) ∧ wr = w) (fun _ i _ => n - (intOf i).toNat)
  case atStart => exact ⟨0, Nat.zero_le _, rfl, by simp, rfl⟩
  case round =>
    obtain ⟨q, hq, rfl, rfl, rfl⟩ := hrel
    by_cases hlt : q < n
    · have hc : wr.cell? ⟨g, q, none⟩ = some (.int .i64 (k0 + (q : Int))) := (unhide HI).cv q hlt
      have wk : IntKind.i64.wrap (k0 + (q : Int) + 1) = k0 + (q : Int) + 1 := by rw [IntKind.wrap_i64]; omega
      go_wp2
      exact ⟨⟨q + 1, by omega, by go_num, by go_num, by first | trivial | rfl⟩, by simp [intOf]; omega⟩
    · obtain rfl : q = n := by omega
      go_wp2
      go_ret
      exact ⟨rfl, rfl⟩
theorem markIntS_nil (a : Option Addr) (cap : Nat) (k0 : Int) (w : World) :
    Calls Tryd.prog 23 #[.slice a 0 cap, .int .i64 k0] w fun e w' => e = .returned (.int .i64 k0) ∧ w' = w := by
  go_enter Tryd.func23, Tryd.ntmps23
  go_wp2
  refine wp_loop_rounds 1 ?_
  rw [rounds_succ]
  go_wp2
  go_ret
  exact ⟨rfl, rfl⟩
theorem heldIntS_nil (a : Option Addr) (cap : Nat) (k0 : Int) (w : World) :
    Calls Tryd.prog 24 #[.slice a 0 cap, .int .i64 k0] w fun e w' => e = .returned (.int .i64 k0) ∧ w' = w := by
  go_enter Tryd.func24, Tryd.ntmps24
  go_wp2
  refine wp_loop_rounds 1 ?_
  rw [rounds_succ]
  go_wp2
  go_ret
  exact ⟨rfl, rfl⟩
/-- a list handed out: nothing, or a row of the call's own -/
def Io (w : World) (base : Nat) (ra : Option Addr) (n cap : Nat) (V : Nat → Int) : Prop := (ra = none ∧ n = 0) ∨ ∃ g, ra = some ⟨g, 0, none⟩ ∧ Iw w base g n V
end Go.Proofs.YtgfjkdkapafndaaDoor
namespace Go.Proofs.YtgfjkdkapafndaaDoor
open Go.ChangeShapes Go.WideShapes Go.ChangeAt Go.RowKit
set_option linter.unusedVariables false
set_option maxRecDepth 100000

theorem eqIs_nil (a b : Option Addr) (cap cap' : Nat) (w : World) :
    Calls Tryd.prog 22 #[.slice a 0 cap, .slice b 0 cap'] w fun e w' => e = .returned (.bool true) ∧ Below w.heap.size w w' := by
  go_enter Tryd.func22, Tryd.ntmps22
  go_wp2
  refine wp_loop_rounds 1 ?_
  rw [rounds_succ]
  go_wp2
  go_ret
  exact ⟨rfl, Below.refl _ _⟩
set_option maxHeartbeats 1000000 in
theorem eqHd_nil (f bi ve : Int) (d s t p : ByteArray) (w : World) : Calls Tryd.prog 8 #[hv f bi ve d s t p none 0 0, hv f bi ve d s t p none 0 0] w fun e w' => e = .returned (.bool true) ∧ Below w.heap.size w w' := by
  have HB := hide (fun W => eqIs_nil none none 0 0 W)
  go_enter Tryd.func8, Tryd.ntmps8
  go_wp2_with (go_at_call 22; refine (unhide HB _).mono ?_; rintro e w2 ⟨rfl, hb2⟩)
  go_ret
  exact ⟨rfl, (((Below.refl _ _).alloc (Nat.le_refl _) _).alloc (by simp) _).trans (hb2.mono (by simp; omega))⟩
theorem markHd_w (f bi ve : Int) (d s t p : ByteArray) (base g n cap : Nat) (V : Nat → Int) (w : World) (hn : n ≤ 1048576) (hI : Iw w base g n V) (k0 : Int) (hk0 : 0 ≤ k0) (hk1 : k0 ≤ 10000000) :
    Calls Tryd.prog 9 #[hv f bi ve d s t p (some ⟨g, 0, none⟩) n cap, .int .i64 k0] w fun e w' => e = .returned (.int .i64 (k0 + n)) ∧ Iw w' base g n (mks k0) ∧ w'.heap.size = w.heap.size + 1 ∧ (∀ k, k < w.heap.size → k ≠ g → w'.heap[k]? = w.heap[k]?) ∧ Below base w w' := by
  have HI := hide hI
  have hge := hI.ge
  have hlt := hI.lt
  clear hI
  go_enter Tryd.func9, Tryd.ntmps9
  go_wp2_with fail
  refine (markIntS_w base g n cap V _ hn ((unhide HI).below ((Below.refl _ _).alloc (Nat.le_refl _) _)) k0 hk0 hk1).mono ?_
  rintro e w2 ⟨rfl, hI2, hK2⟩
  go_wp2
  go_ret
  refine ⟨rfl, hI2, by rw [hK2.size]; simp, fun k hk hne => ?_, ?_⟩
  · rw [hK2.block k hne, Below.heap_alloc _ _ _ hk]
  · exact ((Below.refl base w).alloc (by omega) _).trans (hK2.below hge)
theorem markHd_nil (f bi ve : Int) (d s t p : ByteArray) (k0 : Int) (w : World) : Calls Tryd.prog 9 #[hv f bi ve d s t p none 0 0, .int .i64 k0] w fun e w' => e = .returned (.int .i64 k0) ∧ Below w.heap.size w w' := by
  have HM := hide (fun W => markIntS_nil none 0 k0 W)
  go_enter Tryd.func9, Tryd.ntmps9
  go_wp2_with (go_at_call 23; refine (unhide HM _).mono ?_; rintro e w2 ⟨rfl, rfl⟩)
  go_ret
  exact ⟨rfl, (Below.refl _ _).alloc (Nat.le_refl _) _⟩
theorem heldHd_nil (f bi ve : Int) (d s t p : ByteArray) (k0 : Int) (hk : ¬ k0 < 0) (w : World) : Calls Tryd.prog 10 #[hv f bi ve d s t p none 0 0, .int .i64 k0] w fun e w' => e = .returned (.int .i64 k0) ∧ Below w.heap.size w w' := by
  have HM := hide (fun W => heldIntS_nil none 0 k0 W)
  go_enter Tryd.func10, Tryd.ntmps10
  go_wp2_with (go_at_call 24; refine (unhide HM _).mono ?_; rintro e w2 ⟨rfl, rfl⟩)
  go_ret
  exact ⟨rfl, (Below.refl _ _).alloc (Nat.le_refl _) _⟩
end Go.Proofs.YtgfjkdkapafndaaDoor
