/-
  Contracts: the laws' own copies of frames and of ranges, and how they are held against each other.
-/
import Derived.Test.YtcnpbcigndcheaaDoorRng
import Derived.Laws.ResultCell
import Derived.Deep.RegionWith
namespace Go.Proofs.YtcnpbcigndcheaaDoor
open Go.ChangeShapes Go.WideShapes Go.ChangeAt Go.RowKit
set_option linter.unusedVariables false

theorem Tryd.infoR : (Tryd.prog.info? 51).map (fun i => (i.zero, i.size, i.bytes)) = some (some (.agg #[.int .i64 0, .int .i64 0]), 2, 16) := by kernel_rfl

theorem toRange_any (f t : Int) (w : World) :
    Calls Tryd.prog 36 #[.agg #[.int .i64 f, .int .i64 t]] w fun e w' => e = .returned (.agg #[.int .i64 f, .int .i64 t]) ∧ Below w.heap.size w w' := by
  go_enter Tryd.func36, Tryd.ntmps36
  go_wp2
  refine bodyPost_ret (v := .agg #[.int .i64 f, .int .i64 t]) (by simp [results, Tryd.results36, go_sem]) rfl ⟨rfl, ?_⟩
  exact (((Below.refl _ _).alloc (Nat.le_refl _) _).alloc (by simp) _).alloc (by simp; omega) _

/-- A slice of ranges in the making: k of n are laid. -/
structure Mk (w wr : World) (n k : Nat) (F T : Nat → Int) : Prop where
  bel : Below w.heap.size w wr
  lt : w.heap.size < wr.heap.size
  cf : ∀ j, j < k → wr.cell? ⟨w.heap.size, j * 2, none⟩ = some (.int .i64 (F j))
  ct : ∀ j, j < k → wr.cell? ⟨w.heap.size, j * 2 + 1, none⟩ = some (.int .i64 (T j))
  rf : ∀ j, j < n → (wr.cell? ⟨w.heap.size, j * 2, none⟩).isSome = true
  rt : ∀ j, j < n → (wr.cell? ⟨w.heap.size, j * 2 + 1, none⟩).isSome = true
  fz : ∀ o, wr.frozen? ⟨w.heap.size, o, none⟩ = false
theorem Mk.below {w wr w1 : World} {n k : Nat} {F T : Nat → Int} (h : Mk w wr n k F T) (hb : Below wr.heap.size wr w1) : Mk w w1 n k F T :=
  ⟨h.bel.trans (hb.mono h.bel.size), Nat.lt_of_lt_of_le h.lt hb.size, fun j hj => (hb.cell (p := ⟨w.heap.size, j * 2, none⟩) h.lt).trans (h.cf j hj), fun j hj => (hb.cell (p := ⟨w.heap.size, j * 2 + 1, none⟩) h.lt).trans (h.ct j hj),
    fun j hj => by rw [hb.cell (p := ⟨w.heap.size, j * 2, none⟩) h.lt]; exact h.rf j hj, fun j hj => by rw [hb.cell (p := ⟨w.heap.size, j * 2 + 1, none⟩) h.lt]; exact h.rt j hj,
    fun o => (hb.frozen (p := ⟨w.heap.size, o, none⟩) h.lt).trans (h.fz o)⟩
theorem isSome_set {w : World} {a p : Addr} {u : Value} (h : (w.cell? p).isSome = true) : ((w.setCell a u).cell? p).isSome = true := by
  by_cases e : a = p
  · subst e
    obtain ⟨v, hv⟩ := Option.isSome_iff_exists.1 h
    rw [World.cell?_setCell_same _ _ _ hv]; rfl
  · rw [World.cell?_setCell_other _ _ _ _ e]; exact h
theorem frozen_set (w : World) (a p : Addr) (u : Value) : (w.setCell a u).frozen? p = w.frozen? p := by simp
theorem Mk.step {w wr : World} {n k : Nat} {F T : Nat → Int} (h : Mk w wr n k F T) (hk : k < n) :
    Mk w ((wr.setCell ⟨w.heap.size, k * 2, none⟩ (.int .i64 (F k))).setCell ⟨w.heap.size, k * 2 + 1, none⟩ (.int .i64 (T k))) n (k + 1) F T := by
  obtain ⟨v0, e0⟩ := Option.isSome_iff_exists.1 (h.rf k hk)
  obtain ⟨v1, e1⟩ := Option.isSome_iff_exists.1 (h.rt k hk)
  refine ⟨(h.bel.setCell (Nat.le_refl _) _).setCell (Nat.le_refl _) _, by simpa using h.lt, ?_, ?_, ?_, ?_, ?_⟩
  · intro j hj
    rw [World.cell?_setCell_other _ _ _ _ (by intro e; simp at e <;> omega)]
    by_cases e : j = k
    · subst e; exact World.cell?_setCell_same _ _ _ e0
    · rw [World.cell?_setCell_other _ _ _ _ (by intro e; simp at e <;> omega)]; exact h.cf j (by omega)
  · intro j hj
    by_cases e : j = k
    · subst e
      refine World.cell?_setCell_same _ _ _ (u := v1) ?_
      rw [World.cell?_setCell_other _ _ _ _ (by simp)]; exact e1
    · rw [World.cell?_setCell_other _ _ _ _ (by intro e; simp at e <;> omega), World.cell?_setCell_other _ _ _ _ (by intro e; simp at e <;> omega)]; exact h.ct j (by omega)
  · intro j hj; exact isSome_set (isSome_set (h.rf j hj))
  · intro j hj; exact isSome_set (isSome_set (h.rt j hj))
  · intro o; rw [frozen_set, frozen_set]; exact h.fz o

set_option maxHeartbeats 1000000 in
theorem toRangeS_any (b off n cap : Nat) (F T : Nat → Int) (w : World) (hn : n ≤ 1048576) (h : Rr w b off n F T) :
    Calls Tryd.prog 23 #[.slice (some ⟨b, off, none⟩) n cap] w fun e w' => e = .returned (.slice (some ⟨w.heap.size, 0, none⟩) n n) ∧ Mk w w' n n F T := by
  obtain ⟨i0, hi, hz0, hz1, hz2⟩ := info_parts Tryd.infoR
  obtain ⟨w1, hmk, hown, hgr⟩ := run_make_full (P := Tryd.prog) w w.heap.size 34 51 i0 _ 2 Tryd.underlying34 hi hz0 hz1 .i64 .i64 n (by rw [hz2]; omega) (by unfold maxLen; omega) (Nat.le_refl _)
  have HM : Hid (Mk w w1 n 0 F T) := by
    refine ⟨(Below.refl _ _).grown hgr (Nat.le_refl _) (fun k hk => by cases hk), (hown.lt w.heap.size rfl).2, fun j hj => by omega, fun j hj => by omega, fun j hj => ?_, fun j hj => ?_, fun o => hown.frozenAt o⟩
    · rw [hown.cellAt (j * 2) (by omega)]; simp [madeCells]; omega
    · rw [hown.cellAt (j * 2 + 1) (by omega)]; simp [madeCells]; omega
  clear hown hgr hi hz0 hz1 hz2
  have HR := hide h
  go_enter Tryd.func23, Tryd.ntmps23
  go_wp2
  go_loopw [4] (fun i wr => ∃ k : Nat, k ≤ n ∧ i = .int .i64 k ∧ Mk w wr n k F T) (fun i _ => n - (intOf i).toNat)
  case atStart => exact ⟨0, Nat.zero_le _, rfl, unhide HM⟩
  case round =>
    obtain ⟨k, hk, rfl, hmr⟩ := hrel
    by_cases hlt : k < n
    · have hR := (unhide HR).below hmr.bel
      have hcf := hR.cf k hlt
      have hct := hR.ct k hlt
      go_wp2_with (go_at_call 36; refine (toRange_any _ _ _).mono ?_; rintro e w2 ⟨rfl, hb2⟩; have hm2 := hmr.below hb2; obtain ⟨v0, e0⟩ := Option.isSome_iff_exists.1 (hm2.rf k hlt); obtain ⟨v1, e1⟩ := Option.isSome_iff_exists.1 (hm2.rt k hlt); have f0 := hm2.fz (k * 2); have f1 := hm2.fz (k * 2 + 1))
      exact ⟨⟨k + 1, by omega, by go_num, hm2.step hlt⟩, by simp [intOf]; omega⟩
    · obtain rfl : k = n := by omega
      go_wp2
      go_ret
      exact ⟨rfl, hmr⟩

theorem toRangeS_nil (a : Option Addr) (cap : Nat) (w : World) :
    Calls Tryd.prog 23 #[.slice a 0 cap] w fun e w' => e = .returned (.slice (some ⟨w.heap.size, 0, none⟩) 0 0) ∧ Below w.heap.size w w' := by
  obtain ⟨i0, hi, hz0, hz1, hz2⟩ := info_parts Tryd.infoR
  obtain ⟨w1, hmk, hown, hgr⟩ := run_make_full (P := Tryd.prog) w w.heap.size 34 51 i0 _ 2 Tryd.underlying34 hi hz0 hz1 .i64 .i64 0 (by omega) (by unfold maxLen; omega) (Nat.le_refl _)
  have hb : Below w.heap.size w w1 := (Below.refl _ _).grown hgr (Nat.le_refl _) (fun k hk => by cases hk)
  have hmk0 : (Instr.makeSlice 34 (.int .i64 0) (.int .i64 0)).run Tryd.prog w = .ok (.slice (some ⟨w.heap.size, 0, none⟩) 0 0) w1 := hmk
  clear hown hgr hi hz0 hz1 hz2 hmk
  go_enter Tryd.func23, Tryd.ntmps23
  go_wp2
  refine wp_loop_rounds 1 ?_
  rw [rounds_succ]
  go_wp2
  go_ret
  exact ⟨rfl, hb⟩

/-- A slice of ranges that came in: empty, or as 'Rr' says. -/
def Ra (w : World) (a : Option Addr) (n cap : Nat) (F T : Nat → Int) : Prop := n = 0 ∨ ∃ b off, a = some ⟨b, off, none⟩ ∧ Rr w b off n F T
theorem Ra.below {w w' : World} {a : Option Addr} {n cap : Nat} {F T : Nat → Int} (h : Ra w a n cap F T) (hb : Below w.heap.size w w') : Ra w' a n cap F T := by
  rcases h with h | ⟨b, off, e, h⟩
  · exact Or.inl h
  · exact Or.inr ⟨b, off, e, h.below hb⟩
theorem toRangeS_arg (a : Option Addr) (n cap : Nat) (F T : Nat → Int) (w : World) (hn : n ≤ 1048576) (h : Ra w a n cap F T) :
    Calls Tryd.prog 23 #[.slice a n cap] w fun e w' => e = .returned (.slice (some ⟨w.heap.size, 0, none⟩) n n) ∧ Rr w' w.heap.size 0 n F T ∧ Below w.heap.size w w' := by
  rcases h with rfl | ⟨b, off, rfl, h⟩
  · refine (toRangeS_nil a cap w).mono ?_
    rintro e w' ⟨rfl, hb⟩
    exact ⟨rfl, ⟨Or.inl rfl, fun i hi => by omega, fun i hi => by omega, fun i hi => by omega, fun i hi => by omega⟩, hb⟩
  · refine (toRangeS_any b off n cap F T w hn h).mono ?_
    rintro e w' ⟨rfl, hm⟩
    exact ⟨rfl, ⟨Or.inr hm.lt, fun i hi => by rw [Nat.zero_add]; exact hm.cf i hi, fun i hi => by rw [Nat.zero_add]; exact hm.ct i hi, h.bf, h.bt⟩, hm.bel⟩

theorem Rr.setOther {w : World} {b off n : Nat} {F T : Nat → Int} {a : Addr} {u : Value} (h : Rr w b off n F T) (hne : a.block ≠ b) : Rr (w.setCell a u) b off n F T := by
  refine ⟨?_, ?_, ?_, h.bf, h.bt⟩
  · rcases h.lt with h1 | h1
    · exact Or.inl h1
    · exact Or.inr (by simpa using h1)
  · intro i hi
    rw [World.cell?_setCell_other _ _ _ _ (by intro e; rw [e] at hne; simp at hne)]; exact h.cf i hi
  · intro i hi
    rw [World.cell?_setCell_other _ _ _ _ (by intro e; rw [e] at hne; simp at hne)]; exact h.ct i hi
set_option maxHeartbeats 1000000 in
theorem toFrame_any (k a b c : Int) (fin : Bool) (s : ByteArray) (ra : Option Addr) (n cap : Nat) (F T : Nat → Int) (w : World) (hn : n ≤ 1048576) (h : Ra w ra n cap F T) :
    Calls Tryd.prog 12 #[.agg #[.int .i64 k, .int .i64 a, .int .i64 b, .int .i64 c, .bool fin, .string s, .slice ra n cap]] w fun e w' =>
      ∃ g, e = .returned (.agg #[.int .i64 k, .int .i64 a, .int .i64 b, .int .i64 c, .bool fin, .string s, .slice (some ⟨g, 0, none⟩) n n]) ∧ Rr w' g 0 n F T ∧ Below w.heap.size w w' := by
  have HR := hide h
  clear h
  go_enter Tryd.func12, Tryd.ntmps12
  go_wp2_with fail
  refine (toRangeS_arg ra n cap F T _ hn ((unhide HR).below ((((Below.refl _ _).alloc (Nat.le_refl _) _).alloc (by simp) _).alloc (by simp; omega) _))).mono ?_
  rintro e w2 ⟨rfl, hr2, hb2⟩
  obtain ⟨hc2, hf2⟩ := bcell hb2
  have hz2 : w.heap.size + 1 + 1 < w2.heap.size := by have := hb2.size; simp at this; omega
  have hr3 : Rr w2 (w.heap.size + 1 + 1 + 1) 0 n F T := by simpa using hr2
  have hb3 : Below w.heap.size w w2 := ((((Below.refl _ _).alloc (Nat.le_refl _) _).alloc (by simp) _).alloc (by simp; omega) _).trans (hb2.mono (by simp; omega))
  go_wp2
  refine bodyPost_ret (v := .agg #[.int .i64 k, .int .i64 a, .int .i64 b, .int .i64 c, .bool fin, .string s, .slice (some ⟨w.heap.size + 1 + 1 + 1, 0, none⟩) n n]) (by simp [results, Tryd.results12, go_sem, hc2]) rfl ⟨w.heap.size + 1 + 1 + 1, rfl, ?_, ?_⟩
  · iterate 8 refine Rr.setOther ?_ (by simp)
    exact hr3
  · iterate 8 refine Below.setCell ?_ (by simp <;> omega) _
    exact hb3

theorem eqRange_same (f t : Int) (w : World) :
    Calls Tryd.prog 39 #[.agg #[.int .i64 f, .int .i64 t], .agg #[.int .i64 f, .int .i64 t]] w fun e w' => e = .returned (.bool true) ∧ Below w.heap.size w w' := by
  go_enter Tryd.func39, Tryd.ntmps39
  go_wp2
  go_ret
  exact ⟨rfl, ((Below.refl _ _).alloc (Nat.le_refl _) _).alloc (by simp) _⟩

set_option maxHeartbeats 1000000 in
theorem eqRangeS_same (b off n cap b' off' cap' : Nat) (F T : Nat → Int) (w : World) (hn : n ≤ 1048576) (h : Rr w b off n F T) (h' : Rr w b' off' n F T) :
    Calls Tryd.prog 34 #[.slice (some ⟨b, off, none⟩) n cap, .slice (some ⟨b', off', none⟩) n cap'] w fun e w' => e = .returned (.bool true) ∧ Below w.heap.size w w' := by
  have HR := hide h
  have HR' := hide h'
  clear h h'
  go_enter Tryd.func34, Tryd.ntmps34
  go_wp2
  go_loopw [5] (fun i wr => ∃ k : Nat, k ≤ n ∧ i = .int .i64 k ∧ Below w.heap.size w wr) (fun i _ => n - (intOf i).toNat)
  case atStart => exact ⟨0, Nat.zero_le _, rfl, Below.refl _ _⟩
  case round =>
    obtain ⟨k, hk, rfl, hbel⟩ := hrel
    by_cases hlt : k < n
    · have hR := (unhide HR).below hbel
      have hcf := hR.cf k hlt
      have hct := hR.ct k hlt
      have hR' := (unhide HR').below hbel
      have hcf' := hR'.cf k hlt
      have hct' := hR'.ct k hlt
      have hnk : (k : Int) < (n : Int) := by omega
      have hk0 : (0 : Int) ≤ (k : Int) := by omega
      go_wp2_with fail
      go_region_with (go_at_call 39; refine (eqRange_same _ _ _).mono ?_; rintro e w2 ⟨rfl, hb2⟩)
      all_goals
        go_wp2
        exact ⟨⟨k + 1, by omega, by go_num, hbel.drew.trans (hb2.mono hbel.size)⟩, by simp [intOf]; omega⟩
    · go_wp2
      go_ret
      exact ⟨rfl, hbel⟩

set_option maxHeartbeats 1000000 in
theorem eqFrame_same (k a b c : Int) (fin : Bool) (s : ByteArray) (g off n cap g' off' cap' : Nat) (F T : Nat → Int) (w : World) (hn : n ≤ 1048576) (h : Rr w g off n F T) (h' : Rr w g' off' n F T) :
    Calls Tryd.prog 15 #[.agg #[.int .i64 k, .int .i64 a, .int .i64 b, .int .i64 c, .bool fin, .string s, .slice (some ⟨g, off, none⟩) n cap], .agg #[.int .i64 k, .int .i64 a, .int .i64 b, .int .i64 c, .bool fin, .string s, .slice (some ⟨g', off', none⟩) n cap']] w fun e w' => e = .returned (.bool true) ∧ Below w.heap.size w w' := by
  have HB := hide (fun W => fun hb : Below w.heap.size w W => eqRangeS_same g off n cap g' off' cap' F T W hn (h.below hb) (h'.below hb))
  clear h h'
  go_enter Tryd.func15, Tryd.ntmps15
  go_wp2_with (go_at_call 34; refine (unhide HB _ (((Below.refl _ _).alloc (Nat.le_refl _) _).alloc (by simp) _)).mono ?_; rintro e w2 ⟨rfl, hb2⟩)
  go_ret
  exact ⟨rfl, (((Below.refl _ _).alloc (Nat.le_refl _) _).alloc (by simp) _).trans (hb2.mono (by simp; omega))⟩

theorem szRangeS_any (ra : Option Addr) (n cap : Nat) (left : Int) (w : World) (h0 : 0 ≤ left) (h1 : left ≤ 1048576) (hn : n ≤ 9223372036854775807) :
    Calls Tryd.prog 16 #[.slice ra n cap, .int .i64 left] w fun e w' => e = .returned (.int .i64 (if left < n then -1 else left - n)) ∧ w' = w := by
  by_cases h : left < n
  · rw [if_pos h]
    go_enter Tryd.func16, Tryd.ntmps16
    go_wp2
    go_ret
    exact ⟨rfl, rfl⟩
  · rw [if_neg h]
    go_enter Tryd.func16, Tryd.ntmps16
    go_wp2
    go_ret
    exact ⟨rfl, rfl⟩
theorem szFrame_any (k a b c : Int) (fin : Bool) (s : ByteArray) (ra : Option Addr) (n cap : Nat) (left : Int) (w : World) (h0 : 0 ≤ left) (h1 : left ≤ 1048576) (hs : s.size ≤ maxLen) (hn : n ≤ maxLen) :
    Calls Tryd.prog 9 #[.agg #[.int .i64 k, .int .i64 a, .int .i64 b, .int .i64 c, .bool fin, .string s, .slice ra n cap], .int .i64 left] w fun e w' => e = .returned (.int .i64 (if left < s.size + n then -1 else left - s.size - n)) ∧ Below w.heap.size w w' := by
  unfold maxLen at hs hn
  by_cases h : left < s.size
  · rw [if_pos (by omega)]
    go_enter Tryd.func9, Tryd.ntmps9
    go_wp2
    go_ret
    exact ⟨rfl, (Below.refl _ _).alloc (Nat.le_refl _) _⟩
  · have HZ := hide (fun w => szRangeS_any ra n cap (left - s.size) w (by omega) (by omega) hn)
    by_cases h2 : left - s.size < n
    · rw [if_pos (by omega)]
      rw [if_pos h2] at HZ
      go_enter Tryd.func9, Tryd.ntmps9
      go_wp2_with (go_at_call 16; refine (unhide HZ _).mono ?_; rintro e w2 ⟨rfl, rfl⟩)
      go_ret
      exact ⟨rfl, (Below.refl _ _).alloc (Nat.le_refl _) _⟩
    · rw [if_neg (by omega)]
      rw [if_neg h2] at HZ
      go_enter Tryd.func9, Tryd.ntmps9
      go_wp2_with (go_at_call 16; refine (unhide HZ _).mono ?_; rintro e w2 ⟨rfl, rfl⟩)
      go_ret
      exact ⟨rfl, (Below.refl _ _).alloc (Nat.le_refl _) _⟩
end Go.Proofs.YtcnpbcigndcheaaDoor
