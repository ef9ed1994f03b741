/-
  Contracts: lists of numbers: the laws' own copies of them, and how they are held against each other.
-/
import Derived.Test.YtehkfbkofgkcjaaBase
import Derived.Deep.QuietTactic
import Derived.BigQuiet
import Derived.Laws.ResultCell
import Derived.Deep.RegionWith
namespace Go.Proofs.Ytehkfbkofgkcjaa
open Go.ChangeShapes Go.WideShapes Go.ChangeAt Go.RowKit
set_option linter.unusedVariables false
set_option maxRecDepth 100000

/-- A slice of n numbers: nil, or cells that hold each. -/
structure Ir (w : World) (b off n : Nat) (V : Nat → Int) : Prop where
  lt : n = 0 ∨ b < w.heap.size
  cv : ∀ i, i < n → w.cell? ⟨b, off + i, none⟩ = some (.int .i64 (V i))
  bv : ∀ i, i < n → -9223372036854775808 ≤ V i ∧ V i ≤ 9223372036854775807
theorem Ir.below {w w' : World} {b off n : Nat} {V : Nat → Int} (h : Ir w b off n V) (hb : Below w.heap.size w w') : Ir w' b off n V := by
  refine ⟨?_, ?_, h.bv⟩
  · rcases h.lt with h1 | h1
    · exact Or.inl h1
    · exact Or.inr (Nat.lt_of_lt_of_le h1 hb.size)
  · intro i hi
    rcases h.lt with h1 | h1
    · omega
    · exact (hb.cell (p := ⟨b, off + i, none⟩) h1).trans (h.cv i hi)
theorem Ir.alloc {w : World} {b off n : Nat} {V : Nat → Int} (h : Ir w b off n V) (o : Obj) : Ir (w.alloc o) b off n V := h.below ((Below.refl _ _).alloc (Nat.le_refl _) _)
theorem Ir.setOther {w : World} {b off n : Nat} {V : Nat → Int} {a : Addr} {u : Value} (h : Ir w b off n V) (hne : a.block ≠ b) : Ir (w.setCell a u) b off n V := by
  refine ⟨?_, ?_, h.bv⟩
  · rcases h.lt with h1 | h1
    · exact Or.inl h1
    · exact Or.inr (by simpa using h1)
  · intro i hi
    rw [World.cell?_setCell_other _ _ _ _ (by intro e; rw [e] at hne; simp at hne)]; exact h.cv i hi
/-- A slice of numbers that came in: empty, or as 'Ir' says. -/
def Ia (w : World) (a : Option Addr) (n cap : Nat) (V : Nat → Int) : Prop := n = 0 ∨ ∃ b off, a = some ⟨b, off, none⟩ ∧ Ir w b off n V
theorem Ia.below {w w' : World} {a : Option Addr} {n cap : Nat} {V : Nat → Int} (h : Ia w a n cap V) (hb : Below w.heap.size w w') : Ia w' a n cap V := by
  rcases h with h | ⟨b, off, e, h⟩
  · exact Or.inl h
  · exact Or.inr ⟨b, off, e, h.below hb⟩

/-- A slice of numbers in the making: k of n are laid. -/
structure Mi (w wr : World) (n k : Nat) (V : Nat → Int) : Prop where
  bel : Below w.heap.size w wr
  lt : w.heap.size < wr.heap.size
  cf : ∀ j, j < k → wr.cell? ⟨w.heap.size, j, none⟩ = some (.int .i64 (V j))
  rf : ∀ j, j < n → (wr.cell? ⟨w.heap.size, j, none⟩).isSome = true
  fz : ∀ o, wr.frozen? ⟨w.heap.size, o, none⟩ = false
theorem isSome_set {w : World} {a p : Addr} {u : Value} (h : (w.cell? p).isSome = true) : ((w.setCell a u).cell? p).isSome = true := by
  by_cases e : a = p
  · subst e
    obtain ⟨v, hv⟩ := Option.isSome_iff_exists.1 h
    rw [World.cell?_setCell_same _ _ _ hv]; rfl
  · rw [World.cell?_setCell_other _ _ _ _ e]; exact h
theorem frozen_set (w : World) (a p : Addr) (u : Value) : (w.setCell a u).frozen? p = w.frozen? p := by simp
theorem Mi.step {w wr : World} {n k : Nat} {V : Nat → Int} (h : Mi w wr n k V) (hk : k < n) : Mi w (wr.setCell ⟨w.heap.size, k, none⟩ (.int .i64 (V k))) n (k + 1) V := by
  obtain ⟨v0, e0⟩ := Option.isSome_iff_exists.1 (h.rf k hk)
  refine ⟨h.bel.setCell (Nat.le_refl _) _, by simpa using h.lt, ?_, ?_, ?_⟩
  · intro j hj
    by_cases e : j = k
    · subst e; exact World.cell?_setCell_same _ _ _ e0
    · rw [World.cell?_setCell_other _ _ _ _ (by intro e; simp at e <;> omega)]; exact h.cf j (by omega)
  · intro j hj; exact isSome_set (h.rf j hj)
  · intro o; rw [frozen_set]; exact h.fz o

theorem infoI : (Try.prog.info? 3).map (fun i => (i.zero, i.size, i.bytes)) = some (some (.int .i64 0), 1, 8) := by kernel_rfl
theorem infoI_parts : ∃ i0, Try.prog.info? 3 = some i0 ∧ i0.zero = some (.int .i64 0) ∧ i0.size = 1 ∧ i0.bytes = 8 := by
  have h := infoI
  cases e : Try.prog.info? 3 with
  | none => rw [e] at h; cases h
  | some i0 => rw [e] at h; simp at h; exact ⟨i0, rfl, h.1, h.2.1, h.2.2⟩

set_option maxHeartbeats 1000000 in
theorem toIntS_any (b off n cap : Nat) (V : Nat → Int) (w : World) (hn : n ≤ 1048576) (h : Ir w b off n V) :
    Calls Try.prog 25 #[.slice (some ⟨b, off, none⟩) n cap] w fun e w' => e = .returned (.slice (some ⟨w.heap.size, 0, none⟩) n n) ∧ Mi w w' n n V := by
  obtain ⟨i0, hi, hz0, hz1, hz2⟩ := infoI_parts
  obtain ⟨w1, hmk, hown, hgr⟩ := run_make_full (P := Try.prog) w w.heap.size 46 3 i0 _ 1 Try.underlying46 hi hz0 hz1 .i64 .i64 n (by rw [hz2]; omega) (by unfold maxLen; omega) (Nat.le_refl _)
  have HM : Hid (Mi w w1 n 0 V) := by
    refine ⟨(Below.refl _ _).grown hgr (Nat.le_refl _) (fun k hk => by cases hk), (hown.lt w.heap.size rfl).2, fun j hj => by omega, fun j hj => ?_, fun o => hown.frozenAt o⟩
    rw [hown.cellAt j (by omega)]; simp [madeCells]; omega
  clear hown hgr hi hz0 hz1 hz2
  have HR := hide h
  go_enter Try.func25, Try.ntmps25
  go_wp2
  go_loopw [4] (fun i wr => ∃ k : Nat, k ≤ n ∧ i = .int .i64 k ∧ Mi w wr n k V) (fun i _ => n - (intOf i).toNat)
  case atStart => exact ⟨0, Nat.zero_le _, rfl, unhide HM⟩
  case round =>
    obtain ⟨k, hk, rfl, hmr⟩ := hrel
    by_cases hlt : k < n
    · have hR := (unhide HR).below hmr.bel
      have hcf := hR.cv k hlt
      obtain ⟨v0, e0⟩ := Option.isSome_iff_exists.1 (hmr.rf k hlt)
      have f0 := hmr.fz k
      go_wp2
      exact ⟨⟨k + 1, by omega, by go_num, hmr.step hlt⟩, by simp [intOf]; omega⟩
    · obtain rfl : k = n := by omega
      go_wp2
      go_ret
      exact ⟨rfl, hmr⟩

theorem toIntS_nil (a : Option Addr) (cap : Nat) (w : World) :
    Calls Try.prog 25 #[.slice a 0 cap] w fun e w' => e = .returned (.slice (some ⟨w.heap.size, 0, none⟩) 0 0) ∧ Below w.heap.size w w' := by
  obtain ⟨i0, hi, hz0, hz1, hz2⟩ := infoI_parts
  obtain ⟨w1, hmk, hown, hgr⟩ := run_make_full (P := Try.prog) w w.heap.size 46 3 i0 _ 1 Try.underlying46 hi hz0 hz1 .i64 .i64 0 (by omega) (by unfold maxLen; omega) (Nat.le_refl _)
  have hb : Below w.heap.size w w1 := (Below.refl _ _).grown hgr (Nat.le_refl _) (fun k hk => by cases hk)
  have hmk0 : (Instr.makeSlice 46 (.int .i64 0) (.int .i64 0)).run Try.prog w = .ok (.slice (some ⟨w.heap.size, 0, none⟩) 0 0) w1 := hmk
  clear hown hgr hi hz0 hz1 hz2 hmk
  go_enter Try.func25, Try.ntmps25
  go_wp2
  refine wp_loop_rounds 1 ?_
  rw [rounds_succ]
  go_wp2
  go_ret
  exact ⟨rfl, hb⟩

theorem toIntS_arg (a : Option Addr) (n cap : Nat) (V : Nat → Int) (w : World) (hn : n ≤ 1048576) (h : Ia w a n cap V) :
    Calls Try.prog 25 #[.slice a n cap] w fun e w' => e = .returned (.slice (some ⟨w.heap.size, 0, none⟩) n n) ∧ Ir w' w.heap.size 0 n V ∧ Below w.heap.size w w' := by
  rcases h with rfl | ⟨b, off, rfl, h⟩
  · refine (toIntS_nil a cap w).mono ?_
    rintro e w' ⟨rfl, hb⟩
    exact ⟨rfl, ⟨Or.inl rfl, fun i hi => by omega, fun i hi => by omega⟩, hb⟩
  · refine (toIntS_any b off n cap V w hn h).mono ?_
    rintro e w' ⟨rfl, hm⟩
    exact ⟨rfl, ⟨Or.inr hm.lt, fun i hi => by rw [Nat.zero_add]; exact hm.cf i hi, h.bv⟩, hm.bel⟩

set_option maxHeartbeats 1000000 in
theorem eqIntS_same (b off n cap b' off' cap' : Nat) (V : Nat → Int) (w : World) (hn : n ≤ 1048576) (h : Ir w b off n V) (h' : Ir w b' off' n V) :
    Calls Try.prog 27 #[.slice (some ⟨b, off, none⟩) n cap, .slice (some ⟨b', off', none⟩) n cap'] w fun e w' => e = .returned (.bool true) ∧ Below w.heap.size w w' := by
  have HR := hide h
  have HR' := hide h'
  clear h h'
  go_enter Try.func27, Try.ntmps27
  go_wp2
  go_loopw [5] (fun i wr => ∃ k : Nat, k ≤ n ∧ i = .int .i64 k ∧ Below w.heap.size w wr) (fun i _ => n - (intOf i).toNat)
  case atStart => exact ⟨0, Nat.zero_le _, rfl, Below.refl _ _⟩
  case round =>
    obtain ⟨k, hk, rfl, hbel⟩ := hrel
    by_cases hlt : k < n
    · have hR := (unhide HR).below hbel
      have hcf := hR.cv k hlt
      have hR' := (unhide HR').below hbel
      have hcf' := hR'.cv k hlt
      have hnk : (k : Int) < (n : Int) := by omega
      have hk0 : (0 : Int) ≤ (k : Int) := by omega
      go_wp2_with fail
      go_quiet (fail)
      all_goals
        go_wp2
        exact ⟨⟨k + 1, by omega, by go_num, below_drewN hbel _⟩, by simp [intOf]; omega⟩
    · go_wp2
      go_ret
      exact ⟨rfl, hbel⟩

end Go.Proofs.Ytehkfbkofgkcjaa
