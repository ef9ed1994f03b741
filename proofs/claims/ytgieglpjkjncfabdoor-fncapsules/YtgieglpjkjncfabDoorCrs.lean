/-
  Contracts: the program's cursor over a text: bytes taken, or given up with a fault.
-/
import Derived.Test.YtgieglpjkjncfabDoorBase
import Derived.Test.YtgieglpjkjncfabDoorShelf
import Derived.WalkLawsBesides
import Derived.Deep.QuietTactic
import Derived.BigQuiet
import Derived.Deep.RegionWith
namespace Go.Proofs.YtgieglpjkjncfabDoor
open Go.ChangeShapes Go.WideShapes Go.ChangeAt Go.RowKit
set_option linter.unusedVariables false

/-- All but one block is as it was. -/
structure Kx (cb : Nat) (w w' : World) : Prop where
  os : w'.os = w.os
  tape : w'.tape = w.tape
  output : w'.output = w.output
  size : w.heap.size ≤ w'.heap.size
  block : ∀ k, k < w.heap.size → k ≠ cb → w'.heap[k]? = w.heap[k]?
theorem Kx.refl (cb : Nat) (w : World) : Kx cb w w := ⟨rfl, rfl, rfl, Nat.le_refl _, fun _ _ _ => rfl⟩
theorem Kx.trans {cb : Nat} {a b c : World} (h : Kx cb a b) (k : Kx cb b c) : Kx cb a c :=
  ⟨k.os.trans h.os, k.tape.trans h.tape, k.output.trans h.output, Nat.le_trans h.size k.size, fun i hi hne => (k.block i (Nat.lt_of_lt_of_le hi h.size) hne).trans (h.block i hi hne)⟩
theorem Kx.of {cb : Nat} {w w' : World} (h : Below w.heap.size w w') : Kx cb w w' := ⟨h.os, h.tape, h.output, h.size, fun k hk _ => h.block k hk⟩
theorem Kx.set {cb : Nat} {a w : World} (h : Kx cb a w) (o : Nat) (u : Value) : Kx cb a (w.setCell ⟨cb, o, none⟩ u) :=
  h.trans ⟨rfl, rfl, rfl, by simp [World.setCell], fun k _ hne => Below.heap_setCell _ _ _ _ (by simpa using hne)⟩
theorem Kx.below {cb B : Nat} {w w' : World} (h : Kx cb w w') (h1 : B ≤ cb) (h2 : B ≤ w.heap.size) : Below B w w' :=
  ⟨h.os, h.tape, h.output, h.size, fun k hk => h.block k (by omega) (by omega)⟩
theorem Kx.cell {cb : Nat} {w w' : World} (h : Kx cb w w') {p : Addr} (h1 : p.block < w.heap.size) (h2 : p.block ≠ cb) : w'.cell? p = w.cell? p := World.cell?_of_block (w := w) (h.block p.block h1 h2)
theorem Kx.frozen {cb : Nat} {w w' : World} (h : Kx cb w w') {p : Addr} (h1 : p.block < w.heap.size) (h2 : p.block ≠ cb) : w'.frozen? p = w.frozen? p := World.frozen?_of_block (w := w) (h.block p.block h1 h2)

/-- the program's cursor at cb: its text, where it is, the kind that it was told -/
structure Cc (w : World) (cb : Nat) (s : ByteArray) (p : Nat) (told : Int) : Prop where
  lt : cb < w.heap.size
  c0 : w.cell? ⟨cb, 0, none⟩ = some (.string s)
  c1 : w.cell? ⟨cb, 1, none⟩ = some (.int .i64 (p : Int))
  c2 : w.cell? ⟨cb, 2, none⟩ = some (.int .i64 told)
  fz : ∀ o, w.frozen? ⟨cb, o, none⟩ = false
theorem Cc.below {w w' : World} {cb p : Nat} {s : ByteArray} {told : Int} (h : Cc w cb s p told) (hb : Below w.heap.size w w') : Cc w' cb s p told := by
  obtain ⟨hc, hf⟩ := bcell hb
  exact ⟨Nat.lt_of_lt_of_le h.lt hb.size, (hc _ _ h.lt).trans h.c0, (hc _ _ h.lt).trans h.c1, (hc _ _ h.lt).trans h.c2, fun o => (hf _ _ h.lt).trans (h.fz o)⟩
theorem Cc.put {w : World} {cb p q : Nat} {s : ByteArray} {told : Int} (h : Cc w cb s p told) : Cc (w.setCell ⟨cb, 1, none⟩ (.int .i64 (q : Int))) cb s q told := by
  refine ⟨by simpa using h.lt, ?_, World.cell?_setCell_same _ _ _ h.c1, ?_, fun o => by simp [h.fz]⟩
  · rw [World.cell?_setCell_other _ _ _ _ (by simp)]; exact h.c0
  · rw [World.cell?_setCell_other _ _ _ _ (by simp)]; exact h.c2

/-- reading gives up with this code -/
abbrev gives (c : Int) : Ending := .panicked [{ v := .iface 77 (.int .i64 c), recovered := false }]

theorem clone_text (s : ByteArray) (w : World) (hs : s.size ≤ 1048576) :
    Calls Tryd.prog 23 #[.string s] w fun e w' => e = .returned (.string s) ∧ Below w.heap.size w w' := by
  have HC := hide (fun W => Tryd.stringslite_Clone s W (by omega))
  go_enter Tryd.func23, Tryd.ntmps23
  go_wp2_with (go_at_call 44; refine (unhide HC _).mono ?_; rintro e w1 ⟨rfl, hb1⟩)
  go_ret
  exact ⟨rfl, hb1⟩

set_option maxHeartbeats 1000000 in
theorem take_ok (cb p n : Nat) (s : ByteArray) (told : Int) (w : World) (hs : s.size ≤ 1048576) (hn : p + n ≤ s.size) (h : Cc w cb s p told) :
    Calls Tryd.prog 56 #[.pointer (some ⟨cb, 0, none⟩), .int .i64 n] w fun e w' => e = .returned (.string (s.extract p (p + n))) ∧ Cc w' cb s (p + n) told ∧ Kx cb w w' := by
  have c0 := h.c0
  have c1 := h.c1
  have f1 := h.fz 1
  have hlt := h.lt
  have HH := hide h
  clear h
  go_enter Tryd.func56, Tryd.ntmps56
  go_wp2_with fail
  go_quiet (fail)
  all_goals
    go_wp2_with fail
    have e1 : ((p : Int) + (n : Int)) = ((p + n : Nat) : Int) := by omega
    have H1 : Hid (Cc ((w.drewN nq).setCell ⟨cb, 1, none⟩ (.int .i64 ((p : Int) + (n : Int)))) cb s (p + n) told) := by rw [e1]; exact ((unhide HH).below (below_drewN (Below.refl _ _) _)).put
    have K1 : Hid (Kx cb w ((w.drewN nq).setCell ⟨cb, 1, none⟩ (.int .i64 ((p : Int) + (n : Int))))) := (Kx.of (below_drewN (Below.refl _ _) _)).set 1 _
    generalize (w.drewN nq).setCell ⟨cb, 1, none⟩ (.int .i64 ((p : Int) + (n : Int))) = w1 at H1 K1 ⊢
    have d0 := (unhide H1).c0
    have d1 := (unhide H1).c1
    rw [← e1] at d1
    clear e1 c0 c1 f1 HH
    have z0 : (0 : Int) ≤ (p : Int) := by omega
    have z1 : (p : Int) ≤ (p : Int) + (n : Int) := by omega
    have z2 : (p : Int) + (n : Int) ≤ (s.size : Int) := by omega
    have z3 : (p : Int) + (n : Int) - (n : Int) = (p : Int) := by omega
    have z4 : (0 : Int) ≤ (p : Int) + (n : Int) := by omega
    have z5 : IntKind.i64.wrap (p : Int) = (p : Int) := wraps_i64 _ (by omega) (by omega)
    have z6 : ((p : Int) + (n : Int)).toNat = p + n := by omega
    have HE := hide (fun W => clone_text (s.extract p (p + n)) W (by rw [ByteArray.size_extract]; omega))
    go_region_with (go_at_call 23; refine (unhide HE _).mono ?_; rintro e w2 ⟨rfl, hb2⟩)
    all_goals
      go_wp2
      go_ret
      exact ⟨rfl, (unhide H1).below ((Below.refl _ _).drew.trans hb2), (unhide K1).trans (Kx.of ((Below.refl _ _).drew.trans hb2))⟩
theorem take_short (cb p : Nat) (n : Int) (s : ByteArray) (told : Int) (w : World) (hs : s.size ≤ 1048576) (hp : p ≤ s.size) (hn : (s.size : Int) - p < n) (h : Cc w cb s p told) :
    Calls Tryd.prog 56 #[.pointer (some ⟨cb, 0, none⟩), .int .i64 n] w fun e w' => e = gives 1 ∧ Below w.heap.size w w' := by
  have c0 := h.c0
  have c1 := h.c1
  have hlt := h.lt
  clear h
  go_enter Tryd.func56, Tryd.ntmps56
  go_wp2_with fail
  go_quiet (fail)
  all_goals
    go_wp2_with fail
    first | exact ⟨rfl, rfl, below_drewN (Below.refl _ _) _⟩ | exact ⟨rfl, below_drewN (Below.refl _ _) _⟩
end Go.Proofs.YtgieglpjkjncfabDoor
