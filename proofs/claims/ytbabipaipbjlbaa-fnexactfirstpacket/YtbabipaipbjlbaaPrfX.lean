/-
  Contracts: the program's cursor: what is left, both ids. Rows of numbers that the call owns.
-/
import Derived.Test.YtbabipaipbjlbaaPre
import Derived.Test.YtbabipaipbjlbaaPrdX
import Derived.Deep.AppendLies
import Derived.Laws.OwnMore
namespace Go.Proofs.Ytbabipaipbjlbaa
open Go.ChangeShapes Go.WideShapes Go.ChangeAt Go.RowKit
set_option linter.unusedVariables false
set_option maxRecDepth 100000

/-- All but two blocks is as it was. -/
structure K2 (cb hb : Nat) (w w' : World) : Prop where
  os : w'.os = w.os
  tape : w'.tape = w.tape
  output : w'.output = w.output
  size : w.heap.size ≤ w'.heap.size
  block : ∀ k, k < w.heap.size → k ≠ cb → k ≠ hb → w'.heap[k]? = w.heap[k]?
theorem Kx.k2 {cb hb : Nat} {w w' : World} (h : Kx cb w w') : K2 cb hb w w' := ⟨h.os, h.tape, h.output, h.size, fun k a b _ => h.block k a b⟩
theorem K2.trans {cb hb : Nat} {a b c : World} (h : K2 cb hb a b) (k : K2 cb hb b c) : K2 cb hb a c :=
  ⟨k.os.trans h.os, k.tape.trans h.tape, k.output.trans h.output, Nat.le_trans h.size k.size, fun i hi h1 h2 => (k.block i (Nat.lt_of_lt_of_le hi h.size) h1 h2).trans (h.block i hi h1 h2)⟩
theorem K2.set {cb hb : Nat} {a w : World} (h : K2 cb hb a w) (o : Nat) (u : Value) : K2 cb hb a (w.setCell ⟨hb, o, none⟩ u) :=
  h.trans ⟨rfl, rfl, rfl, by simp [World.setCell], fun k _ _ hne => Below.heap_setCell _ _ _ _ (by simpa using hne)⟩
theorem K2.kx {cb hb : Nat} {a w w' : World} (h : K2 cb hb w w') (k : Kx cb a w) (hb' : a.heap.size ≤ hb) : Kx cb a w' :=
  ⟨h.os.trans k.os, h.tape.trans k.tape, h.output.trans k.output, Nat.le_trans k.size h.size, fun i hi hne => (h.block i (Nat.lt_of_lt_of_le hi k.size) hne (by omega)).trans (k.block i hi hne)⟩
def Bad2 (cb hb : Nat) (w : World) (e : Ending) (w' : World) : Prop := ∃ c : Int, (c = 1 ∨ c = 2 ∨ c = 3) ∧ e = gives c ∧ K2 cb hb w w'
theorem Cc.other {w : World} {cb p b i : Nat} {s : ByteArray} {told : Int} {u : Value} (h : Cc w cb s p told) (hne : b ≠ cb) : Cc (w.setCell ⟨b, i, none⟩ u) cb s p told := by
  have e : ∀ o, (w.setCell ⟨b, i, none⟩ u).cell? ⟨cb, o, none⟩ = w.cell? ⟨cb, o, none⟩ := fun o => World.cell?_setCell_other _ _ _ _ (by intro q; injection q with q1 _ _; exact hne q1)
  exact ⟨by simpa using h.lt, (e 0).trans h.c0, (e 1).trans h.c1, (e 2).trans h.c2, fun o => by rw [frozen_set2]; exact h.fz o⟩

/-! both ids -/
set_option maxHeartbeats 1000000 in
theorem ids_ok (cb hb p : Nat) (s : ByteArray) (told : Int) (w : World) (v0 v1 v2 v3 v4 v5 v6 v7 : Value) (hs : s.size ≤ 1048576) (hp : p ≤ s.size) (hne : hb ≠ cb) (h1 : (idT s p 0).c = 0) (h2 : (idT s (idT s p 0).p 0).c = 0) (h : Cc w cb s p told) (H : Hh w hb v0 v1 v2 v3 v4 v5 v6 v7) :
    Calls Try.prog 94 #[.pointer (some ⟨cb, 0, none⟩), .pointer (some ⟨hb, 0, none⟩)] w fun e w' => e = .returned (.tuple #[]) ∧ Cc w' cb s (idT s (idT s p 0).p 0).p told ∧ Hh w' hb v0 v1 v2 (.string (idT s p 0).t) (.string (idT s (idT s p 0).p 0).t) v5 v6 v7 ∧ K2 cb hb w w' := by
  have hq : (idT s p 0).p ≤ s.size := by unfold idT; exact takeT_le (takeT_le hp (by omega)) (idN_in s p 0).1
  have HA := hide (pid_ok cb p s told w hs hp h1 h)
  have HB := hide (fun W (hW : Cc W cb s (idT s p 0).p told) => pid_ok cb (idT s p 0).p s told W hs hq h2 hW)
  generalize idT s (idT s p 0).p 0 = y at *
  generalize idT s p 0 = x at *
  clear h h1 h2
  go_enter Try.func94, Try.ntmps94
  go_wp2_with fail
  refine (unhide HA).mono ?_
  rintro e w1 ⟨rfl, h1, k1⟩
  have H1 := H.kx k1 hne
  have g3 := H1.c3
  have f3 := H1.fz 3
  go_wp2_with fail
  refine (unhide HB (w1.setCell ⟨hb, 3, none⟩ (.string x.t)) (h1.other hne)).mono ?_
  rintro e w2 ⟨rfl, h2, k2⟩
  have H2 := (H1.s3 (u := .string x.t)).kx k2 hne
  have K := (k1.k2.set 3 (.string x.t)).trans (k2.k2 (hb := hb))
  have g4 := H2.c4
  have f4 := H2.fz 4
  clear g3 f3 H1 k1 k2 HA HB h1
  go_wp2_with fail
  go_end0
  exact ⟨rfl, h2.other hne, H2.s4, K.set 4 _⟩
theorem ids_bad (cb hb p : Nat) (s : ByteArray) (told : Int) (w : World) (v0 v1 v2 v3 v4 v5 v6 v7 : Value) (hs : s.size ≤ 1048576) (hp : p ≤ s.size) (hne : hb ≠ cb) (h12 : ¬ ((idT s p 0).c = 0 ∧ (idT s (idT s p 0).p 0).c = 0)) (h : Cc w cb s p told) (H : Hh w hb v0 v1 v2 v3 v4 v5 v6 v7) :
    Calls Try.prog 94 #[.pointer (some ⟨cb, 0, none⟩), .pointer (some ⟨hb, 0, none⟩)] w (Bad2 cb hb w) := by
  have hq : (idT s p 0).p ≤ s.size := by unfold idT; exact takeT_le (takeT_le hp (by omega)) (idN_in s p 0).1
  by_cases h1 : (idT s p 0).c = 0
  · have h2 : (idT s (idT s p 0).p 0).c ≠ 0 := fun z => h12 ⟨h1, z⟩
    have HA := hide (pid_ok cb p s told w hs hp h1 h)
    have HB := hide (fun W (hW : Cc W cb s (idT s p 0).p told) => pid_bad cb (idT s p 0).p s told W hs hq h2 hW)
    generalize idT s p 0 = x at *
    clear h h1 h2 h12
    go_enter Try.func94, Try.ntmps94
    go_wp2_with fail
    refine (unhide HA).mono ?_
    rintro e w1 ⟨rfl, h1, k1⟩
    have H1 := H.kx k1 hne
    have g3 := H1.c3
    have f3 := H1.fz 3
    go_wp2_with fail
    refine (unhide HB (w1.setCell ⟨hb, 3, none⟩ (.string x.t)) (h1.other hne)).mono ?_
    rintro e w2 ⟨c, hC, rfl, k2⟩
    have K := (k1.k2.set 3 (.string x.t)).trans (k2.k2 (hb := hb))
    clear g3 f3 H1 k1 k2 HA HB h1
    go_wp2_with fail
    exact ⟨rfl, c, hC, rfl, K⟩
  · have HA := hide (pid_bad cb p s told w hs hp h1 h)
    clear h h1 h12
    go_enter Try.func94, Try.ntmps94
    go_wp2_with fail
    refine (unhide HA).mono ?_
    rintro e w1 ⟨c, hC, rfl, k1⟩
    go_wp2_with fail
    exact ⟨rfl, c, hC, rfl, k1.k2⟩

/-! what is left -/
set_option maxHeartbeats 1000000 in
theorem pend_long (cb p least : Nat) (s : ByteArray) (told : Int) (w : World) (hs : s.size ≤ 1048576) (hp : p ≤ s.size) (hl : least ≤ 1) (hn : 1200 < s.size - p) (h : Cc w cb s p told) :
    Calls Try.prog 97 #[.pointer (some ⟨cb, 0, none⟩), .int .i64 least] w (Bad cb w) := by
  have c0 := h.c0
  have c1 := h.c1
  clear h
  go_enter Try.func97, Try.ntmps97
  go_wp2_with fail
  go_quiet (fail)
  all_goals
    go_wp2_with fail
    exact ⟨rfl, Bad.three rfl (Kx.of (below_drewN (Below.refl _ _) _))⟩
set_option maxHeartbeats 1000000 in
theorem pend_ok (cb p least : Nat) (s : ByteArray) (told : Int) (w : World) (hs : s.size ≤ 1048576) (hp : p ≤ s.size) (hl : least ≤ s.size - p) (hn : s.size - p ≤ 1200) (h : Cc w cb s p told) :
    Calls Try.prog 97 #[.pointer (some ⟨cb, 0, none⟩), .int .i64 least] w fun e w' => e = .returned (.string (s.extract p s.size)) ∧ Cc w' cb s s.size told ∧ Kx cb w w' := by
  obtain ⟨n, hz⟩ : ∃ n, s.size = p + n := ⟨s.size - p, by omega⟩
  have HK := hide (fun W (hW : Cc W cb s p told) => take_ok cb p n s told W hs (by omega) hW)
  have c0 := h.c0
  have c1 := h.c1
  have HH := hide h
  clear h
  go_enter Try.func97, Try.ntmps97
  go_wp2_with fail
  go_quiet (fail)
  all_goals
    go_wp2_with fail
    rw [show max ((p : Int) + (n : Int) - (p : Int)) (least : Int) = (n : Int) by omega]
    refine (unhide HK _ ((unhide HH).below (below_drewN (Below.refl _ _) _))).mono ?_
    rintro e w1 ⟨rfl, h1, k1⟩
    go_wp2
    go_ret
    exact ⟨by rw [hz]; rfl, by rw [hz]; exact h1, (Kx.of (below_drewN (Below.refl _ _) _)).trans k1⟩
set_option maxHeartbeats 1000000 in
theorem pend_none (cb p : Nat) (s : ByteArray) (told : Int) (w : World) (hs : s.size ≤ 1048576) (hp : p = s.size) (h : Cc w cb s p told) :
    Calls Try.prog 97 #[.pointer (some ⟨cb, 0, none⟩), .int .i64 1] w (Bad cb w) := by
  have HK := hide (fun W (hW : Cc W cb s p told) => take_short cb p 1 s told W hs (by omega) (by omega) hW)
  have c0 := h.c0
  have c1 := h.c1
  have HH := hide h
  clear h
  go_enter Try.func97, Try.ntmps97
  go_wp2_with fail
  go_quiet (fail)
  all_goals
    go_wp2_with fail
    try rw [show max ((s.size : Int) - (p : Int)) (1 : Int) = (1 : Int) by omega]
    refine (unhide HK _ ((unhide HH).below (below_drewN (Below.refl _ _) _))).mono ?_
    rintro e w1 ⟨rfl, h1⟩
    go_wp2_with fail
    exact ⟨rfl, Bad.one rfl ((Kx.of (below_drewN (Below.refl _ _) _)).trans (Kx.of h1))⟩
theorem pend_bad (cb p least : Nat) (s : ByteArray) (told : Int) (w : World) (hs : s.size ≤ 1048576) (hp : p ≤ s.size) (hl : least ≤ 1) (hn : ¬ (least ≤ s.size - p ∧ s.size - p ≤ 1200)) (h : Cc w cb s p told) :
    Calls Try.prog 97 #[.pointer (some ⟨cb, 0, none⟩), .int .i64 least] w (Bad cb w) := by
  by_cases h1 : 1200 < s.size - p
  · exact pend_long cb p least s told w hs hp hl h1 h
  · have e : least = 1 := by omega
    subst e
    exact pend_none cb p s told w hs (by omega) h
end Go.Proofs.Ytbabipaipbjlbaa
namespace Go.Proofs.Ytbabipaipbjlbaa
open Go.ChangeShapes Go.WideShapes Go.ChangeAt Go.RowKit
set_option linter.unusedVariables false
set_option maxRecDepth 100000

def iv (n : Nat) (V : Nat → Int) : List Value := (List.range n).map fun i => .int .i64 (V i)
theorem iv_length (n : Nat) (V : Nat → Int) : (iv n V).length = n := by simp [iv]
theorem iv_succ (n : Nat) (V : Nat → Int) : iv n V ++ [.int .i64 (V n)] = iv (n + 1) V := by simp [iv, List.range_succ]
/-- a row of numbers of the call's own -/
def Oi (base : Nat) (w : World) (v : Value) (n : Nat) (V : Nat → Int) : Prop := w.ownsRow base 3 1 v n (iv n V)
theorem Oi.below {base : Nat} {w w' : World} {v : Value} {n : Nat} {V : Nat → Int} (h : Oi base w v n V) (hg : w.grownBy w' v.ownBlock) (hb : base ≤ w.heap.size) : Below base w w' :=
  ⟨hg.os, hg.tape, hg.output, hg.size, fun k hk => hg.block k (by omega) (fun e => by have := (World.ownsRow.lt (w := w) h k e.symm).1; omega)⟩
theorem Oi.nil (base : Nat) (w : World) (V : Nat → Int) : Oi base w (.slice none 0 0) 0 V := World.ownsRow_nil _ _ _ _
theorem Oi.lit (base : Nat) (w : World) (V : Nat → Int) (hb : base ≤ w.heap.size) : Oi base (w.alloc (.cells #[.int .i64 (V 0)] 3)) (.slice (some ⟨w.heap.size, 0, none⟩) 1 1) 1 V :=
  World.ownsRow_lit (base := base) (e := 3) (size := 1) w #[.int .i64 (V 0)] 1 hb (by unfold maxLen; omega) rfl
theorem Oi.opens {base : Nat} {w : World} {v : Value} {n : Nat} {V : Nat → Int} (h : Oi base w v n V) : ∃ a cap, v = .slice a n cap := by
  rcases h.2 with ⟨rfl, e⟩ | ⟨g, cap, cur, rfl, _⟩
  · exact ⟨none, 0, by rw [e]⟩
  · exact ⟨_, _, rfl⟩
end Go.Proofs.Ytbabipaipbjlbaa
