/-
  Contracts: where a field stands in the static table, of both sides.
-/
import Derived.Test.YtidgjjbdabifnabDoorFst
import Derived.Maps.OwnSet
import Derived.Maps.Own
import Derived.StringKeys
import Derived.Laws.Cover1
namespace Go.Proofs.YtidgjjbdabifnabDoor.Rc
open Go.ChangeShapes Go.WideShapes Go.ChangeAt Go.RowKit Go.Deep Go.Maps Go.WideMaps
set_option linter.unusedVariables false
set_option maxRecDepth 100000

/-- how an element of the map reads: as itself -/
def hS (v : Value) : Option (DataW Value × List MemPlace) := some (.held v, [])
theorem keyS : Keyed Tryd.prog 9 := string_keyed Tryd.underlying9
theorem zeroI (w : World) : (zeroValue 3).run Tryd.prog w = .ok (.int .i64 0) w := by kernel_rfl
abbrev kS (s : ByteArray) : Lit := .string s.data.toList
theorem kS_inj {s t : ByteArray} (h : kS s = kS t) : s = t := by
  injection h with h
  exact ByteArray.ext (Array.toList_inj.1 h)
/-- block b is a map of at most n entries: at name s the number F s -/
def Mt (w : World) (b n : Nat) (F : ByteArray → Option Int) : Prop :=
  ∃ Dm : DataW Value, w.ownsMap Tryd.prog 9 hS b n Dm ∧ (∀ s, Maps.has Dm (kS s) = (F s).isSome) ∧ ∀ s r, F s = some r → ∀ zd, Dm.atKey (kS s) zd = .held (.int .i64 r)
theorem Mt.made (w : World) : Mt (w.alloc (.map #[] 0)) w.heap.size 0 (fun _ => none) :=
  ⟨_, World.ownsMap_made _ _ _ _, fun s => rfl, fun s r e => by cases e⟩
def putS (F : ByteArray → Option Int) (s : ByteArray) (r : Int) (t : ByteArray) : Option Int := if t = s then some r else F t
theorem Mt.store {w : World} {b n : Nat} {F : ByteArray → Option Int} (h : Mt w b n F) (hn : n < maxLen) (s : ByteArray) (hs : s.size ≤ maxLen) (r : Int) :
    ∃ w', (Instr.mapUpdate 66 (.map (some b)) (.string s) (.int .i64 r)).run Tryd.prog w = .ok () w' ∧ Mt w' b (n + 1) (putS F s r) ∧ w.grownBy w' (some b) := by
  obtain ⟨Dm, h1, h2, h3⟩ := h
  obtain ⟨w', hr, ho, ht⟩ := h1.store (val := .int .i64 r) keyS Tryd.underlying66 hn (keyOf_string_mk Tryd.underlying9 hs) (d := .held (.int .i64 r)) (ps := []) rfl
  refine ⟨w', hr, ⟨_, ho, fun t => ?_, fun t q e zd => ?_⟩, ht.grown⟩
  · unfold putS
    by_cases e : t = s
    · subst e; rw [if_pos rfl]; exact has_put_same h1.isMap (show WideAt.IsKeyLit (kS t) from trivial) _
    · rw [if_neg e, has_put_other (fun q => e (kS_inj q))]; exact h2 t
  · unfold putS at e
    by_cases e' : t = s
    · subst e'; rw [if_pos rfl] at e; injection e with e; subst e; exact atKey_put_same h1.isMap (show WideAt.IsKeyLit (kS t) from trivial) _ _
    · rw [if_neg e'] at e; rw [atKey_put_other (fun q => e' (kS_inj q))]; exact h3 t q e zd
theorem Mt.look_ok {w : World} {b n : Nat} {F : ByteArray → Option Int} (h : Mt w b n F) (s : ByteArray) (hs : s.size ≤ maxLen) :
    (Instr.lookup 66 (.map (some b)) (.string s) true).run Tryd.prog w = .ok (.tuple #[.int .i64 ((F s).getD 0), .bool (F s).isSome]) w := by
  obtain ⟨Dm, h1, h2, h3⟩ := h
  obtain ⟨v, ps, hr, hv⟩ := h1.look_ok keyS Tryd.underlying66 (zeroI w) (zd := .held _) (zp := []) rfl (keyOf_string_mk Tryd.underlying9 hs)
  rw [hr, h2 s]
  unfold hS at hv
  injection hv with hv
  injection hv with hv _
  cases e : F s with
  | none =>
    have hh := h2 s
    rw [e] at hh
    rw [atKey_of_not_has hh] at hv
    injection hv with hv
    rw [hv]
    rfl
  | some r =>
    rw [h3 s r e] at hv
    injection hv with hv
    rw [hv]
    rfl
/-- what the map of names holds -/
def nmF : ByteArray → Option Int := putS (putS (putS (putS (putS (putS (putS (putS (putS (putS (putS (fun _ => none) nm0 0) nm1 1) nm2 2) nm5 5) nm7 7) nm10 10) nm11 11) nm12 12) nm13 13) nm14 14) nm15 15
theorem nmF_is (s : ByteArray) : nmF s = if nmP s = -1 then none else some (nmP s) := by
  unfold nmF
  by_cases h0 : s = nm0
  · subst h0; decide +kernel
  by_cases h1 : s = nm1
  · subst h1; decide +kernel
  by_cases h2 : s = nm2
  · subst h2; decide +kernel
  by_cases h5 : s = nm5
  · subst h5; decide +kernel
  by_cases h7 : s = nm7
  · subst h7; decide +kernel
  by_cases h10 : s = nm10
  · subst h10; decide +kernel
  by_cases h11 : s = nm11
  · subst h11; decide +kernel
  by_cases h12 : s = nm12
  · subst h12; decide +kernel
  by_cases h13 : s = nm13
  · subst h13; decide +kernel
  by_cases h14 : s = nm14
  · subst h14; decide +kernel
  by_cases h15 : s = nm15
  · subst h15; decide +kernel
  have e1 : nmP s = -1 := by unfold nmP; rw [if_neg h0, if_neg h1, if_neg h2, if_neg h5, if_neg h7, if_neg h10, if_neg h11, if_neg h12, if_neg h13, if_neg h14, if_neg h15]
  rw [e1, if_pos rfl]
  unfold putS
  rw [if_neg h15, if_neg h14, if_neg h13, if_neg h12, if_neg h11, if_neg h10, if_neg h7, if_neg h5, if_neg h2, if_neg h1, if_neg h0]
set_option maxHeartbeats 4000000 in
theorem implPN (s : ByteArray) (w : World) (hs : s.size ≤ maxLen) : Calls Tryd.prog 29 #[.string s] w fun e w' => e = .returned (.int .i64 (nmP s)) ∧ Below w.heap.size w w' := by
  have m0 := Mt.made w
  obtain ⟨W0, hW0⟩ : ∃ V, V = w.alloc (.map #[] 0) := ⟨_, rfl⟩
  rw [← hW0] at m0
  have hmm : (Instr.makeMap 66 none).run Tryd.prog w = .ok (.map (some w.heap.size)) W0 := by rw [hW0]; rfl
  obtain ⟨W1, r0, m1, g1⟩ := m0.store (by decide) nm0 (by decide) 0
  obtain ⟨W2, r1, m2, g2⟩ := m1.store (by decide) nm1 (by decide) 1
  obtain ⟨W3, r2, m3, g3⟩ := m2.store (by decide) nm2 (by decide) 2
  obtain ⟨W4, r3, m4, g4⟩ := m3.store (by decide) nm5 (by decide) 5
  obtain ⟨W5, r4, m5, g5⟩ := m4.store (by decide) nm7 (by decide) 7
  obtain ⟨W6, r5, m6, g6⟩ := m5.store (by decide) nm10 (by decide) 10
  obtain ⟨W7, r6, m7, g7⟩ := m6.store (by decide) nm11 (by decide) 11
  obtain ⟨W8, r7, m8, g8⟩ := m7.store (by decide) nm12 (by decide) 12
  obtain ⟨W9, r8, m9, g9⟩ := m8.store (by decide) nm13 (by decide) 13
  obtain ⟨W10, r9, m10, g10⟩ := m9.store (by decide) nm14 (by decide) 14
  obtain ⟨W11, r10, m11, g11⟩ := m10.store (by decide) nm15 (by decide) 15
  unfold nm0 at r0
  unfold nm1 at r1
  unfold nm2 at r2
  unfold nm5 at r3
  unfold nm7 at r4
  unfold nm10 at r5
  unfold nm11 at r6
  unfold nm12 at r7
  unfold nm13 at r8
  unfold nm14 at r9
  unfold nm15 at r10
  have b0 : Below w.heap.size w W0 := by rw [hW0]; exact (Below.refl _ _).alloc (Nat.le_refl _) _
  have b1 := b0.grown g1 b0.size (fun j hj => by cases hj; exact Nat.le_refl _)
  have b2 := b1.grown g2 b1.size (fun j hj => by cases hj; exact Nat.le_refl _)
  have b3 := b2.grown g3 b2.size (fun j hj => by cases hj; exact Nat.le_refl _)
  have b4 := b3.grown g4 b3.size (fun j hj => by cases hj; exact Nat.le_refl _)
  have b5 := b4.grown g5 b4.size (fun j hj => by cases hj; exact Nat.le_refl _)
  have b6 := b5.grown g6 b5.size (fun j hj => by cases hj; exact Nat.le_refl _)
  have b7 := b6.grown g7 b6.size (fun j hj => by cases hj; exact Nat.le_refl _)
  have b8 := b7.grown g8 b7.size (fun j hj => by cases hj; exact Nat.le_refl _)
  have b9 := b8.grown g9 b8.size (fun j hj => by cases hj; exact Nat.le_refl _)
  have b10 := b9.grown g10 b9.size (fun j hj => by cases hj; exact Nat.le_refl _)
  have b11 := b10.grown g11 b10.size (fun j hj => by cases hj; exact Nat.le_refl _)
  have hl := m11.look_ok s hs
  have e9 := nmF_is s
  unfold nmF at e9
  rw [e9] at hl
  clear e9
  have B9 := hide b11
  generalize nmP s = z at *
  clear m0 m1 m2 m3 m4 m5 m6 m7 m8 m9 m10 m11 g1 b1 g2 b2 g3 b3 g4 b4 g5 b5 g6 b6 g7 b7 g8 b8 g9 b9 g10 b10 g11 b11 b0 hW0
  by_cases hz : z = -1
  · subst hz
    rw [if_pos rfl] at hl
    go_enter Tryd.func29, Tryd.ntmps29
    go_wp2
    go_ret
    exact ⟨rfl, unhide B9⟩
  · rw [if_neg hz] at hl
    clear hz
    go_enter Tryd.func29, Tryd.ntmps29
    go_wp2
    go_ret
    exact ⟨rfl, unhide B9⟩
end Go.Proofs.YtidgjjbdabifnabDoor.Rc
