/-
  A slice of bytes with its room, of the call's own: one byte put behind it.
-/
import Derived.Test.YtkpodgeinanceaaOwn
import Derived.ArgAppend
namespace Go.Proofs.Ytkpodgeinanceaa
open Go.ChangeShapes Go.WideShapes Go.ChangeAt Go.RowKit
set_option linter.unusedVariables false

/-- a slice at a place of a block, its room writable -/
structure Sg (w : World) (g o n cap : Nat) (f : Nat → Nat) : Prop where
  ar : Ar w g o n f
  le : n ≤ cap
  sp : ∀ j, n ≤ j → j < cap → (w.cell? ⟨g, o + j, none⟩).isSome = true ∧ w.frozen? ⟨g, o + j, none⟩ = false
def Sp (base : Nat) (w : World) (v : Value) (n : Nat) (f : Nat → Nat) : Prop := ∃ g o cap, v = .slice (some ⟨g, o, none⟩) n cap ∧ base ≤ g ∧ Sg w g o n cap f
theorem Sg.below {w w' : World} {B g o n cap : Nat} {f : Nat → Nat} (h : Sg w g o n cap f) (hb : Below B w w') (hB : g < B) : Sg w' g o n cap f :=
  ⟨h.ar.below hb hB, h.le, fun j h1 h2 => by rw [hb.cell (p := ⟨g, o + j, none⟩) hB, hb.frozen (p := ⟨g, o + j, none⟩) hB]; exact h.sp j h1 h2⟩
theorem Sp.kept {base : Nat} {w w' : World} {v : Value} {n : Nat} {f : Nat → Nat} (h : Sp base w v n f) (hb : Below w.heap.size w w') : Sp base w' v n f := by
  obtain ⟨g, o, cap, rfl, hg, hs⟩ := h
  exact ⟨g, o, cap, rfl, hg, hs.below hb hs.ar.lt⟩
theorem isSome_of_row {w : World} {g : Nat} {cur : Array Value} {e : TypeId} {fr : Nat × Nat} (h : w.heap[g]? = some (.cells cur e fr)) (j : Nat) (hj : j < cur.size) : (w.cell? ⟨g, j, none⟩).isSome = true := by
  rw [cell_of_row w g j cur e fr h]
  simp [hj]
/-- what is left of the other blocks -/
def Ot (g : Nat) (w w' : World) : Prop := w.heap.size ≤ w'.heap.size ∧ ∀ b, b < w.heap.size → b ≠ g → w'.heap[b]? = w.heap[b]?
theorem Ot.ar {g b o n : Nat} {f : Nat → Nat} {w w' : World} (h : Ot g w w') (ha : Ar w b o n f) (hne : b ≠ g) : Ar w' b o n f := by
  have e := h.2 b ha.lt hne
  exact ⟨fun i hi => (World.cell?_of_block (a := ⟨b, o + i, none⟩) e).trans (ha.c i hi), fun i hi => (World.frozen?_of_block (a := ⟨b, o + i, none⟩) e).trans (ha.fz i hi), Nat.lt_of_lt_of_le ha.lt h.1⟩
theorem heap_setCells (b : Nat) : ∀ (vs : List Value) (o : Nat) (w : World) (k : Nat), k ≠ b → (w.setCells b o vs).heap[k]? = w.heap[k]?
  | [], _, _, _, _ => rfl
  | v :: r, o, w, k, h => by rw [World.setCells, heap_setCells b r (o + 1) _ k h]; exact Below.heap_setCell _ _ _ _ h

theorem Sg.push {base : Nat} {w : World} {g o n cap : Nat} {f : Nat → Nat} (h : Sg w g o n cap f) (hg : base ≤ g) (hbase : base ≤ w.heap.size) (ad : Addr) (c : Nat) (x : Value) (hx : w.cell? ad = some x) (hfx : x = .int .u8 (f n : Nat)) (had : ad.add 0 = ad) (hn : n ≤ 1048576) (ty : TypeId) :
    ∃ g' o' cap' w', (Builtin.append_ #[32, 32] ty #[.slice (some ⟨g, o, none⟩) n cap, .slice (some ad) 1 c]).run Try.prog w = .ok (.slice (some ⟨g', o', none⟩) (n + 1) cap') w' ∧ (g' = g ∨ w.heap.size ≤ g') ∧ Sg w' g' o' (n + 1) cap' f ∧ Below base w w' ∧ Ar w' g o n f ∧ Ot g w w' := by
  obtain ⟨i0, hi, hz0, hz1, hz2⟩ := info_parts info_u8
  subst hfx
  have hnews : ∀ j u, ([.int .u8 ((f n : Nat) : Int)] : List Value)[j]? = some u → w.cell? (ad.add j) = some u := by
    intro j u hu
    match j, hu with
    | 0, hu => simp at hu; subst hu; rw [had]; exact hx
  have hone : ∀ u ∈ ([.int .u8 ((f n : Nat) : Int)] : List Value), u.oneCell' = true := by
    intro u hu; simp at hu; subst hu; rfl
  by_cases hr : n + 1 ≤ cap
  · have hsp := h.sp n (Nat.le_refl _) (by omega)
    have hrun := run_append_room_cells (P := Try.prog) w 32 ty 5 i0 Try.underlying32 hi g o n cap ad 1 c [.int .u8 ((f n : Nat) : Int)] (by simp [hz1]) hnews hone hr
      (fun j hj => by simp at hj; subst hj; rw [hz1, Nat.mul_one, Nat.add_zero]; exact hsp.1) (fun j hj => by simp at hj; subst hj; rw [hz1, Nat.mul_one, Nat.add_zero]; exact hsp.2)
    rw [hz1, Nat.mul_one] at hrun
    refine ⟨g, o, cap, _, hrun, Or.inl rfl, ⟨⟨fun i hi => ?_, fun i hi => ?_, ?_⟩, hr, fun j h1 h2 => ?_⟩, ?_, h.ar.others (Or.inr (Or.inl (by omega))), ?_, fun b hb hne => ?_⟩
    · by_cases e : i = n
      · subst e
        have := World.cell?_setCells_in g [.int .u8 ((f i : Nat) : Int)] (o + i) w (fun j hj => by simp at hj; subst hj; rw [Nat.add_zero]; exact hsp.1) 0 (by simp)
        simpa using this
      · rw [World.cell?_setCells_out g _ _ w _ (fun _ _ => by simp; omega)]
        exact h.ar.c i (by omega)
    · rw [World.frozen?_setCells]
      by_cases e : i = n
      · subst e; exact hsp.2
      · exact h.ar.fz i (by omega)
    · rw [size_setCells]; exact h.ar.lt
    · rw [World.cell?_setCells_out g _ _ w _ (fun _ _ => by simp; omega), World.frozen?_setCells]
      exact h.sp j (by omega) h2
    · exact Go.Proofs.Ytkpodgeinanceaa.below_setCells hg _ _ _ (Below.refl _ _)
    · rw [size_setCells]; exact Nat.le_refl _
    · exact heap_setCells g _ _ w b hne
  · obtain ⟨v', w', hrun, hown, hgrow⟩ := run_append_arg_grows (P := Try.prog) w 32 ty 5 i0 (.int .u8 0) 1 1 Try.underlying32 hi hz0 hz1 hz2 rfl (by decide) ⟨g, o, none⟩ n cap (us n f) (by rw [us_length, Nat.mul_one])
      (fun j u hu => by rw [Addr.add_mid]; exact h.ar.range j u hu) ad 1 c [.int .u8 ((f n : Nat) : Int)] (by simp) hnews (by omega) (by unfold maxLen; omega) (by omega)
    rw [← us_succ] at hown
    have hown0 := hown
    rcases hown.2 with ⟨_, h0⟩ | ⟨g', cap', cur, rfl, hg', hgg, hnc, hcm, hcs, htk⟩
    · omega
    · refine ⟨g', 0, cap', w', hrun, Or.inr hg', ⟨⟨fun i hi => ?_, fun i hi => ?_, ?_⟩, hnc, fun j h1 h2 => ?_⟩, ⟨hgrow.os, hgrow.tape, hgrow.output, hgrow.size, fun k hk => hgrow.block k (by omega) (by simp)⟩, h.ar.below (B := w.heap.size) ⟨hgrow.os, hgrow.tape, hgrow.output, hgrow.size, fun k hk => hgrow.block k hk (by simp)⟩ h.ar.lt, hgrow.size, fun b hb _ => hgrow.block b hb (by simp)⟩
      · rw [Nat.zero_add, hown0.cellAt i (by omega)]
        simp [us_def, hi]
      · rw [Nat.zero_add]; exact hown0.frozenAt i
      · exact (Array.getElem?_eq_some_iff.1 hgg).1
      · rw [Nat.zero_add]
        exact ⟨isSome_of_row hgg j (by omega), hown0.frozenAt j⟩
/-- a row of the call's own as an array of bytes -/
theorem own_ar {w : World} {base n : Nat} {v : Value} {f : Nat → Nat} (h : w.ownsRow base 5 1 v n (us n f)) (hn : 0 < n) : ∃ g cap, v = .slice (some ⟨g, 0, none⟩) n cap ∧ base ≤ g ∧ Ar w g 0 n f := by
  have h0 := h
  rcases h.2 with ⟨_, h1⟩ | ⟨g', cap', cur, rfl, hg', hgg, hnc, hcm, hcs, htk⟩
  · omega
  · refine ⟨g', cap', rfl, hg', ⟨fun i hi => ?_, fun i hi => ?_, ?_⟩⟩
    · rw [Nat.zero_add, h0.cellAt i (by omega)]
      simp [us_def, hi]
    · rw [Nat.zero_add]; exact h0.frozenAt i
    · exact (Array.getElem?_eq_some_iff.1 hgg).1
theorem Sg.drew {w : World} {g o n cap : Nat} {f : Nat → Nat} (h : Sg w g o n cap f) : Sg w.drew g o n cap f := ⟨h.ar.drew, h.le, h.sp⟩
theorem Sg.alloc {w : World} {g o n cap : Nat} {f : Nat → Nat} (h : Sg w g o n cap f) (x : Obj) : Sg (w.alloc x) g o n cap f :=
  h.below ((Below.refl w.heap.size w).alloc (Nat.le_refl _) x) h.ar.lt
/-- []byte(s), its room -/
theorem conv_sp (w : World) (s : ByteArray) :
    ∃ (cap : Nat) (W : World), (convert 9 32 (.string s)).run Try.prog w = .ok (.slice (some ⟨w.heap.size, 0, none⟩) s.size cap) W ∧ Below w.heap.size w W ∧ Sg W w.heap.size 0 s.size cap (at8 s) ∧ W.heap.size = w.heap.size + 1 := by
  have hge := grownCap_ge w s.size 0 5
  have hbs : (bytesRow s (grownCap w s.size 0 5)).size = grownCap w s.size 0 5 := by
    simp only [bytesRow, Array.size_append, Array.size_map, Array.size_replicate]
    show s.size + (grownCap w s.size 0 5 - s.size) = _
    omega
  refine ⟨_, _, run_bytes_of_string w 9 32 5 s Try.underlying9 Try.underlying32 Try.underlying5, ?_, ⟨⟨?_, ?_, ?_⟩, hge, ?_⟩, ?_⟩
  · exact ((Below.refl _ _).drew).alloc (Nat.le_refl _) _
  · intro j h
    have := World.cell?_alloc_mark w.drew (bytesRow s (grownCap w s.size 0 5)) 5 ((bytesRow s (grownCap w s.size 0 5)).size, (bytesRow s (grownCap w s.size 0 5)).size + 1) j
    rw [World.size_drew] at this
    rw [Nat.zero_add, this, at8_in s j h]
    simp [bytesRow, Array.getElem?_append, h]
    rfl
  · intro j h
    have := World.frozen?_alloc_mark w.drew (bytesRow s (grownCap w s.size 0 5)) 5 (bytesRow s (grownCap w s.size 0 5)).size ((bytesRow s (grownCap w s.size 0 5)).size + 1) j
    rw [World.size_drew] at this
    rw [Nat.zero_add, this, hbs]
    simp
    omega
  · simp
  · intro j h1 h2
    have h3 := World.cell?_alloc_mark w.drew (bytesRow s (grownCap w s.size 0 5)) 5 ((bytesRow s (grownCap w s.size 0 5)).size, (bytesRow s (grownCap w s.size 0 5)).size + 1) j
    have h4 := World.frozen?_alloc_mark w.drew (bytesRow s (grownCap w s.size 0 5)) 5 (bytesRow s (grownCap w s.size 0 5)).size ((bytesRow s (grownCap w s.size 0 5)).size + 1) j
    rw [World.size_drew] at h3 h4
    rw [Nat.zero_add, h3, h4]
    refine ⟨?_, ?_⟩
    · rw [Array.getElem?_eq_getElem (by rw [hbs]; exact h2)]; rfl
    · rw [hbs]; simp; omega
  · simp
/-- append as one step of a region that draws -/
theorem step_append_run {P : Program} {ops : Array Oper} {o : Oper} {a : Act} {w : World} {K : Act → World → Prop} {Q : Exit → Act → World → Prop} {E : Prop}
    (hg : o.guard = none) (d x : Operand) (t : TypeId) (hop : o.op = Op.call { callee := Callee.builtin Builtin.append, args := #[d, x], argTypes := #[t, t] })
    (v1 v2 v' : Value) (w' : World) (hd : a.eval d = v1) (hx : a.eval x = v2) (hrun : (Builtin.append_ #[t, t] o.type #[v1, v2]).run P w = .ok v' w') (hK : K (a.put o.dst v') w') :
    if Region.wanted o (yielded ops a.tmps) = true then Oper.wp P o a w K Q else E := by
  have hw : Region.wanted o (yielded ops a.tmps) = true := by simp [Region.wanted, hg]
  rw [if_pos hw]
  unfold Oper.wp
  simp [execOp, hop, resolve, invoke, builtin, hd, hx, hrun, Result.andThen]
  exact hK
theorem new_cell (w : World) (x : Value) (t : TypeId) : (w.alloc (.cells #[x] t)).cell? ⟨w.heap.size, 0, none⟩ = some x := by simp
end Go.Proofs.Ytkpodgeinanceaa
