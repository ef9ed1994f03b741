/-
  Contracts: blockOf. Rows of the call's own, beside blocks. A slice of bytes with its room, of the call's own: one byte put behind it.
-/
import Derived.Test.YtgoafbhhihfkfaaArrX
import Derived.Deep.Cut
import Derived.Lib.LazyBuf
import Derived.ArgAppend
namespace Go.Proofs.Ytgoafbhhihfkfaa
open Go.ChangeShapes Go.WideShapes Go.ChangeAt Go.RowKit
set_option linter.unusedVariables false
set_option maxRecDepth 100000

theorem info_bl : (Try.prog.info? 37).map (·.size) = some 16 := by kernel_rfl
theorem z16_new (w : World) (t : TypeId) : Ar (w.alloc (.cells #[.int .u8 0, .int .u8 0, .int .u8 0, .int .u8 0, .int .u8 0, .int .u8 0, .int .u8 0, .int .u8 0, .int .u8 0, .int .u8 0, .int .u8 0, .int .u8 0, .int .u8 0, .int .u8 0, .int .u8 0, .int .u8 0] t)) w.heap.size 0 16 (fun _ => 0) := by
  have h := Ar.new w 16 (fun _ => 0) t
  rw [us_def] at h
  exact h
theorem us_at8 (s : ByteArray) : (s.data.toList.map fun x => Value.int .u8 (x.toNat : Int)) = us s.size (at8 s) := by
  apply List.ext_getElem
  · simp [us_def]
  · intro i h1 h2
    have h3 : i < s.size := by simpa [us_def] using h2
    simp [us_def, at8_in s i h3]
    rfl
theorem size_u8 (w : World) : (Go.sizeOf 5).run Try.prog w = .ok 1 w := by
  obtain ⟨i0, hi, hz0, hz1, hz2⟩ := info_parts info_u8
  simp [sizeOf, typeInfo, hi, hz1]
/-- a function ends with an array in a cell of its own, and another result -/
theorem ret_arr2 {P : Program} {fn : Func} {R : Ending → World → Prop} {a : Act} {w : World} (s rb n u : Nat) (t : TypeId) (d : TypeDesc) (f : Nat → Nat) (v : Value) (hres : fn.results = #[.cell s t, .tmp u]) (ha : a.tmps.getD s undef = .pointer (some ⟨rb, 0, none⟩)) (hu2 : a.tmps.getD u undef = v) (hd : a.defers = [])
    (h : Ar w rb 0 n f) (hu : P.underlying t = some d) (hrow : d.isRow = true) (hi : (P.info? t).map (·.size) = some n) (hR : R (.returned (.tuple #[.agg (us n f).toArray, v])) w) : bodyPost P fn R .ret a w := by
  refine bodyPost_ret (v := .tuple #[.agg (us n f).toArray, v]) ?_ hd hR
  have hl := run_loadVar_mid (P := P) w rb 0 t (us n f) d h.range hu hrow (by rw [us_length]; exact hi)
  unfold results
  rw [hres]
  simp only [Sem.run_bind, Array.mapM_eq_mapM_toList, List.mapM_cons, List.mapM_nil, ha, hu2]
  simp [asAddr, hl]

/-- an array that was loaded, indexed -/
theorem idx_us (n : Nat) (t : TypeId) (f : Nat → Nat) (k : Nat) (hk : k < n) (hu : Try.prog.underlying t = some (.array n 5)) (w : World) :
    (Instr.index t (.agg (us n f).toArray) (.int .i64 k)).run Try.prog w = .ok (.int .u8 (f k : Nat)) w := by
  have h0 : (0 : Int) ≤ (k : Int) ∧ (k : Int) < (n : Int) := by omega
  have hs := size_u8 w
  have hus : (us n f)[k]? = some (.int .u8 (f k : Nat)) := by simp [us_def, hk]
  simp [Instr.index, run_underlying hu, asIntOf, h0, hs, part, isAgg, run_underlying Try.underlying5, hus, go_sem]
  intro h9
  omega

set_option maxHeartbeats 1000000 in
theorem blockOf_ok (s : ByteArray) (hs : s.size = 16) (w : World) :
    Calls Try.prog 64 #[.string s] w fun e w' => e = .returned (.tuple #[.agg (us 16 (at8 s)).toArray, .bool true]) ∧ Below w.heap.size w w' := by
  go_enter Try.func64, Try.ntmps64
  go_wp2_with fail
  have hA := (z16_new w 37).alloc (.cells #[.int .u8 0, .int .u8 0, .int .u8 0, .int .u8 0, .int .u8 0, .int .u8 0, .int .u8 0, .int .u8 0, .int .u8 0, .int .u8 0, .int .u8 0, .int .u8 0, .int .u8 0, .int .u8 0, .int .u8 0, .int .u8 0] 37)
  have hB := z16_new (w.alloc (.cells #[.int .u8 0, .int .u8 0, .int .u8 0, .int .u8 0, .int .u8 0, .int .u8 0, .int .u8 0, .int .u8 0, .int .u8 0, .int .u8 0, .int .u8 0, .int .u8 0, .int .u8 0, .int .u8 0, .int .u8 0, .int .u8 0] 37)) 37
  rw [World.size_alloc] at hB
  have hC := ((Below.refl w.heap.size w).alloc (Nat.le_refl _) (.cells #[.int .u8 0, .int .u8 0, .int .u8 0, .int .u8 0, .int .u8 0, .int .u8 0, .int .u8 0, .int .u8 0, .int .u8 0, .int .u8 0, .int .u8 0, .int .u8 0, .int .u8 0, .int .u8 0, .int .u8 0, .int .u8 0] 37)).alloc (by simp) (.cells #[.int .u8 0, .int .u8 0, .int .u8 0, .int .u8 0, .int .u8 0, .int .u8 0, .int .u8 0, .int .u8 0, .int .u8 0, .int .u8 0, .int .u8 0, .int .u8 0, .int .u8 0, .int .u8 0, .int .u8 0, .int .u8 0] 37)
  generalize ((w.alloc (.cells #[.int .u8 0, .int .u8 0, .int .u8 0, .int .u8 0, .int .u8 0, .int .u8 0, .int .u8 0, .int .u8 0, .int .u8 0, .int .u8 0, .int .u8 0, .int .u8 0, .int .u8 0, .int .u8 0, .int .u8 0, .int .u8 0] 37)).alloc (.cells #[.int .u8 0, .int .u8 0, .int .u8 0, .int .u8 0, .int .u8 0, .int .u8 0, .int .u8 0, .int .u8 0, .int .u8 0, .int .u8 0, .int .u8 0, .int .u8 0, .int .u8 0, .int .u8 0, .int .u8 0, .int .u8 0] 37)) = W at hA hB hC ⊢
  rw [Go.run_copy_string W 22 9 3 5 (w.heap.size + 1) 0 16 16 s Try.underlying22 size_u8 (by omega) (fun j hj => by rw [hB.c j (by omega)]; rfl) (fun j hj => hB.fz j (by omega)), us_at8, hs]
  have h1 := hB.puts (g := at8 s)
  have h2 := hA.others (b' := w.heap.size + 1) (o' := 0) (vs := us 16 (at8 s)) (Or.inl (by omega))
  have h3 := Go.Proofs.Ytgoafbhhihfkfaa.below_setCells (b := w.heap.size + 1) (by omega) (us 16 (at8 s)) 0 _ hC
  generalize W.setCells (w.heap.size + 1) 0 (us 16 (at8 s)) = W2 at h1 h2 h3 ⊢
  clear hA hB hC
  go_upto_region 5 with fail
  refine wp_region_list ?_
  refine wpList_load_mid rfl 37 (.tmp 4) rfl (w.heap.size + 1) 0 rfl (us 16 (at8 s)) _ h1.range Try.underlying37 rfl (by rw [us_length]; exact info_bl) ?_
  refine wpList_store_mid rfl 37 (.tmp 2) (.tmp 12) rfl w.heap.size 0 (us 16 (at8 s)).toArray rfl rfl (by rw [us_size]; exact h2.there) (by rw [us_size]; exact info_bl) (us_one _ _) ?_
  have HH := hide (h2.puts (g := at8 s))
  have HB := hide h3
  clear h1 h2 h3
  go_wp2
  refine ret_arr2 2 w.heap.size 16 3 37 _ (at8 s) (.bool true) ?r1 ?r2 ?r4 ?r3 (unhide HH) Try.underlying37 rfl info_bl ?_
  case r1 => rfl
  case r2 => rfl
  case r3 => rfl
  case r4 => rfl
  exact ⟨rfl, Go.Proofs.Ytgoafbhhihfkfaa.below_setCells (Nat.le_refl _) _ _ _ (unhide HB)⟩
set_option maxHeartbeats 1000000 in
theorem blockOf_no (s : ByteArray) (hs : ¬ s.size = 16) (hl : s.size ≤ 1048576) (w : World) :
    Calls Try.prog 64 #[.string s] w fun e w' => e = .returned (.tuple #[.agg (us 16 (fun _ => 0)).toArray, .bool false]) ∧ Below w.heap.size w w' := by
  have h1 : ((s.size : Int) != 16) = true := by simp; omega
  go_enter Try.func64, Try.ntmps64
  go_wp2
  refine ret_arr2 2 w.heap.size 16 3 37 _ (fun _ => 0) (.bool false) ?r1 ?r2 ?r4 ?r3 ?r5 Try.underlying37 rfl info_bl ?_
  case r1 => rfl
  case r2 => rfl
  case r3 => rfl
  case r4 => rfl
  case r5 => exact (z16_new w 37).alloc _
  exact ⟨rfl, ((Below.refl w.heap.size w).alloc (Nat.le_refl _) _).alloc (by simp) _⟩
end Go.Proofs.Ytgoafbhhihfkfaa
namespace Go.Proofs.Ytgoafbhhihfkfaa
open Go.ChangeShapes Go.WideShapes Go.ChangeAt Go.RowKit
set_option linter.unusedVariables false

theorem take_us (N p m : Nat) (f : Nat → Nat) (h : p + m ≤ N) : List.take m (List.drop p (us N f)) = us m (fun i => f (p + i)) := by
  apply List.ext_getElem
  · simp [us_def]; omega
  · intro i h1 h2
    simp [us_def]
/-- a row of an array of blocks that was loaded -/
theorem idx_rows (R : Nat) (t : TypeId) (f : Nat → Nat) (k : Nat) (hk : k < R) (hu : Try.prog.underlying t = some (.array R 37)) (w : World) :
    (Instr.index t (.agg (us (16 * R) f).toArray) (.int .i64 k)).run Try.prog w = .ok (.agg (us 16 (fun i => f (16 * k + i))).toArray) w := by
  have h0 : (0 : Int) ≤ (k : Int) ∧ (k : Int) < (R : Int) := by omega
  have hs : (Go.sizeOf 37).run Try.prog w = .ok 16 w := by
    cases hq : Try.prog.info? 37 with
    | none => have := info_bl; simp [hq] at this
    | some i => have h9 := info_bl; simp [hq] at h9; simp [sizeOf, typeInfo, hq, h9]
  have he := take_us (16 * R) (k * 16) 16 f (by omega)
  rw [Nat.mul_comm 16 k]
  simp [Instr.index, run_underlying hu, asIntOf, h0, hs, part, isAgg, run_underlying Try.underlying37, he, go_sem]
  intro h9
  omega
end Go.Proofs.Ytgoafbhhihfkfaa
namespace Go.Proofs.Ytgoafbhhihfkfaa
open Go.ChangeShapes Go.WideShapes Go.ChangeAt Go.RowKit
set_option linter.unusedVariables false

/-- a slice at a place of a block, its room writable -/
structure Sg (w : World) (g o n cap : Nat) (f : Nat → Nat) : Prop where
  ar : Ar w g o n f
  le : n ≤ cap
  sp : ∀ j, n ≤ j → j < cap → (w.cell? ⟨g, o + j, none⟩).isSome = true ∧ w.frozen? ⟨g, o + j, none⟩ = false
def Sp (base : Nat) (w : World) (v : Value) (n : Nat) (f : Nat → Nat) : Prop := ∃ g o cap, v = .slice (some ⟨g, o, none⟩) n cap ∧ base ≤ g ∧ Sg w g o n cap f
theorem Sg.below {w w' : World} {B g o n cap : Nat} {f : Nat → Nat} (h : Sg w g o n cap f) (hb : Below B w w') (hB : g < B) : Sg w' g o n cap f :=
  ⟨h.ar.below hb hB, h.le, fun j h1 h2 => by rw [hb.cell (p := ⟨g, o + j, none⟩) hB, hb.frozen (p := ⟨g, o + j, none⟩) hB]; exact h.sp j h1 h2⟩
theorem Sp.kept {base : Nat} {w w' : World} {v : Value} {n : Nat} {f : Nat → Nat} (h : Sp base w v n f) (hb : Below w.heap.size w w') : Sp base w' v n f := by
  obtain ⟨g, o, cap, rfl, hg, hs⟩ := h
  exact ⟨g, o, cap, rfl, hg, hs.below hb hs.ar.lt⟩
theorem isSome_of_row {w : World} {g : Nat} {cur : Array Value} {e : TypeId} {fr : Nat × Nat} (h : w.heap[g]? = some (.cells cur e fr)) (j : Nat) (hj : j < cur.size) : (w.cell? ⟨g, j, none⟩).isSome = true := by
  rw [cell_of_row w g j cur e fr h]
  simp [hj]
/-- what is left of the other blocks -/
def Ot (g : Nat) (w w' : World) : Prop := w.heap.size ≤ w'.heap.size ∧ ∀ b, b < w.heap.size → b ≠ g → w'.heap[b]? = w.heap[b]?
theorem Ot.ar {g b o n : Nat} {f : Nat → Nat} {w w' : World} (h : Ot g w w') (ha : Ar w b o n f) (hne : b ≠ g) : Ar w' b o n f := by
  have e := h.2 b ha.lt hne
  exact ⟨fun i hi => (World.cell?_of_block (a := ⟨b, o + i, none⟩) e).trans (ha.c i hi), fun i hi => (World.frozen?_of_block (a := ⟨b, o + i, none⟩) e).trans (ha.fz i hi), Nat.lt_of_lt_of_le ha.lt h.1⟩
theorem heap_setCells (b : Nat) : ∀ (vs : List Value) (o : Nat) (w : World) (k : Nat), k ≠ b → (w.setCells b o vs).heap[k]? = w.heap[k]?
  | [], _, _, _, _ => rfl
  | v :: r, o, w, k, h => by rw [World.setCells, heap_setCells b r (o + 1) _ k h]; exact Below.heap_setCell _ _ _ _ h

theorem Sg.push {base : Nat} {w : World} {g o n cap : Nat} {f : Nat → Nat} (h : Sg w g o n cap f) (hg : base ≤ g) (hbase : base ≤ w.heap.size) (ad : Addr) (c : Nat) (x : Value) (hx : w.cell? ad = some x) (hfx : x = .int .u8 (f n : Nat)) (had : ad.add 0 = ad) (hn : n ≤ 1048576) (ty : TypeId) :
    ∃ g' o' cap' w', (Builtin.append_ #[22, 22] ty #[.slice (some ⟨g, o, none⟩) n cap, .slice (some ad) 1 c]).run Try.prog w = .ok (.slice (some ⟨g', o', none⟩) (n + 1) cap') w' ∧ (g' = g ∨ w.heap.size ≤ g') ∧ Sg w' g' o' (n + 1) cap' f ∧ Below base w w' ∧ Ar w' g o n f ∧ Ot g w w' := by
  obtain ⟨i0, hi, hz0, hz1, hz2⟩ := info_parts info_u8
  subst hfx
  have hnews : ∀ j u, ([.int .u8 ((f n : Nat) : Int)] : List Value)[j]? = some u → w.cell? (ad.add j) = some u := by
    intro j u hu
    match j, hu with
    | 0, hu => simp at hu; subst hu; rw [had]; exact hx
  have hone : ∀ u ∈ ([.int .u8 ((f n : Nat) : Int)] : List Value), u.oneCell' = true := by
    intro u hu; simp at hu; subst hu; rfl
  by_cases hr : n + 1 ≤ cap
  · have hsp := h.sp n (Nat.le_refl _) (by omega)
    have hrun := run_append_room_cells (P := Try.prog) w 22 ty 5 i0 Try.underlying22 hi g o n cap ad 1 c [.int .u8 ((f n : Nat) : Int)] (by simp [hz1]) hnews hone hr
      (fun j hj => by simp at hj; subst hj; rw [hz1, Nat.mul_one, Nat.add_zero]; exact hsp.1) (fun j hj => by simp at hj; subst hj; rw [hz1, Nat.mul_one, Nat.add_zero]; exact hsp.2)
    rw [hz1, Nat.mul_one] at hrun
    refine ⟨g, o, cap, _, hrun, Or.inl rfl, ⟨⟨fun i hi => ?_, fun i hi => ?_, ?_⟩, hr, fun j h1 h2 => ?_⟩, ?_, h.ar.others (Or.inr (Or.inl (by omega))), ?_, fun b hb hne => ?_⟩
    · by_cases e : i = n
      · subst e
        have := World.cell?_setCells_in g [.int .u8 ((f i : Nat) : Int)] (o + i) w (fun j hj => by simp at hj; subst hj; rw [Nat.add_zero]; exact hsp.1) 0 (by simp)
        simpa using this
      · rw [World.cell?_setCells_out g _ _ w _ (fun _ _ => by simp; omega)]
        exact h.ar.c i (by omega)
    · rw [World.frozen?_setCells]
      by_cases e : i = n
      · subst e; exact hsp.2
      · exact h.ar.fz i (by omega)
    · rw [size_setCells]; exact h.ar.lt
    · rw [World.cell?_setCells_out g _ _ w _ (fun _ _ => by simp; omega), World.frozen?_setCells]
      exact h.sp j (by omega) h2
    · exact Go.Proofs.Ytgoafbhhihfkfaa.below_setCells hg _ _ _ (Below.refl _ _)
    · rw [size_setCells]; exact Nat.le_refl _
    · exact heap_setCells g _ _ w b hne
  · obtain ⟨v', w', hrun, hown, hgrow⟩ := run_append_arg_grows (P := Try.prog) w 22 ty 5 i0 (.int .u8 0) 1 1 Try.underlying22 hi hz0 hz1 hz2 rfl (by decide) ⟨g, o, none⟩ n cap (us n f) (by rw [us_length, Nat.mul_one])
      (fun j u hu => by rw [Addr.add_mid]; exact h.ar.range j u hu) ad 1 c [.int .u8 ((f n : Nat) : Int)] (by simp) hnews (by omega) (by unfold maxLen; omega) (by omega)
    rw [← us_succ] at hown
    have hown0 := hown
    rcases hown.2 with ⟨_, h0⟩ | ⟨g', cap', cur, rfl, hg', hgg, hnc, hcm, hcs, htk⟩
    · omega
    · refine ⟨g', 0, cap', w', hrun, Or.inr hg', ⟨⟨fun i hi => ?_, fun i hi => ?_, ?_⟩, hnc, fun j h1 h2 => ?_⟩, ⟨hgrow.os, hgrow.tape, hgrow.output, hgrow.size, fun k hk => hgrow.block k (by omega) (by simp)⟩, h.ar.below (B := w.heap.size) ⟨hgrow.os, hgrow.tape, hgrow.output, hgrow.size, fun k hk => hgrow.block k hk (by simp)⟩ h.ar.lt, hgrow.size, fun b hb _ => hgrow.block b hb (by simp)⟩
      · rw [Nat.zero_add, hown0.cellAt i (by omega)]
        simp [us_def, hi]
      · rw [Nat.zero_add]; exact hown0.frozenAt i
      · exact (Array.getElem?_eq_some_iff.1 hgg).1
      · rw [Nat.zero_add]
        exact ⟨isSome_of_row hgg j (by omega), hown0.frozenAt j⟩
/-- a row of the call's own as an array of bytes -/
theorem own_ar {w : World} {base n : Nat} {v : Value} {f : Nat → Nat} (h : w.ownsRow base 5 1 v n (us n f)) (hn : 0 < n) : ∃ g cap, v = .slice (some ⟨g, 0, none⟩) n cap ∧ base ≤ g ∧ Ar w g 0 n f := by
  have h0 := h
  rcases h.2 with ⟨_, h1⟩ | ⟨g', cap', cur, rfl, hg', hgg, hnc, hcm, hcs, htk⟩
  · omega
  · refine ⟨g', cap', rfl, hg', ⟨fun i hi => ?_, fun i hi => ?_, ?_⟩⟩
    · rw [Nat.zero_add, h0.cellAt i (by omega)]
      simp [us_def, hi]
    · rw [Nat.zero_add]; exact h0.frozenAt i
    · exact (Array.getElem?_eq_some_iff.1 hgg).1
theorem Sg.drew {w : World} {g o n cap : Nat} {f : Nat → Nat} (h : Sg w g o n cap f) : Sg w.drew g o n cap f := ⟨h.ar.drew, h.le, h.sp⟩
theorem Sg.alloc {w : World} {g o n cap : Nat} {f : Nat → Nat} (h : Sg w g o n cap f) (x : Obj) : Sg (w.alloc x) g o n cap f :=
  h.below ((Below.refl w.heap.size w).alloc (Nat.le_refl _) x) h.ar.lt
/-- []byte(s), its room -/
theorem conv_sp (w : World) (s : ByteArray) :
    ∃ (cap : Nat) (W : World), (convert 9 22 (.string s)).run Try.prog w = .ok (.slice (some ⟨w.heap.size, 0, none⟩) s.size cap) W ∧ Below w.heap.size w W ∧ Sg W w.heap.size 0 s.size cap (at8 s) ∧ W.heap.size = w.heap.size + 1 := by
  have hge := grownCap_ge w s.size 0 5
  have hbs : (bytesRow s (grownCap w s.size 0 5)).size = grownCap w s.size 0 5 := by
    simp only [bytesRow, Array.size_append, Array.size_map, Array.size_replicate]
    show s.size + (grownCap w s.size 0 5 - s.size) = _
    omega
  refine ⟨_, _, run_bytes_of_string w 9 22 5 s Try.underlying9 Try.underlying22 Try.underlying5, ?_, ⟨⟨?_, ?_, ?_⟩, hge, ?_⟩, ?_⟩
  · exact ((Below.refl _ _).drew).alloc (Nat.le_refl _) _
  · intro j h
    have := World.cell?_alloc_mark w.drew (bytesRow s (grownCap w s.size 0 5)) 5 ((bytesRow s (grownCap w s.size 0 5)).size, (bytesRow s (grownCap w s.size 0 5)).size + 1) j
    rw [World.size_drew] at this
    rw [Nat.zero_add, this, at8_in s j h]
    simp [bytesRow, Array.getElem?_append, h]
    rfl
  · intro j h
    have := World.frozen?_alloc_mark w.drew (bytesRow s (grownCap w s.size 0 5)) 5 (bytesRow s (grownCap w s.size 0 5)).size ((bytesRow s (grownCap w s.size 0 5)).size + 1) j
    rw [World.size_drew] at this
    rw [Nat.zero_add, this, hbs]
    simp
    omega
  · simp
  · intro j h1 h2
    have h3 := World.cell?_alloc_mark w.drew (bytesRow s (grownCap w s.size 0 5)) 5 ((bytesRow s (grownCap w s.size 0 5)).size, (bytesRow s (grownCap w s.size 0 5)).size + 1) j
    have h4 := World.frozen?_alloc_mark w.drew (bytesRow s (grownCap w s.size 0 5)) 5 (bytesRow s (grownCap w s.size 0 5)).size ((bytesRow s (grownCap w s.size 0 5)).size + 1) j
    rw [World.size_drew] at h3 h4
    rw [Nat.zero_add, h3, h4]
    refine ⟨?_, ?_⟩
    · rw [Array.getElem?_eq_getElem (by rw [hbs]; exact h2)]; rfl
    · rw [hbs]; simp; omega
  · simp
/-- append as one step of a region that draws -/
theorem step_append_run {P : Program} {ops : Array Oper} {o : Oper} {a : Act} {w : World} {K : Act → World → Prop} {Q : Exit → Act → World → Prop} {E : Prop}
    (hg : o.guard = none) (d x : Operand) (t : TypeId) (hop : o.op = Op.call { callee := Callee.builtin Builtin.append, args := #[d, x], argTypes := #[t, t] })
    (v1 v2 v' : Value) (w' : World) (hd : a.eval d = v1) (hx : a.eval x = v2) (hrun : (Builtin.append_ #[t, t] o.type #[v1, v2]).run P w = .ok v' w') (hK : K (a.put o.dst v') w') :
    if Region.wanted o (yielded ops a.tmps) = true then Oper.wp P o a w K Q else E := by
  have hw : Region.wanted o (yielded ops a.tmps) = true := by simp [Region.wanted, hg]
  rw [if_pos hw]
  unfold Oper.wp
  simp [execOp, hop, resolve, invoke, builtin, hd, hx, hrun, Result.andThen]
  exact hK
theorem new_cell (w : World) (x : Value) (t : TypeId) : (w.alloc (.cells #[x] t)).cell? ⟨w.heap.size, 0, none⟩ = some x := by simp
end Go.Proofs.Ytgoafbhhihfkfaa
