/-
  Arrays of words of 32 bits in a block, as functions of the place: read, written, kept.
-/
import Derived.Test.YtpjmnnaiegdjmaaDoorArr
namespace Go.Proofs.YtpjmnnaiegdjmaaDoor
open Go.ChangeShapes Go.WideShapes Go.ChangeAt Go.RowKit
set_option linter.unusedVariables false

/-- n of them as cells -/
def uw (n : Nat) (f : Nat → Nat) : List Value := lock 1 ((List.range n).map fun i => Value.int .u32 ((f i : Nat) : Int))
theorem uw_def (n : Nat) (f : Nat → Nat) : uw n f = (List.range n).map fun i => Value.int .u32 ((f i : Nat) : Int) := lock_eq _ _
theorem uw_length (n : Nat) (f : Nat → Nat) : (uw n f).length = n := by simp [uw_def]
theorem uw_congr {n : Nat} {f g : Nat → Nat} (h : ∀ i, i < n → f i = g i) : uw n f = uw n g := by
  simp only [uw_def]
  exact List.map_congr_left fun i hi => by rw [h i (List.mem_range.1 hi)]
/-- they lie at a place of a block, that may be written -/
structure Aw (w : World) (b o n : Nat) (f : Nat → Nat) : Prop where
  c : ∀ i, i < n → w.cell? ⟨b, o + i, none⟩ = some (.int .u32 (f i : Nat))
  fz : ∀ i, i < n → w.frozen? ⟨b, o + i, none⟩ = false
  lt : b < w.heap.size
theorem Aw.c0 {w : World} {b n : Nat} {f : Nat → Nat} (h : Aw w b 0 n f) (i : Nat) (hi : i < n) : w.cell? ⟨b, i, none⟩ = some (.int .u32 (f i : Nat)) := by
  have := h.c i hi; rwa [Nat.zero_add] at this
theorem Aw.f0 {w : World} {b n : Nat} {f : Nat → Nat} (h : Aw w b 0 n f) (i : Nat) (hi : i < n) : w.frozen? ⟨b, i, none⟩ = false := by
  have := h.fz i hi; rwa [Nat.zero_add] at this
theorem Aw.congr {w : World} {b o n : Nat} {f g : Nat → Nat} (h : Aw w b o n f) (e : ∀ i, i < n → f i = g i) : Aw w b o n g :=
  ⟨fun i hi => by rw [h.c i hi, e i hi], h.fz, h.lt⟩
theorem Aw.below {w w' : World} {B b o n : Nat} {f : Nat → Nat} (h : Aw w b o n f) (hb : Below B w w') (hB : b < B) : Aw w' b o n f :=
  ⟨fun i hi => by rw [hb.cell (p := ⟨b, o + i, none⟩) hB]; exact h.c i hi, fun i hi => by rw [hb.frozen (p := ⟨b, o + i, none⟩) hB]; exact h.fz i hi, Nat.lt_of_lt_of_le h.lt hb.size⟩
theorem Aw.drew {w : World} {b o n : Nat} {f : Nat → Nat} (h : Aw w b o n f) : Aw w.drew b o n f := ⟨h.c, h.fz, h.lt⟩
theorem Aw.new (w : World) (n : Nat) (f : Nat → Nat) (t : TypeId) : Aw (w.alloc (.cells (uw n f).toArray t)) w.heap.size 0 n f :=
  ⟨fun i hi => by simp [uw_def, hi], fun i hi => by simp, by simp⟩
theorem Aw.alloc {w : World} {b o n : Nat} {f : Nat → Nat} (h : Aw w b o n f) (x : Obj) : Aw (w.alloc x) b o n f :=
  h.below ((Below.refl w.heap.size w).alloc (Nat.le_refl _) x) h.lt
theorem Aw.put {w : World} {b o n : Nat} {f g : Nat → Nat} {k x : Nat} (h : Aw w b o n f) (hk : k < n) (h1 : g k = x) (h2 : ∀ i, i < n → i ≠ k → g i = f i) : Aw (w.setCell ⟨b, o + k, none⟩ (.int .u32 (x : Int))) b o n g := by
  have hc := h.c k hk
  refine ⟨fun i hi => ?_, fun i hi => ?_, ?_⟩
  · by_cases e : i = k
    · subst e
      rw [World.cell?_setCell_same _ _ _ hc, h1]
    · rw [World.cell?_setCell_other _ _ _ _ (by intro e'; simp at e' <;> omega), h2 i hi e]
      exact h.c i hi
  · rw [World.frozen?_setCell]
    exact h.fz i hi
  · simpa [World.setCell] using h.lt
theorem Aw.put0 {w : World} {b n : Nat} {f g : Nat → Nat} {k x : Nat} (h : Aw w b 0 n f) (hk : k < n) (h1 : g k = x) (h2 : ∀ i, i < n → i ≠ k → g i = f i) : Aw (w.setCell ⟨b, k, none⟩ (.int .u32 (x : Int))) b 0 n g := by
  have := h.put hk h1 h2; rwa [Nat.zero_add] at this
theorem Aw.step {w : World} {b n : Nat} {f g : Nat → Nat} {k x : Nat} (h : Aw w b 0 n (stp f g k)) (hk : k < n) (h1 : f k = x) : Aw (w.setCell ⟨b, k, none⟩ (.int .u32 (x : Int))) b 0 n (stp f g (k + 1)) :=
  h.put0 hk (by simp [stp, h1]) fun i hi hne => by
    unfold stp
    by_cases e : i < k
    · rw [if_pos (by omega), if_pos e]
    · rw [if_neg (by omega), if_neg e]
theorem Aw.stepEnd {w : World} {b n : Nat} {f g : Nat → Nat} (h : Aw w b 0 n (stp f g n)) : Aw w b 0 n f := h.congr fun i hi => by simp [stp, hi]
theorem Aw.stepNone {w : World} {b n : Nat} {f g : Nat → Nat} (h : Aw w b 0 n g) : Aw w b 0 n (stp f g 0) := h.congr fun i hi => by simp [stp]
theorem Aw.other {w : World} {b o n : Nat} {f : Nat → Nat} {a : Addr} {v : Value} (h : Aw w b o n f) (hne : a.block ≠ b) : Aw (w.setCell a v) b o n f := by
  refine ⟨fun i hi => ?_, fun i hi => ?_, ?_⟩
  · rw [World.cell?_setCell_other _ _ _ _ (by intro e; rw [e] at hne; simp at hne)]; exact h.c i hi
  · rw [World.frozen?_setCell]; exact h.fz i hi
  · simpa [World.setCell] using h.lt
theorem Aw.range {w : World} {b o n : Nat} {f : Nat → Nat} (h : Aw w b o n f) : w.rangeAt b o (uw n f) := by
  intro j v hv
  simp only [uw_def, List.getElem?_map] at hv
  by_cases e : j < n
  · rw [List.getElem?_range e] at hv
    simp at hv
    subst hv
    exact h.c j e
  · rw [List.getElem?_eq_none (by simp; omega)] at hv
    simp at hv
theorem Aw.there {w : World} {b o n : Nat} {f : Nat → Nat} (h : Aw w b o n f) : w.there b o n := fun j hj => ⟨by rw [h.c j hj]; rfl, h.fz j hj⟩
theorem Aw.others {w : World} {b o n b' o' : Nat} {f : Nat → Nat} {vs : List Value} (h : Aw w b o n f) (hne : b ≠ b' ∨ o + n ≤ o' ∨ o' + vs.length ≤ o) : Aw (w.setCells b' o' vs) b o n f := by
  refine ⟨fun i hi => ?_, fun i hi => ?_, ?_⟩
  · rw [World.cell?_setCells_out b' vs o' w _ (fun e1 _ => by simp at e1 ⊢; omega)]; exact h.c i hi
  · rw [World.frozen?_setCells]; exact h.fz i hi
  · rw [size_setCells]; exact h.lt
/-- a whole row is written -/
theorem Aw.puts {w : World} {b o n : Nat} {f g : Nat → Nat} (h : Aw w b o n f) : Aw (w.setCells b o (uw n g)) b o n g := by
  refine ⟨fun i hi => ?_, fun i hi => ?_, ?_⟩
  · rw [World.cell?_setCells_in b (uw n g) o w (fun j hj => by rw [uw_length] at hj; rw [h.c j hj]; rfl) i (by rw [uw_length]; exact hi)]
    simp [uw_def]
  · rw [World.frozen?_setCells]; exact h.fz i hi
  · rw [size_setCells]; exact h.lt
/-- a part of a row is written -/
theorem Aw.putPart {w : World} {b o n p m : Nat} {f g G : Nat → Nat} (h : Aw w b o n f) (hp : p + m ≤ n) (h1 : ∀ i, i < m → G (p + i) = g i) (h2 : ∀ i, i < n → i < p ∨ p + m ≤ i → G i = f i) : Aw (w.setCells b (o + p) (uw m g)) b o n G := by
  refine ⟨fun i hi => ?_, fun i hi => ?_, ?_⟩
  · by_cases e : p ≤ i ∧ i < p + m
    · have hh := World.cell?_setCells_in b (uw m g) (o + p) w (fun j hj => by rw [uw_length] at hj; rw [Nat.add_assoc, h.c (p + j) (by omega)]; rfl) (i - p) (by rw [uw_length]; omega)
      rw [show o + p + (i - p) = o + i by omega] at hh
      rw [hh]
      have := h1 (i - p) (by omega)
      rw [show p + (i - p) = i by omega] at this
      simp [uw_def, this]
    · rw [World.cell?_setCells_out b (uw m g) (o + p) w _ (fun _ _ => by rw [uw_length]; simp; omega), h2 i hi (by omega)]
      exact h.c i hi
  · rw [World.frozen?_setCells]; exact h.fz i hi
  · rw [size_setCells]; exact h.lt
theorem uw_one (n : Nat) (f : Nat → Nat) : (uw n f).toArray.all (·.oneCell') = true := all_oneCell_toArray fun v hv => by
  simp only [uw_def, List.mem_map] at hv
  obtain ⟨i, _, rfl⟩ := hv
  rfl
theorem uw_size (n : Nat) (f : Nat → Nat) : (uw n f).toArray.size = n := by simp [uw_def]
/-- a function ends, its one result an array in a cell of its own -/
theorem ret_arr_w {P : Program} {fn : Func} {R : Ending → World → Prop} {a : Act} {w : World} (s rb n : Nat) (t : TypeId) (d : TypeDesc) (f : Nat → Nat) (hres : fn.results = #[.cell s t]) (ha : a.tmps.getD s undef = .pointer (some ⟨rb, 0, none⟩)) (hd : a.defers = [])
    (h : Aw w rb 0 n f) (hu : P.underlying t = some d) (hrow : d.isRow = true) (hi : (P.info? t).map (·.size) = some n) (hR : R (.returned (.agg (uw n f).toArray)) w) : bodyPost P fn R .ret a w := by
  refine bodyPost_ret (v := .agg (uw n f).toArray) ?_ hd hR
  have hl := run_loadVar_mid (P := P) w rb 0 t (uw n f) d h.range hu hrow (by rw [uw_length]; exact hi)
  have e : (⟨rb, 0, none⟩ : Addr) = ⟨rb, 0, none⟩ := rfl
  unfold results
  rw [hres]
  simp only [Sem.run_bind, Array.mapM_eq_mapM_toList, List.mapM_cons, List.mapM_nil, ha]
  simp [asAddr, hl]
theorem Aw.loads {P : Program} {w : World} {b o n : Nat} {f : Nat → Nat} (h : Aw w b o n f) (t : TypeId) (d : TypeDesc) (hu : P.underlying t = some d) (hrow : d.isRow = true) (hi : (P.info? t).map (·.size) = some n) :
    (Instr.loadAt t (.pointer (some ⟨b, o, none⟩))).run P w = .ok (.agg (uw n f).toArray) w :=
  run_loadAt_mid (P := P) w b o t (uw n f) d h.range hu hrow (by rw [uw_length]; exact hi)
theorem Aw.stores {P : Program} {w : World} {b o n : Nat} {g : Nat → Nat} (h : Aw w b o n g) (f : Nat → Nat) (t : TypeId) (hi : (P.info? t).map (·.size) = some n) :
    (Instr.storeAt t (.pointer (some ⟨b, o, none⟩)) (.agg (uw n f).toArray)).run P w = .ok () (w.setCells b o (uw n f)) := by
  have := run_storeAt_mid (P := P) w b o t (uw n f).toArray (by rw [uw_size]; exact h.there) (by rw [uw_size]; exact hi) (uw_one n f)
  simpa using this
theorem made_uw (n : Nat) : madeCells #[.int .u32 0] n = (uw n fun _ => 0).toArray := by
  apply Array.toList_inj.1
  rw [toList_madeCells_one]
  exact (List.eq_replicate_iff.2 ⟨by simp [uw_def], fun b hb => by simp [uw_def] at hb; exact hb.2.symm⟩).symm
theorem info_u32 : (Tryd.prog.info? 88).map (fun i => (i.zero, i.size, i.bytes)) = some (some (.int .u32 0), 1, 4) := by kernel_rfl
/-- make([]byte, n) -/
theorem mk_words (n : Nat) (hn : n ≤ 1048576) (w : World) :
    (Instr.makeSlice 72 (.int .i64 n) (.int .i64 n)).run Tryd.prog w = .ok (.slice (some ⟨w.heap.size, 0, none⟩) n n) (w.alloc (.cells (uw n fun _ => 0).toArray 88)) := by
  obtain ⟨i0, hi, hz0, hz1, hz2⟩ := info_parts info_u32
  have := run_make (P := Tryd.prog) w 72 88 i0 _ Tryd.underlying72 hi hz0 .i64 .i64 n n (by omega) (by omega) (by rw [hz2]; omega) (by omega)
  rw [hz1] at this
  simpa [Value.cells, made_uw] using this
theorem uw_set {n k x : Nat} {f g : Nat → Nat} (hk : k < n) (h1 : g k = x) (h2 : ∀ i, i < n → i ≠ k → g i = f i) : (uw n f).set k (.int .u32 (x : Int)) = uw n g := by
  apply List.ext_getElem
  · simp [uw_def]
  · intro i h3 h4
    have hi : i < n := by simpa [uw_def] using h4
    by_cases e : i = k
    · subst e
      simp [uw_def, h1]
    · rw [List.getElem_set_ne (Ne.symm e)]
      simp [uw_def, h2 i hi e]
theorem Aw.cellsPut {P : Program} {w : World} {b o n : Nat} {g : Nat → Nat} (h : Aw w b o n g) (f : Nat → Nat) : (storeCells ⟨b, o, none⟩ (uw n f)).run P w = .ok () (w.setCells b o (uw n f)) := by
  have := run_storeCells_cells (P := P) b o (uw n f) 0 w (fun j hj => by rw [uw_length] at hj; rw [Nat.add_zero, h.c j hj]; rfl) (fun j hj => by rw [uw_length] at hj; rw [Nat.add_zero]; exact h.fz j hj)
    (fun v hv => by simp only [uw_def, List.mem_map] at hv; obtain ⟨i, _, rfl⟩ := hv; rfl)
  simpa using this
theorem Aw.part {w : World} {b o n : Nat} {f : Nat → Nat} (h : Aw w b o n f) (p m : Nat) (hp : p + m ≤ n) : Aw w b (o + p) m (fun i => f (p + i)) :=
  ⟨fun i hi => by rw [Nat.add_assoc]; exact h.c (p + i) (by omega), fun i hi => by rw [Nat.add_assoc]; exact h.fz (p + i) (by omega), h.lt⟩
theorem uw_oneL (n : Nat) (f : Nat → Nat) : ∀ v ∈ uw n f, v.oneCell' = true := fun v hv => by
  simp only [uw_def, List.mem_map] at hv
  obtain ⟨i, _, rfl⟩ := hv
  rfl
theorem uw_succ (n : Nat) (f : Nat → Nat) : uw (n + 1) f = uw n f ++ [.int .u32 (f n : Nat)] := by simp [uw_def, List.range_succ]
/-- a part put into a greater value -/
theorem fold_uw (N o : Nat) (f g : Nat → Nat) : ∀ m, o + m ≤ N → List.foldl (fun cs (x : Value × Nat) => Array.setIfInBounds cs (o + x.2) x.1) (uw N g).toArray (uw m f).zipIdx = (uw N (fun i => if o ≤ i ∧ i < o + m then f (i - o) else g i)).toArray
  | 0, _ => by
    have e : uw 0 f = [] := by rw [uw_def]; rfl
    rw [e]
    show (uw N g).toArray = _
    rw [uw_congr (f := g)]
    intro i _
    rw [if_neg (by omega)]
  | m + 1, h => by
    rw [uw_succ, List.zipIdx_append, List.foldl_append, fold_uw N o f g m (by omega), uw_length]
    simp only [List.zipIdx_cons, List.zipIdx_nil, List.foldl_cons, List.foldl_nil, Nat.zero_add, List.setIfInBounds_toArray]
    rw [uw_set (k := o + m) (by omega) (g := fun i => if o ≤ i ∧ i < o + (m + 1) then f (i - o) else g i)]
    · show (if o ≤ o + m ∧ o + m < o + (m + 1) then f (o + m - o) else g (o + m)) = f m
      rw [if_pos (by omega), Nat.add_sub_cancel_left]
    · intro i _ hne
      show (if o ≤ i ∧ i < o + (m + 1) then f (i - o) else g i) = if o ≤ i ∧ i < o + m then f (i - o) else g i
      by_cases e : o ≤ i ∧ i < o + m
      · rw [if_pos e, if_pos (by omega)]
      · rw [if_neg e, if_neg (by omega)]
end Go.Proofs.YtpjmnnaiegdjmaaDoor
