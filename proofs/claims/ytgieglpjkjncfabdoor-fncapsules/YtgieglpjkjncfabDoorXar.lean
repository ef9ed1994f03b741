/-
  Arrays of bytes in a block, as functions of the place: read, written, kept.
-/
import Derived.Test.YtgieglpjkjncfabDoorBase
import Derived.Deep.RegionHeld3
import Derived.Deep.MidRow
namespace Go.Proofs.YtgieglpjkjncfabDoor.Dr
open Go.ChangeShapes Go.WideShapes Go.ChangeAt Go.RowKit
set_option linter.unusedVariables false

/-- a value that the unifier does not open -/
def lock {α : Type} (n : Nat) (a : α) : α := if h : n = 0 then a else lock (n - 1) a
theorem lock_eq {α : Type} (a : α) : ∀ n, lock n a = a
  | 0 => by rw [lock]; simp
  | n + 1 => by rw [lock, dif_neg (by omega), Nat.add_sub_cancel]; exact lock_eq a n
/-- n bytes as cells -/
def us (n : Nat) (f : Nat → Nat) : List Value := lock 1 ((List.range n).map fun i => Value.int .u8 ((f i : Nat) : Int))
theorem us_def (n : Nat) (f : Nat → Nat) : us n f = (List.range n).map fun i => Value.int .u8 ((f i : Nat) : Int) := lock_eq _ _
theorem us_length (n : Nat) (f : Nat → Nat) : (us n f).length = n := by simp [us_def]
theorem us_congr {n : Nat} {f g : Nat → Nat} (h : ∀ i, i < n → f i = g i) : us n f = us n g := by
  simp only [us_def]
  exact List.map_congr_left fun i hi => by rw [h i (List.mem_range.1 hi)]
/-- four bytes -/
def q4 (a b c d : Nat) (i : Nat) : Nat := if i = 0 then a else if i = 1 then b else if i = 2 then c else d
theorem us4 (f : Nat → Nat) : (us 4 f).toArray = #[.int .u8 (f 0 : Nat), .int .u8 (f 1 : Nat), .int .u8 (f 2 : Nat), .int .u8 (f 3 : Nat)] := by rw [us_def]; rfl
/-- the first k places of f, the others of g -/
def stp (f g : Nat → Nat) (k i : Nat) : Nat := if i < k then f i else g i

/-- bytes at a place of a block, that may be written -/
structure Ar (w : World) (b o n : Nat) (f : Nat → Nat) : Prop where
  c : ∀ i, i < n → w.cell? ⟨b, o + i, none⟩ = some (.int .u8 (f i : Nat))
  fz : ∀ i, i < n → w.frozen? ⟨b, o + i, none⟩ = false
  lt : b < w.heap.size
theorem Ar.c0 {w : World} {b n : Nat} {f : Nat → Nat} (h : Ar w b 0 n f) (i : Nat) (hi : i < n) : w.cell? ⟨b, i, none⟩ = some (.int .u8 (f i : Nat)) := by
  have := h.c i hi; rwa [Nat.zero_add] at this
theorem Ar.f0 {w : World} {b n : Nat} {f : Nat → Nat} (h : Ar w b 0 n f) (i : Nat) (hi : i < n) : w.frozen? ⟨b, i, none⟩ = false := by
  have := h.fz i hi; rwa [Nat.zero_add] at this
theorem Ar.congr {w : World} {b o n : Nat} {f g : Nat → Nat} (h : Ar w b o n f) (e : ∀ i, i < n → f i = g i) : Ar w b o n g :=
  ⟨fun i hi => by rw [h.c i hi, e i hi], h.fz, h.lt⟩
theorem Ar.below {w w' : World} {B b o n : Nat} {f : Nat → Nat} (h : Ar w b o n f) (hb : Below B w w') (hB : b < B) : Ar w' b o n f :=
  ⟨fun i hi => by rw [hb.cell (p := ⟨b, o + i, none⟩) hB]; exact h.c i hi, fun i hi => by rw [hb.frozen (p := ⟨b, o + i, none⟩) hB]; exact h.fz i hi, Nat.lt_of_lt_of_le h.lt hb.size⟩
theorem Ar.drew {w : World} {b o n : Nat} {f : Nat → Nat} (h : Ar w b o n f) : Ar w.drew b o n f := ⟨h.c, h.fz, h.lt⟩
theorem Ar.new (w : World) (n : Nat) (f : Nat → Nat) (t : TypeId) : Ar (w.alloc (.cells (us n f).toArray t)) w.heap.size 0 n f :=
  ⟨fun i hi => by simp [us_def, hi], fun i hi => by simp, by simp⟩
theorem Ar.alloc {w : World} {b o n : Nat} {f : Nat → Nat} (h : Ar w b o n f) (x : Obj) : Ar (w.alloc x) b o n f :=
  h.below ((Below.refl w.heap.size w).alloc (Nat.le_refl _) x) h.lt
theorem Ar.put {w : World} {b o n : Nat} {f g : Nat → Nat} {k x : Nat} (h : Ar w b o n f) (hk : k < n) (h1 : g k = x) (h2 : ∀ i, i < n → i ≠ k → g i = f i) : Ar (w.setCell ⟨b, o + k, none⟩ (.int .u8 (x : Int))) b o n g := by
  have hc := h.c k hk
  refine ⟨fun i hi => ?_, fun i hi => ?_, ?_⟩
  · by_cases e : i = k
    · subst e
      rw [World.cell?_setCell_same _ _ _ hc, h1]
    · rw [World.cell?_setCell_other _ _ _ _ (by intro e'; simp at e' <;> omega), h2 i hi e]
      exact h.c i hi
  · rw [World.frozen?_setCell]
    exact h.fz i hi
  · simpa [World.setCell] using h.lt
theorem Ar.put0 {w : World} {b n : Nat} {f g : Nat → Nat} {k x : Nat} (h : Ar w b 0 n f) (hk : k < n) (h1 : g k = x) (h2 : ∀ i, i < n → i ≠ k → g i = f i) : Ar (w.setCell ⟨b, k, none⟩ (.int .u8 (x : Int))) b 0 n g := by
  have := h.put hk h1 h2; rwa [Nat.zero_add] at this
theorem Ar.step {w : World} {b n : Nat} {f g : Nat → Nat} {k x : Nat} (h : Ar w b 0 n (stp f g k)) (hk : k < n) (h1 : f k = x) : Ar (w.setCell ⟨b, k, none⟩ (.int .u8 (x : Int))) b 0 n (stp f g (k + 1)) :=
  h.put0 hk (by simp [stp, h1]) fun i hi hne => by
    unfold stp
    by_cases e : i < k
    · rw [if_pos (by omega), if_pos e]
    · rw [if_neg (by omega), if_neg e]
theorem Ar.stepEnd {w : World} {b n : Nat} {f g : Nat → Nat} (h : Ar w b 0 n (stp f g n)) : Ar w b 0 n f := h.congr fun i hi => by simp [stp, hi]
theorem Ar.stepNone {w : World} {b n : Nat} {f g : Nat → Nat} (h : Ar w b 0 n g) : Ar w b 0 n (stp f g 0) := h.congr fun i hi => by simp [stp]
theorem Ar.other {w : World} {b o n : Nat} {f : Nat → Nat} {a : Addr} {v : Value} (h : Ar w b o n f) (hne : a.block ≠ b) : Ar (w.setCell a v) b o n f := by
  refine ⟨fun i hi => ?_, fun i hi => ?_, ?_⟩
  · rw [World.cell?_setCell_other _ _ _ _ (by intro e; rw [e] at hne; simp at hne)]; exact h.c i hi
  · rw [World.frozen?_setCell]; exact h.fz i hi
  · simpa [World.setCell] using h.lt
theorem Ar.range {w : World} {b o n : Nat} {f : Nat → Nat} (h : Ar w b o n f) : w.rangeAt b o (us n f) := by
  intro j v hv
  simp only [us_def, List.getElem?_map] at hv
  by_cases e : j < n
  · rw [List.getElem?_range e] at hv
    simp at hv
    subst hv
    exact h.c j e
  · rw [List.getElem?_eq_none (by simp; omega)] at hv
    simp at hv
theorem Ar.there {w : World} {b o n : Nat} {f : Nat → Nat} (h : Ar w b o n f) : w.there b o n := fun j hj => ⟨by rw [h.c j hj]; rfl, h.fz j hj⟩
theorem size_setCells (b : Nat) : ∀ (vs : List Value) (o : Nat) (w : World), (w.setCells b o vs).heap.size = w.heap.size
  | [], _, _ => rfl
  | v :: r, o, w => by rw [World.setCells, size_setCells b r]; simp [World.setCell]
theorem below_setCells {B b : Nat} {a : World} (hb : B ≤ b) : ∀ (vs : List Value) (o : Nat) (w : World), Below B a w → Below B a (w.setCells b o vs)
  | [], _, _, h => h
  | v :: r, o, w, h => by rw [World.setCells]; exact below_setCells hb r (o + 1) _ (h.setCell hb _)
theorem Ar.others {w : World} {b o n b' o' : Nat} {f : Nat → Nat} {vs : List Value} (h : Ar w b o n f) (hne : b ≠ b' ∨ o + n ≤ o' ∨ o' + vs.length ≤ o) : Ar (w.setCells b' o' vs) b o n f := by
  refine ⟨fun i hi => ?_, fun i hi => ?_, ?_⟩
  · rw [World.cell?_setCells_out b' vs o' w _ (fun e1 _ => by simp at e1 ⊢; omega)]; exact h.c i hi
  · rw [World.frozen?_setCells]; exact h.fz i hi
  · rw [size_setCells]; exact h.lt
/-- a whole row is written -/
theorem Ar.puts {w : World} {b o n : Nat} {f g : Nat → Nat} (h : Ar w b o n f) : Ar (w.setCells b o (us n g)) b o n g := by
  refine ⟨fun i hi => ?_, fun i hi => ?_, ?_⟩
  · rw [World.cell?_setCells_in b (us n g) o w (fun j hj => by rw [us_length] at hj; rw [h.c j hj]; rfl) i (by rw [us_length]; exact hi)]
    simp [us_def]
  · rw [World.frozen?_setCells]; exact h.fz i hi
  · rw [size_setCells]; exact h.lt
/-- a part of a row is written -/
theorem Ar.putPart {w : World} {b o n p m : Nat} {f g G : Nat → Nat} (h : Ar w b o n f) (hp : p + m ≤ n) (h1 : ∀ i, i < m → G (p + i) = g i) (h2 : ∀ i, i < n → i < p ∨ p + m ≤ i → G i = f i) : Ar (w.setCells b (o + p) (us m g)) b o n G := by
  refine ⟨fun i hi => ?_, fun i hi => ?_, ?_⟩
  · by_cases e : p ≤ i ∧ i < p + m
    · have hh := World.cell?_setCells_in b (us m g) (o + p) w (fun j hj => by rw [us_length] at hj; rw [Nat.add_assoc, h.c (p + j) (by omega)]; rfl) (i - p) (by rw [us_length]; omega)
      rw [show o + p + (i - p) = o + i by omega] at hh
      rw [hh]
      have := h1 (i - p) (by omega)
      rw [show p + (i - p) = i by omega] at this
      simp [us_def, this]
    · rw [World.cell?_setCells_out b (us m g) (o + p) w _ (fun _ _ => by rw [us_length]; simp; omega), h2 i hi (by omega)]
      exact h.c i hi
  · rw [World.frozen?_setCells]; exact h.fz i hi
  · rw [size_setCells]; exact h.lt
theorem us_one (n : Nat) (f : Nat → Nat) : (us n f).toArray.all (·.oneCell') = true := all_oneCell_toArray fun v hv => by
  simp only [us_def, List.mem_map] at hv
  obtain ⟨i, _, rfl⟩ := hv
  rfl
theorem us_size (n : Nat) (f : Nat → Nat) : (us n f).toArray.size = n := by simp [us_def]
/-- a function ends, its one result an array in a cell of its own -/
theorem ret_arr {P : Program} {fn : Func} {R : Ending → World → Prop} {a : Act} {w : World} (s rb n : Nat) (t : TypeId) (d : TypeDesc) (f : Nat → Nat) (hres : fn.results = #[.cell s t]) (ha : a.tmps.getD s undef = .pointer (some ⟨rb, 0, none⟩)) (hd : a.defers = [])
    (h : Ar w rb 0 n f) (hu : P.underlying t = some d) (hrow : d.isRow = true) (hi : (P.info? t).map (·.size) = some n) (hR : R (.returned (.agg (us n f).toArray)) w) : bodyPost P fn R .ret a w := by
  refine bodyPost_ret (v := .agg (us n f).toArray) ?_ hd hR
  have hl := run_loadVar_mid (P := P) w rb 0 t (us n f) d h.range hu hrow (by rw [us_length]; exact hi)
  have e : (⟨rb, 0, none⟩ : Addr) = ⟨rb, 0, none⟩ := rfl
  unfold results
  rw [hres]
  simp only [Sem.run_bind, Array.mapM_eq_mapM_toList, List.mapM_cons, List.mapM_nil, ha]
  simp [asAddr, hl]
theorem Ar.loads {P : Program} {w : World} {b o n : Nat} {f : Nat → Nat} (h : Ar w b o n f) (t : TypeId) (d : TypeDesc) (hu : P.underlying t = some d) (hrow : d.isRow = true) (hi : (P.info? t).map (·.size) = some n) :
    (Instr.loadAt t (.pointer (some ⟨b, o, none⟩))).run P w = .ok (.agg (us n f).toArray) w :=
  run_loadAt_mid (P := P) w b o t (us n f) d h.range hu hrow (by rw [us_length]; exact hi)
theorem Ar.stores {P : Program} {w : World} {b o n : Nat} {g : Nat → Nat} (h : Ar w b o n g) (f : Nat → Nat) (t : TypeId) (hi : (P.info? t).map (·.size) = some n) :
    (Instr.storeAt t (.pointer (some ⟨b, o, none⟩)) (.agg (us n f).toArray)).run P w = .ok () (w.setCells b o (us n f)) := by
  have := run_storeAt_mid (P := P) w b o t (us n f).toArray (by rw [us_size]; exact h.there) (by rw [us_size]; exact hi) (us_one n f)
  simpa using this
theorem made_us (n : Nat) : madeCells #[.int .u8 0] n = (us n fun _ => 0).toArray := by
  apply Array.toList_inj.1
  rw [toList_madeCells_one]
  exact (List.eq_replicate_iff.2 ⟨by simp [us_def], fun b hb => by simp [us_def] at hb; exact hb.2.symm⟩).symm
theorem info_u8 : (Tryd.prog.info? 5).map (fun i => (i.zero, i.size, i.bytes)) = some (some (.int .u8 0), 1, 1) := by kernel_rfl
/-- make([]byte, n) -/
theorem mk_bytes (n : Nat) (hn : n ≤ 1048576) (w : World) :
    (Instr.makeSlice 22 (.int .i64 n) (.int .i64 n)).run Tryd.prog w = .ok (.slice (some ⟨w.heap.size, 0, none⟩) n n) (w.alloc (.cells (us n fun _ => 0).toArray 5)) := by
  obtain ⟨i0, hi, hz0, hz1, hz2⟩ := info_parts info_u8
  have := run_make (P := Tryd.prog) w 22 5 i0 _ Tryd.underlying22 hi hz0 .i64 .i64 n n (by omega) (by omega) (by rw [hz2]; omega) (by omega)
  rw [hz1] at this
  simpa [Value.cells, made_us] using this
theorem us_set {n k x : Nat} {f g : Nat → Nat} (hk : k < n) (h1 : g k = x) (h2 : ∀ i, i < n → i ≠ k → g i = f i) : (us n f).set k (.int .u8 (x : Int)) = us n g := by
  apply List.ext_getElem
  · simp [us_def]
  · intro i h3 h4
    have hi : i < n := by simpa [us_def] using h4
    by_cases e : i = k
    · subst e
      simp [us_def, h1]
    · rw [List.getElem_set_ne (Ne.symm e)]
      simp [us_def, h2 i hi e]
theorem Ar.cellsPut {P : Program} {w : World} {b o n : Nat} {g : Nat → Nat} (h : Ar w b o n g) (f : Nat → Nat) : (storeCells ⟨b, o, none⟩ (us n f)).run P w = .ok () (w.setCells b o (us n f)) := by
  have := run_storeCells_cells (P := P) b o (us n f) 0 w (fun j hj => by rw [us_length] at hj; rw [Nat.add_zero, h.c j hj]; rfl) (fun j hj => by rw [us_length] at hj; rw [Nat.add_zero]; exact h.fz j hj)
    (fun v hv => by simp only [us_def, List.mem_map] at hv; obtain ⟨i, _, rfl⟩ := hv; rfl)
  simpa using this
theorem Ar.part {w : World} {b o n : Nat} {f : Nat → Nat} (h : Ar w b o n f) (p m : Nat) (hp : p + m ≤ n) : Ar w b (o + p) m (fun i => f (p + i)) :=
  ⟨fun i hi => by rw [Nat.add_assoc]; exact h.c (p + i) (by omega), fun i hi => by rw [Nat.add_assoc]; exact h.fz (p + i) (by omega), h.lt⟩
theorem us_oneL (n : Nat) (f : Nat → Nat) : ∀ v ∈ us n f, v.oneCell' = true := fun v hv => by
  simp only [us_def, List.mem_map] at hv
  obtain ⟨i, _, rfl⟩ := hv
  rfl
theorem us_succ (n : Nat) (f : Nat → Nat) : us (n + 1) f = us n f ++ [.int .u8 (f n : Nat)] := by simp [us_def, List.range_succ]
/-- a part put into a greater value -/
theorem fold_us (N o : Nat) (f g : Nat → Nat) : ∀ m, o + m ≤ N → List.foldl (fun cs (x : Value × Nat) => Array.setIfInBounds cs (o + x.2) x.1) (us N g).toArray (us m f).zipIdx = (us N (fun i => if o ≤ i ∧ i < o + m then f (i - o) else g i)).toArray
  | 0, _ => by
    have e : us 0 f = [] := by rw [us_def]; rfl
    rw [e]
    show (us N g).toArray = _
    rw [us_congr (f := g)]
    intro i _
    rw [if_neg (by omega)]
  | m + 1, h => by
    rw [us_succ, List.zipIdx_append, List.foldl_append, fold_us N o f g m (by omega), us_length]
    simp only [List.zipIdx_cons, List.zipIdx_nil, List.foldl_cons, List.foldl_nil, Nat.zero_add, List.setIfInBounds_toArray]
    rw [us_set (k := o + m) (by omega) (g := fun i => if o ≤ i ∧ i < o + (m + 1) then f (i - o) else g i)]
    · show (if o ≤ o + m ∧ o + m < o + (m + 1) then f (o + m - o) else g (o + m)) = f m
      rw [if_pos (by omega), Nat.add_sub_cancel_left]
    · intro i _ hne
      show (if o ≤ i ∧ i < o + (m + 1) then f (i - o) else g i) = if o ≤ i ∧ i < o + m then f (i - o) else g i
      by_cases e : o ≤ i ∧ i < o + m
      · rw [if_pos e, if_pos (by omega)]
      · rw [if_neg e, if_neg (by omega)]
end Go.Proofs.YtgieglpjkjncfabDoor.Dr
