/-
  Rows of texts: one more is put behind, and sixty empty ones.
-/
import Derived.Test.YtgieglpjkjncfabDoorRcText
import Derived.Lib.AppendZerosOnto
namespace Go.Proofs.YtgieglpjkjncfabDoor.Rc
open Go.ChangeShapes Go.WideShapes Go.ChangeAt Go.RowKit Go.Deep
set_option linter.unusedVariables false
set_option maxRecDepth 100000

/-- one more is put behind -/
theorem pushText (w : World) (base : Nat) (v : Value) (L : List TextD) (D : TextD) (hown : Ro textK 9 base w v L) (hb : L.length ≤ 1048576) (hbase : base ≤ w.heap.size) :
    ∃ v' w', (Builtin.append_ #[33, 33] 33 #[v, .slice (some ⟨w.heap.size, 0, none⟩) 1 1]).run Tryd.prog (w.alloc (.cells #[.string D] 9)) = .ok v' w' ∧ Ro textK 9 base w' v' (L ++ [D]) ∧ Below base w w' := by
  obtain ⟨i0, hi, hz0, hz1, hz2⟩ := info_parts Tryd.infoText
  have hA := (Below.refl w.heap.size w).alloc (Nat.le_refl _) (.cells #[.string D] 9)
  obtain ⟨v', w', h1, h2, h3, _, h5⟩ := app textK (w.alloc (.cells #[.string D] 9)) 33 33 9 base i0 _ 16 Tryd.underlying33 hi hz0 hz1 hz2 rfl (by decide) v L (hown.below hA) (some ⟨w.heap.size, 0, none⟩) 1 [D] (Or.inr ⟨_, rfl, fun j u hu => by
    have e : ([D] : List TextD).flatMap textK.f = [.string D] := by simp [textK]
    rw [e] at hu
    rw [add_none, Nat.zero_add]
    have := (Bx.new w [.string D] 9).cv j
    exact this.trans hu⟩) (by simp; omega) (by simp; omega)
  exact ⟨v', w', h1, h2, (hA.mono hbase).trans h3⟩

theorem flat_rep : ∀ n : Nat, (List.replicate n (⟨#[]⟩ : TextD)).flatMap textK.f = List.replicate n (Value.string ⟨#[]⟩)
  | 0 => rfl
  | n + 1 => by rw [List.replicate_succ, List.replicate_succ, List.flatMap_cons, flat_rep n]; rfl
theorem zero_cells (n : Nat) : (Builtin.zeroCells (Value.string ⟨#[]⟩).cells n).toList = List.replicate n (Value.string ⟨#[]⟩) := by
  have h1 : (Value.string ⟨#[]⟩).cells = #[Value.string ⟨#[]⟩] := rfl
  rw [h1]
  apply List.ext_getElem
  · simp [Builtin.zeroCells]
  · intro i h1 h2
    simp [Builtin.zeroCells, Nat.mod_one]
/-- sixty empty ones are put behind -/
theorem zeros60 (w : World) (base : Nat) (v : Value) (L : List TextD) (hown : Ro textK 9 base w v L) (hb : L.length ≤ 1000) (hbase : base ≤ w.heap.size) :
    ∃ v' w', (Builtin.append_ #[33, 3] 33 #[v, .int .i64 60]).run Tryd.prog w = .ok v' w' ∧ Ro textK 9 base w' v' (L ++ List.replicate 60 ⟨#[]⟩) ∧ Below base w w' := by
  obtain ⟨i0, hi, hz0, hz1, hz2⟩ := info_parts Tryd.infoText
  have hz1' : i0.size = 1 := hz1
  have hz2' : i0.bytes = 16 := hz2
  have hf : (L ++ List.replicate 60 (⟨#[]⟩ : TextD)).flatMap textK.f = L.flatMap textK.f ++ List.replicate 60 (Value.string ⟨#[]⟩) := by rw [List.flatMap_append, flat_rep]
  have hl1 : (L ++ List.replicate 60 (⟨#[]⟩ : TextD)).length = L.length + 60 := by simp
  have hxl : (L.flatMap textK.f).length = L.length := by rw [fl_len]; exact Nat.mul_one _
  have grown : ∀ old : Nat, old < L.length + 60 →
      (w.drew.alloc (.cells ((L.flatMap textK.f).toArray ++ Builtin.zeroCells (Value.string ⟨#[]⟩).cells 60 ++ Builtin.zeroCells (Value.string ⟨#[]⟩).cells (grownCap w (L.length + 60) old 9 - (L.length + 60))) 9)).ownsRow base 9 1 (.slice (some ⟨w.heap.size, 0, none⟩) (L.length + 60) (grownCap w (L.length + 60) old 9)) (L.length + 60) (L.flatMap textK.f ++ List.replicate 60 (Value.string ⟨#[]⟩)) := by
    intro old ho
    have hge := grownCap_ge w (L.length + 60) old 9
    have hcm : grownCap w (L.length + 60) old 9 ≤ maxLen := grownCap_le_maxLen w (L.length + 60) old 9 (by unfold maxLen; omega)
    refine ⟨by simp [hxl], .inr ⟨w.heap.size, _, _, rfl, hbase, heap_alloc_new w.drew _, hge, hcm, ?_, ?_⟩⟩
    · have hc1 : (Value.string ⟨#[]⟩).cells.size = 1 := rfl
      simp only [Array.size_append, List.size_toArray, size_zeroCells, hxl, hc1]
      omega
    · simp only [Array.toList_append, zero_cells, List.append_assoc]
      rw [← List.append_assoc]
      exact List.take_left' (by simp [hxl])
  have hown' := hown
  unfold Ro at hown ⊢
  rw [hl1, hf]
  rcases hown.2 with ⟨rfl, hn0⟩ | ⟨g, cap, cur, rfl, hbg, hg, hnc, hcm, hcs, htake⟩
  · obtain rfl : L = [] := List.length_eq_zero_iff.1 hn0
    have hr := Lib.run_append_nil_zeros (P := Tryd.prog) w 33 3 33 9 i0 _ .i64 .i64 Tryd.underlying33 Tryd.underlying3 hi hz0 60 (by decide) (by omega) (by decide) (by omega)
    have hgr := grown 0 (by simp)
    simp only [List.flatMap_nil, List.length_nil, Nat.zero_add, List.nil_append, Array.empty_append] at hgr ⊢
    exact ⟨_, _, hr, hgr, ⟨rfl, rfl, rfl, by simp, fun k hk => heap_alloc_old w.drew _ (by have : w.drew.heap.size = w.heap.size := rfl; omega)⟩⟩
  · have hcm' : cap ≤ maxLen := hcm
    by_cases hroom : L.length + 60 ≤ cap
    · have hcs' : cur.size = cap := by rw [hcs]; exact Nat.mul_one _
      have htk : cur.toList.take L.length = L.flatMap textK.f := by
        have h := htake
        rw [show L.length * textK.m = L.length from Nat.mul_one _] at h
        exact h
      obtain ⟨Z, hZ⟩ : ∃ Z, Z = List.replicate 60 (Value.string ⟨#[]⟩) := ⟨_, rfl⟩
      have hZl : Z.length = 60 := by rw [hZ, List.length_replicate]
      have hZm : ∀ u ∈ Z, u.oneCell' = true := fun u hu => by rw [hZ] at hu; rw [List.eq_of_mem_replicate hu]; rfl
      have hzc : (Builtin.zeroCells (Value.string ⟨#[]⟩).cells 60).toList = Z := by rw [hZ]; exact zero_cells 60
      rw [← hZ]
      clear hZ
      have hst := run_storeCells_at Tryd.prog g L.length 9 Z 0 cur w hg (by omega) hZm
      simp only [Nat.add_zero, hZl] at hst
      have hw60 : IntKind.i64.wrap 60 = 60 := by decide
      have hr : (Builtin.append_ #[33, 3] 33 #[.slice (some ⟨g, 0, none⟩) L.length cap, .int .i64 60]).run Tryd.prog w = .ok (.slice (some ⟨g, 0, none⟩) (L.length + 60) cap) (w.setRow g (cur.toList.take L.length ++ Z ++ cur.toList.drop (L.length + 60)).toArray) := by
        simp [Builtin.append_, run_underlying Tryd.underlying33, run_underlying Tryd.underlying3, sizeOf, typeInfo, zeroValue, hi, hz0, asInt, asIntOf, hw60, hz1', hz2', hroom, hzc, Addr.add_lit, hst]
      have hll : (L.flatMap textK.f ++ Z).length = (L.length + 60) * textK.m := by rw [List.length_append, hxl, hZl]; exact (Nat.mul_one _).symm
      refine ⟨_, _, hr, ⟨hll, .inr ⟨g, cap, _, rfl, hbg, setRow_heap w g cur _ 9 _ hg, hroom, hcm, ?_, ?_⟩⟩, ⟨rfl, rfl, rfl, by simp, fun k hk => setRow_other w g k _ (by omega)⟩⟩
      · simp only [List.size_toArray, List.length_append, List.length_take, List.length_drop, Array.length_toList, hZl, hcs']
        show _ = cap * 1
        omega
      · rw [htk]
        exact List.take_left' hll
    · have hold : (Builtin.firstCells i0.size L.length (.slice (some ⟨g, 0, none⟩) L.length cap)).run Tryd.prog w.drew = .ok (L.flatMap textK.f).toArray w.drew := by
        rw [hz1']
        exact run_firstCells_some w.drew 1 L.length ⟨g, 0, none⟩ L.length cap (L.flatMap textK.f) (by rw [hxl]; omega) (fun j u hu => by
          have := World.ownsRow.cells (w := w) hown (g := g) rfl j u hu
          exact this)
      have hfit : Builtin.nextslicecap (L.length + 60) cap * i0.bytes ≤ 281474976710656 := by
        rw [hz2']
        exact growslice_fits (bytes := 16) (by omega) (by omega)
      have hr := Lib.run_append_grow_zeros (P := Tryd.prog) w 33 3 33 9 i0 _ .i64 .i64 Tryd.underlying33 Tryd.underlying3 hi hz0 (some ⟨g, 0, none⟩) L.length cap (L.flatMap textK.f) hold 60 (by decide) (by omega) (by omega) (by omega) (by omega) hfit
      exact ⟨_, _, hr, grown cap (by omega), ⟨rfl, rfl, rfl, by simp, fun k hk => heap_alloc_old w.drew _ (by have : w.drew.heap.size = w.heap.size := rfl; omega)⟩⟩
end Go.Proofs.YtgieglpjkjncfabDoor.Rc
