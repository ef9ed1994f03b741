/-
  append(x, make([]byte, n)...): noughts put behind bytes.
-/
import Derived.Test.YtpjmnnaiegdjmaaDoorSfl
import Derived.Lib.AppendZeros
namespace Go.Proofs.YtpjmnnaiegdjmaaDoor
open Go.ChangeShapes Go.WideShapes Go.ChangeAt Go.RowKit
set_option linter.unusedVariables false

theorem zeros_us (m : Nat) : (Builtin.zeroCells (Value.int .u8 0).cells m).toList = us m (fun _ => 0) := by
  have e : (Value.int .u8 0).cells = #[Value.int .u8 0] := rfl
  rw [us_def, e]
  simp [Builtin.zeroCells, Nat.mod_one]
theorem run_zeros_room (w : World) (g o n cap m : Nat) (ty : TypeId) (hm : m ≤ 1048576) (hr : n + m ≤ cap) (hc : ∀ j, j < m → (w.cell? ⟨g, o + n + j, none⟩).isSome = true) (hf : ∀ j, j < m → w.frozen? ⟨g, o + n + j, none⟩ = false) :
    (Builtin.append_ #[36, 3] ty #[.slice (some ⟨g, o, none⟩) n cap, .int .i64 m]).run Tryd.prog w = .ok (.slice (some ⟨g, o, none⟩) (n + m) cap) (w.setCells g (o + n) (us m (fun _ => 0))) := by
  obtain ⟨i0, hi, hz0, hz1, hz2⟩ := info_u8j
  have hw : IntKind.i64.wrap (m : Int) = m := by rw [IntKind.wrap_i64]; omega
  have hneg : ¬ ((m : Int) < 0) := by omega
  have h48i : ¬ (281474976710656 < (m : Int)) := by omega
  have hst := run_storeCells_cells (P := Tryd.prog) g (o + n) (us m (fun _ => 0)) 0 w (fun j hj => by rw [us_length] at hj; rw [Nat.add_zero]; exact hc j hj) (fun j hj => by rw [us_length] at hj; rw [Nat.add_zero]; exact hf j hj) (us_oneL _ _)
  simp only [Nat.add_zero] at hst
  by_cases h0 : m = 0
  · subst h0
    have e0 : us 0 (fun _ => 0) = [] := by rw [us_def]; rfl
    have hr0 : n ≤ cap := by omega
    have hw0 : IntKind.i64.wrap 0 = 0 := by rw [IntKind.wrap_i64]; omega
    rw [e0]
    simp [Builtin.append_, run_underlying Tryd.underlying36, run_underlying Tryd.underlying3, sizeOf, typeInfo, hi, hz2, asInt, asIntOf, hr0, hw0, storeCells, World.setCells]
  · simp [Builtin.append_, run_underlying Tryd.underlying36, run_underlying Tryd.underlying3, sizeOf, typeInfo, zeroValue, hi, hz0, hz1, hz2, asInt, asIntOf, hw, h0, hneg, h48i, hr, Addr.add_lit, zeros_us, hst]
theorem run_zeros_grow (w : World) (g o n cap m : Nat) (f : Nat → Nat) (ty : TypeId) (hm : m ≤ 1048576) (hn : n ≤ 1048576) (hr : cap < n + m) (hle : n ≤ cap) (h : Ar w g o n f) :
    (Builtin.append_ #[36, 3] ty #[.slice (some ⟨g, o, none⟩) n cap, .int .i64 m]).run Tryd.prog w =
      .ok (.slice (some ⟨w.heap.size, 0, none⟩) (n + m) (grownCap w (n + m) cap 5)) (w.drew.alloc (.cells ((us n f).toArray ++ Builtin.zeroCells (Value.int .u8 0).cells m ++ Builtin.zeroCells (Value.int .u8 0).cells (grownCap w (n + m) cap 5 - (n + m))) 5)) := by
  obtain ⟨i0, hi, hz0, hz1, hz2⟩ := info_u8j
  have hw : IntKind.i64.wrap (m : Int) = m := by rw [IntKind.wrap_i64]; omega
  have hneg : ¬ ((m : Int) < 0) := by omega
  have h48i : ¬ (281474976710656 < (m : Int)) := by omega
  have h0 : ¬ (m = 0) := by omega
  have hnr : ¬ (n + m ≤ cap) := by omega
  have h63' : ¬ (9223372036854775807 < ((n : Int) + (m : Int))) := by omega
  have hfit := growslice_fits (bytes := 1) hr (show (n + m) * 1 ≤ 140737488355328 by omega)
  have h48' : ¬ (281474976710656 < Builtin.nextslicecap (n + m) cap) := by omega
  have hfo := run_firstCells_some (P := Tryd.prog) w.drew i0.size n ⟨g, o, none⟩ n cap (us n f) (by rw [us_length, hz1, Nat.mul_one]) (fun j u hu => by rw [Addr.add_mid]; exact h.drew.range j u hu)
  rw [hz1] at hfo
  simp [Builtin.append_, run_underlying Tryd.underlying36, run_underlying Tryd.underlying3, sizeOf, typeInfo, zeroValue, hi, hz0, hz1, hz2, asInt, asIntOf, hw, h0, hneg, h48i, hnr, h63', h48', Question.forced, hfo, newRow, grownCap]
theorem zeros_arr (m : Nat) : Builtin.zeroCells (Value.int .u8 0).cells m = (us m (fun _ => 0)).toArray := by
  apply Array.toList_inj.1
  rw [zeros_us]
theorem Sg.zeros {base : Nat} {w : World} {g o n cap : Nat} {f : Nat → Nat} (h : Sg w g o n cap f) (hg : base ≤ g) (hbase : base ≤ w.heap.size) (m : Nat) (hf0 : ∀ i, i < m → f (n + i) = 0) (hn : n + m ≤ 1048576) (ty : TypeId) :
    ∃ g' o' cap' w', (Builtin.append_ #[36, 3] ty #[.slice (some ⟨g, o, none⟩) n cap, .int .i64 m]).run Tryd.prog w = .ok (.slice (some ⟨g', o', none⟩) (n + m) cap') w' ∧ (g' = g ∨ w.heap.size ≤ g') ∧ Sg w' g' o' (n + m) cap' f ∧ Below base w w' := by
  have hus : us m (fun _ => 0) = us m (fun i => f (n + i)) := us_congr fun i hi => (hf0 i hi).symm
  have hlen : (us m (fun i => f (n + i))).length = m := us_length _ _
  by_cases hr : n + m ≤ cap
  · have hrun := run_zeros_room w g o n cap m ty (by omega) hr (fun j hj => by rw [Nat.add_assoc]; exact (h.sp (n + j) (by omega) (by omega)).1) (fun j hj => by rw [Nat.add_assoc]; exact (h.sp (n + j) (by omega) (by omega)).2)
    rw [hus] at hrun
    refine ⟨g, o, cap, _, hrun, Or.inl rfl, ⟨⟨fun i hi => ?_, fun i hi => ?_, ?_⟩, hr, fun j h1 h2 => ?_⟩, ?_⟩
    · by_cases e : n ≤ i
      · have hh := World.cell?_setCells_in g (us m (fun i => f (n + i))) (o + n) w (fun j hj => by rw [hlen] at hj; rw [Nat.add_assoc]; exact (h.sp (n + j) (by omega) (by omega)).1) (i - n) (by rw [hlen]; omega)
        rw [show o + n + (i - n) = o + i by omega] at hh
        rw [hh]
        simp only [us_def, List.getElem_map, List.getElem_range]
        rw [show n + (i - n) = i by omega]
      · rw [World.cell?_setCells_out g _ _ w _ (fun _ _ => by rw [hlen]; simp; omega)]
        exact h.ar.c i (by omega)
    · rw [World.frozen?_setCells]
      by_cases e : n ≤ i
      · exact (h.sp i e (by omega)).2
      · exact h.ar.fz i (by omega)
    · rw [size_setCells]; exact h.ar.lt
    · rw [World.cell?_setCells_out g _ _ w _ (fun _ _ => by rw [hlen]; simp; omega), World.frozen?_setCells]
      exact h.sp j (by omega) h2
    · exact Go.Proofs.YtpjmnnaiegdjmaaDoor.below_setCells hg _ _ _ (Below.refl _ _)
  · have hrun := run_zeros_grow w g o n cap m f ty (by omega) (by omega) (by omega) h.le h.ar
    have hge := grownCap_ge w (n + m) cap 5
    rw [zeros_arr, zeros_arr, hus] at hrun
    generalize hG : grownCap w (n + m) cap 5 = G at hrun hge
    have hcat : (us n f).toArray ++ (us m (fun i => f (n + i))).toArray ++ (us (G - (n + m)) (fun _ => 0)).toArray = (us (n + m) f ++ us (G - (n + m)) (fun _ => 0)).toArray := by
      rw [← us_append n m f]
      simp
    rw [hcat] at hrun
    have hsz : (us (n + m) f ++ us (G - (n + m)) (fun _ => 0)).length = G := by rw [List.length_append, us_length, us_length]; omega
    have hcell : ∀ i, (w.drew.alloc (.cells (us (n + m) f ++ us (G - (n + m)) (fun _ => 0)).toArray 5)).cell? ⟨w.heap.size, i, none⟩ = (us (n + m) f ++ us (G - (n + m)) (fun _ => 0))[i]? := fun i => by
      rw [← World.size_drew w]
      generalize w.drew = W
      simp
    have hfrz : ∀ i, (w.drew.alloc (.cells (us (n + m) f ++ us (G - (n + m)) (fun _ => 0)).toArray 5)).frozen? ⟨w.heap.size, i, none⟩ = false := fun i => by
      rw [← World.size_drew w]
      generalize w.drew = W
      simp
    refine ⟨w.heap.size, 0, G, _, hrun, Or.inr (Nat.le_refl _), ⟨⟨fun i hi => ?_, fun i hi => ?_, by simp⟩, hge, fun j h1 h2 => ?_⟩, ((Below.refl base w).drew).alloc hbase _⟩
    · rw [Nat.zero_add, hcell, List.getElem?_append_left (by rw [us_length]; exact hi)]
      simp [us_def, hi]
    · rw [Nat.zero_add]; exact hfrz i
    · rw [Nat.zero_add, hcell]
      exact ⟨by rw [List.getElem?_eq_getElem (by rw [hsz]; exact h2)]; rfl, hfrz j⟩
end Go.Proofs.YtpjmnnaiegdjmaaDoor
