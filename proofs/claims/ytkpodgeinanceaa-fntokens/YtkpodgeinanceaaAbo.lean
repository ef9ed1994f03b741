/-
  Contracts: blockOf.
-/
import Derived.Test.YtkpodgeinanceaaArr
import Derived.Test.YtkpodgeinanceaaArs
import Derived.Deep.Cut
import Derived.Lib.LazyBuf
namespace Go.Proofs.Ytkpodgeinanceaa
open Go.ChangeShapes Go.WideShapes Go.ChangeAt Go.RowKit
set_option linter.unusedVariables false
set_option maxRecDepth 100000

theorem info_bl : (Try.prog.info? 84).map (·.size) = some 16 := by kernel_rfl
theorem z16_new (w : World) (t : TypeId) : Ar (w.alloc (.cells #[.int .u8 0, .int .u8 0, .int .u8 0, .int .u8 0, .int .u8 0, .int .u8 0, .int .u8 0, .int .u8 0, .int .u8 0, .int .u8 0, .int .u8 0, .int .u8 0, .int .u8 0, .int .u8 0, .int .u8 0, .int .u8 0] t)) w.heap.size 0 16 (fun _ => 0) := by
  have h := Ar.new w 16 (fun _ => 0) t
  rw [us_def] at h
  exact h
theorem us_at8 (s : ByteArray) : (s.data.toList.map fun x => Value.int .u8 (x.toNat : Int)) = us s.size (at8 s) := by
  apply List.ext_getElem
  · simp [us_def]
  · intro i h1 h2
    have h3 : i < s.size := by simpa [us_def] using h2
    simp [us_def, at8_in s i h3]
    rfl
theorem size_u8 (w : World) : (Go.sizeOf 5).run Try.prog w = .ok 1 w := by
  obtain ⟨i0, hi, hz0, hz1, hz2⟩ := info_parts info_u8
  simp [sizeOf, typeInfo, hi, hz1]
/-- a function ends with an array in a cell of its own, and another result -/
theorem ret_arr2 {P : Program} {fn : Func} {R : Ending → World → Prop} {a : Act} {w : World} (s rb n u : Nat) (t : TypeId) (d : TypeDesc) (f : Nat → Nat) (v : Value) (hres : fn.results = #[.cell s t, .tmp u]) (ha : a.tmps.getD s undef = .pointer (some ⟨rb, 0, none⟩)) (hu2 : a.tmps.getD u undef = v) (hd : a.defers = [])
    (h : Ar w rb 0 n f) (hu : P.underlying t = some d) (hrow : d.isRow = true) (hi : (P.info? t).map (·.size) = some n) (hR : R (.returned (.tuple #[.agg (us n f).toArray, v])) w) : bodyPost P fn R .ret a w := by
  refine bodyPost_ret (v := .tuple #[.agg (us n f).toArray, v]) ?_ hd hR
  have hl := run_loadVar_mid (P := P) w rb 0 t (us n f) d h.range hu hrow (by rw [us_length]; exact hi)
  unfold results
  rw [hres]
  simp only [Sem.run_bind, Array.mapM_eq_mapM_toList, List.mapM_cons, List.mapM_nil, ha, hu2]
  simp [asAddr, hl]

/-- an array that was loaded, indexed -/
theorem idx_us (n : Nat) (t : TypeId) (f : Nat → Nat) (k : Nat) (hk : k < n) (hu : Try.prog.underlying t = some (.array n 5)) (w : World) :
    (Instr.index t (.agg (us n f).toArray) (.int .i64 k)).run Try.prog w = .ok (.int .u8 (f k : Nat)) w := by
  have h0 : (0 : Int) ≤ (k : Int) ∧ (k : Int) < (n : Int) := by omega
  have hs := size_u8 w
  have hus : (us n f)[k]? = some (.int .u8 (f k : Nat)) := by simp [us_def, hk]
  simp [Instr.index, run_underlying hu, asIntOf, h0, hs, part, isAgg, run_underlying Try.underlying5, hus, go_sem]
  intro h9
  omega

set_option maxHeartbeats 1000000 in
theorem blockOf_ok (s : ByteArray) (hs : s.size = 16) (w : World) :
    Calls Try.prog 85 #[.string s] w fun e w' => e = .returned (.tuple #[.agg (us 16 (at8 s)).toArray, .bool true]) ∧ Below w.heap.size w w' := by
  go_enter Try.func85, Try.ntmps85
  go_wp2_with fail
  have hA := (z16_new w 84).alloc (.cells #[.int .u8 0, .int .u8 0, .int .u8 0, .int .u8 0, .int .u8 0, .int .u8 0, .int .u8 0, .int .u8 0, .int .u8 0, .int .u8 0, .int .u8 0, .int .u8 0, .int .u8 0, .int .u8 0, .int .u8 0, .int .u8 0] 84)
  have hB := z16_new (w.alloc (.cells #[.int .u8 0, .int .u8 0, .int .u8 0, .int .u8 0, .int .u8 0, .int .u8 0, .int .u8 0, .int .u8 0, .int .u8 0, .int .u8 0, .int .u8 0, .int .u8 0, .int .u8 0, .int .u8 0, .int .u8 0, .int .u8 0] 84)) 84
  rw [World.size_alloc] at hB
  have hC := ((Below.refl w.heap.size w).alloc (Nat.le_refl _) (.cells #[.int .u8 0, .int .u8 0, .int .u8 0, .int .u8 0, .int .u8 0, .int .u8 0, .int .u8 0, .int .u8 0, .int .u8 0, .int .u8 0, .int .u8 0, .int .u8 0, .int .u8 0, .int .u8 0, .int .u8 0, .int .u8 0] 84)).alloc (by simp) (.cells #[.int .u8 0, .int .u8 0, .int .u8 0, .int .u8 0, .int .u8 0, .int .u8 0, .int .u8 0, .int .u8 0, .int .u8 0, .int .u8 0, .int .u8 0, .int .u8 0, .int .u8 0, .int .u8 0, .int .u8 0, .int .u8 0] 84)
  generalize ((w.alloc (.cells #[.int .u8 0, .int .u8 0, .int .u8 0, .int .u8 0, .int .u8 0, .int .u8 0, .int .u8 0, .int .u8 0, .int .u8 0, .int .u8 0, .int .u8 0, .int .u8 0, .int .u8 0, .int .u8 0, .int .u8 0, .int .u8 0] 84)).alloc (.cells #[.int .u8 0, .int .u8 0, .int .u8 0, .int .u8 0, .int .u8 0, .int .u8 0, .int .u8 0, .int .u8 0, .int .u8 0, .int .u8 0, .int .u8 0, .int .u8 0, .int .u8 0, .int .u8 0, .int .u8 0, .int .u8 0] 84)) = W at hA hB hC ⊢
  rw [Go.run_copy_string W 32 9 3 5 (w.heap.size + 1) 0 16 16 s Try.underlying32 size_u8 (by omega) (fun j hj => by rw [hB.c j (by omega)]; rfl) (fun j hj => hB.fz j (by omega)), us_at8, hs]
  have h1 := hB.puts (g := at8 s)
  have h2 := hA.others (b' := w.heap.size + 1) (o' := 0) (vs := us 16 (at8 s)) (Or.inl (by omega))
  have h3 := Go.Proofs.Ytkpodgeinanceaa.below_setCells (b := w.heap.size + 1) (by omega) (us 16 (at8 s)) 0 _ hC
  generalize W.setCells (w.heap.size + 1) 0 (us 16 (at8 s)) = W2 at h1 h2 h3 ⊢
  clear hA hB hC
  go_upto_region 5 with fail
  refine wp_region_list ?_
  refine wpList_load_mid rfl 84 (.tmp 4) rfl (w.heap.size + 1) 0 rfl (us 16 (at8 s)) _ h1.range Try.underlying84 rfl (by rw [us_length]; exact info_bl) ?_
  refine wpList_store_mid rfl 84 (.tmp 2) (.tmp 12) rfl w.heap.size 0 (us 16 (at8 s)).toArray rfl rfl (by rw [us_size]; exact h2.there) (by rw [us_size]; exact info_bl) (us_one _ _) ?_
  have HH := hide (h2.puts (g := at8 s))
  have HB := hide h3
  clear h1 h2 h3
  go_wp2
  refine ret_arr2 2 w.heap.size 16 3 84 _ (at8 s) (.bool true) ?r1 ?r2 ?r4 ?r3 (unhide HH) Try.underlying84 rfl info_bl ?_
  case r1 => rfl
  case r2 => rfl
  case r3 => rfl
  case r4 => rfl
  exact ⟨rfl, Go.Proofs.Ytkpodgeinanceaa.below_setCells (Nat.le_refl _) _ _ _ (unhide HB)⟩
set_option maxHeartbeats 1000000 in
theorem blockOf_no (s : ByteArray) (hs : ¬ s.size = 16) (hl : s.size ≤ 1048576) (w : World) :
    Calls Try.prog 85 #[.string s] w fun e w' => e = .returned (.tuple #[.agg (us 16 (fun _ => 0)).toArray, .bool false]) ∧ Below w.heap.size w w' := by
  have h1 : ((s.size : Int) != 16) = true := by simp; omega
  go_enter Try.func85, Try.ntmps85
  go_wp2
  refine ret_arr2 2 w.heap.size 16 3 84 _ (fun _ => 0) (.bool false) ?r1 ?r2 ?r4 ?r3 ?r5 Try.underlying84 rfl info_bl ?_
  case r1 => rfl
  case r2 => rfl
  case r3 => rfl
  case r4 => rfl
  case r5 => exact (z16_new w 84).alloc _
  exact ⟨rfl, ((Below.refl w.heap.size w).alloc (Nat.le_refl _) _).alloc (by simp) _⟩
end Go.Proofs.Ytkpodgeinanceaa
