/-
  Contracts: blockOf.
-/
import Derived.Test.YtooojkedphlknaaArr
import Derived.Test.YtooojkedphlknaaArs
import Derived.Deep.Cut
import Derived.Lib.LazyBuf
namespace Go.Proofs.Ytooojkedphlknaa
open Go.ChangeShapes Go.WideShapes Go.ChangeAt Go.RowKit
set_option linter.unusedVariables false
set_option maxRecDepth 100000

theorem info_bl : (Try.prog.info? 39).map (·.size) = some 16 := by kernel_rfl
theorem z16_new (w : World) (t : TypeId) : Ar (w.alloc (.cells #[.int .u8 0, .int .u8 0, .int .u8 0, .int .u8 0, .int .u8 0, .int .u8 0, .int .u8 0, .int .u8 0, .int .u8 0, .int .u8 0, .int .u8 0, .int .u8 0, .int .u8 0, .int .u8 0, .int .u8 0, .int .u8 0] t)) w.heap.size 0 16 (fun _ => 0) := by
  have h := Ar.new w 16 (fun _ => 0) t
  rw [us_def] at h
  exact h
theorem us_at8 (s : ByteArray) : (s.data.toList.map fun x => Value.int .u8 (x.toNat : Int)) = us s.size (at8 s) := by
  apply List.ext_getElem
  · simp [us_def]
  · intro i h1 h2
    have h3 : i < s.size := by simpa [us_def] using h2
    simp [us_def, at8_in s i h3]
    rfl
theorem size_u8 (w : World) : (Go.sizeOf 5).run Try.prog w = .ok 1 w := by
  obtain ⟨i0, hi, hz0, hz1, hz2⟩ := info_parts info_u8
  simp [sizeOf, typeInfo, hi, hz1]
/-- a function ends with an array in a cell of its own, and another result -/
theorem ret_arr2 {P : Program} {fn : Func} {R : Ending → World → Prop} {a : Act} {w : World} (s rb n u : Nat) (t : TypeId) (d : TypeDesc) (f : Nat → Nat) (v : Value) (hres : fn.results = #[.cell s t, .tmp u]) (ha : a.tmps.getD s undef = .pointer (some ⟨rb, 0, none⟩)) (hu2 : a.tmps.getD u undef = v) (hd : a.defers = [])
    (h : Ar w rb 0 n f) (hu : P.underlying t = some d) (hrow : d.isRow = true) (hi : (P.info? t).map (·.size) = some n) (hR : R (.returned (.tuple #[.agg (us n f).toArray, v])) w) : bodyPost P fn R .ret a w := by
  refine bodyPost_ret (v := .tuple #[.agg (us n f).toArray, v]) ?_ hd hR
  have hl := run_loadVar_mid (P := P) w rb 0 t (us n f) d h.range hu hrow (by rw [us_length]; exact hi)
  unfold results
  rw [hres]
  simp only [Sem.run_bind, Array.mapM_eq_mapM_toList, List.mapM_cons, List.mapM_nil, ha, hu2]
  simp [asAddr, hl]

/-- an array that was loaded, indexed -/
theorem idx_us (n : Nat) (t : TypeId) (f : Nat → Nat) (k : Nat) (hk : k < n) (hu : Try.prog.underlying t = some (.array n 5)) (w : World) :
    (Instr.index t (.agg (us n f).toArray) (.int .i64 k)).run Try.prog w = .ok (.int .u8 (f k : Nat)) w := by
  have h0 : (0 : Int) ≤ (k : Int) ∧ (k : Int) < (n : Int) := by omega
  have hs := size_u8 w
  have hus : (us n f)[k]? = some (.int .u8 (f k : Nat)) := by simp [us_def, hk]
  simp [Instr.index, run_underlying hu, asIntOf, h0, hs, part, isAgg, run_underlying Try.underlying5, hus, go_sem]
  intro h9
  omega

end Go.Proofs.Ytooojkedphlknaa
