/-
  The program's static table, out of what its text lays.
-/
import Derived.Test.YtidgjjbdabifnabDoorFst
import Derived.Test.YtidgjjbdabifnabDoorOpField
import Derived.OpenShut
import Derived.ChangeArms
import Derived.LaidLaws
namespace Go.Proofs.YtidgjjbdabifnabDoor.Rc
open Go.ChangeShapes Go.WideShapes Go.ChangeAt Go.RowKit Go.Deep
set_option linter.unusedVariables false
set_option maxRecDepth 100000

/-- a field as it reads -/
def rdD {H : Type} (D : FieldD) : DataW H := .agg [.lit (.string D.f0.data.toList), .lit (.string D.f1.data.toList)]
theorem cFieldI : Tryd.prog.cellsOf 33 = 2 := by kernel_rfl
theorem cFieldA : Tryd.prog.cellsOf 46 = 32 := by kernel_rfl
theorem one_field {H : Type} {enc : TypeId × Value → H} {P0 : Nat} {W : World} {spare : Nat → Bool} {held : Bool} {fuel : Nat} {cs : List Value} {x : DataW H × List MemPlace}
    (h : DataW.trod enc Tryd.prog W P0 spare held fuel 33 cs = some x) : ∃ D : FieldD, cs = [.string D.f0, .string D.f1] ∧ x.1 = rdD D := by
  obtain ⟨xs, n, _, e, hl, hlen, hf⟩ := DataW.trod_struct Tryd.underlying33 h
  rw [cFieldI] at hl
  match cs, hl, xs, hlen with
  | [c0, c1], _, [y0, y1], _ =>
    have g0 := hf 0 _ rfl
    have g1 := hf 1 _ rfl
    simp [cStr] at g0 g1
    obtain ⟨d0, e0, f0, _⟩ := DataW.trod_string Tryd.underlying9 g0
    obtain ⟨d1, e1, f1, _⟩ := DataW.trod_string Tryd.underlying9 g1
    simp at e0 e1
    subst e0 e1
    refine ⟨⟨d0, d1⟩, rfl, ?_⟩
    rw [e, f0, f1]
    rfl
theorem rdD_inj {H : Type} {D E : FieldD} (h : (rdD D : DataW H) = rdD E) : D = E := by
  unfold rdD at h
  injection h with h
  injection h with h1 h
  injection h with h2 _
  injection h1 with h1
  injection h2 with h2
  injection h1 with h1
  injection h2 with h2
  obtain ⟨a, b⟩ := D
  obtain ⟨c, d⟩ := E
  have e1 : a = c := ByteArray.ext (Array.toList_inj.1 h1)
  have e2 : b = d := ByteArray.ext (Array.toList_inj.1 h2)
  subst e1
  subst e2
  rfl
/-- what the table reads as tells its cells -/
theorem tab_cells {H : Type} {enc : TypeId × Value → H} {P0 : Nat} {W : World} {spare : Nat → Bool} {held : Bool} {fuel : Nat} {cs : List Value} {p : List MemPlace}
    (h : DataW.trod enc Tryd.prog W P0 spare held fuel 46 cs = some (.agg (sT.map rdD), p)) : ∀ q, q < 32 → cs[q]? = some (cl fieldK sT q) := by
  obtain ⟨xs, m, _, e, hl, hlen, hx⟩ := DataW.trod_array Tryd.underlying46 h
  rw [cFieldI] at hx
  injection e with e _
  injection e with e
  have each : ∀ i, i < 16 → cs[i * 2]? = some (.string (gt fieldK sT i).f0) ∧ cs[i * 2 + 1]? = some (.string (gt fieldK sT i).f1) := by
    intro i hi
    have h1 := hx i hi
    rw [List.getElem?_eq_getElem (by omega)] at h1
    obtain ⟨D, hc, hD⟩ := one_field h1
    have h2 : (xs.map (·.1))[i]? = some (rdD D) := by rw [List.getElem?_map, List.getElem?_eq_getElem (by omega), ← hD]; rfl
    rw [← e, List.getElem?_map, List.getElem?_eq_getElem (by rw [sT_len]; exact hi)] at h2
    injection h2 with h2
    have h3 : D = gt fieldK sT i := by rw [gt_of fieldK sT i (by rw [sT_len]; exact hi)]; exact (rdD_inj h2).symm
    subst h3
    constructor
    · have := congrArg (·[0]?) hc
      simpa [List.getElem?_take, List.getElem?_drop] using this
    · have := congrArg (·[1]?) hc
      simpa [List.getElem?_take, List.getElem?_drop] using this
  intro q hq
  obtain ⟨a, b⟩ := each (q / 2) (by omega)
  by_cases h2 : q % 2 = 0
  · have e2 : q = q / 2 * 2 := by omega
    rw [← e2] at a
    rw [a, ← field_c0 sT (q / 2), ← e2]
  · have e2 : q = q / 2 * 2 + 1 := by omega
    rw [← e2] at b
    rw [b, ← field_c1 sT (q / 2), ← e2]
/-- the table lies there, out of the row's condition -/
theorem sf_laid {W : World} {rest : List (String × DataW Unit)} (hg : Tryd.prog.globalNamed "loop.example/g00206/impl.staticFields" = some 0) (hty : (Tryd.prog.globals[0]?).map (·.type) = some 46)
    (h : laidMet Tryd.prog (("loop.example/g00206/impl.staticFields", .agg (sT.map rdD)) :: rest) W) : Sf W := by
  obtain ⟨ps, ⟨g', t', cs, fuel, p, q, hg', ht', hvar, hd, _, _⟩, _⟩ := h
  obtain rfl := Option.some.inj (hg.symm.trans hg')
  obtain rfl := Option.some.inj (hty.symm.trans ht')
  have hc := tab_cells hd
  have cell : ∀ i, i < 32 → W.cell? ⟨0, i, none⟩ = some (cl fieldK sT i) := fun i hi => by
    have h1 := World.var?_cell hg hvar i
    rw [h1, ← hc i hi]
    simp
  exact ⟨World.block_lt_of_cell? W _ (cell 0 (by omega)), fun q hq => cell q hq⟩
end Go.Proofs.YtidgjjbdabifnabDoor.Rc
