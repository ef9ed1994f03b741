/-
  Contracts: the program's Sha256.
-/
import Derived.Test.YtpjmnnaiegdjmaaDoorSen
namespace Go.Proofs.YtpjmnnaiegdjmaaDoor
open Go.ChangeShapes Go.WideShapes Go.ChangeAt Go.RowKit
set_option linter.unusedVariables false

theorem hw_all : (List.range 8).map HW = [1779033703, 3144134277, 1013904242, 2773480762, 1359893119, 2600822924, 528734635, 1541459225] := by decide +kernel
theorem first8 : (#[.int .u32 1779033703, .int .u32 3144134277, .int .u32 1013904242, .int .u32 2773480762, .int .u32 1359893119, .int .u32 2600822924, .int .u32 528734635, .int .u32 1541459225] : Array Value) = (uw 8 HW).toArray := by
  rw [uw_def, show ((List.range 8).map fun i => Value.int .u32 ((HW i : Nat) : Int)) = ((List.range 8).map HW).map (fun x : Nat => Value.int .u32 (x : Int)) by rw [List.map_map]; rfl, hw_all]
  rfl
theorem implFirst (w : World) :
    Calls Tryd.prog 80 #[] w fun e w' => e = .returned (.agg (uw 8 HW).toArray) ∧ Below w.heap.size w w' := by
  go_enter Tryd.func80, Tryd.ntmps80
  go_wp2
  rw [first8]
  generalize HW = f
  refine ret_arr_w 0 w.heap.size 8 92 _ f ?r1 ?r2 ?r3 (Aw.new w 8 f _) Tryd.underlying92 rfl info_st ?_
  case r1 => rfl
  case r2 => rfl
  case r3 => rfl
  exact ⟨rfl, (Below.refl w.heap.size w).alloc (Nat.le_refl _) _⟩
/-- the hash of a text -/
def shW (t : ByteArray) : ByteArray := bq 32 (dgW (stW HW (bq (pdL t.size) (pdB t t.size)) (pdL t.size / 64)))
theorem implHashOf (t : ByteArray) (ht : t.size ≤ 10000) (w : World) (hT : Rt w) :
    Calls Tryd.prog 62 #[.string t] w fun e w' => e = .returned (.string (shW t)) ∧ Below w.heap.size w w' := by
  have HT := hide hT
  clear hT
  have HE : Hid (∀ W, Rt W → Calls Tryd.prog 81 #[.agg (uw 8 HW).toArray, .int .i64 0, .string t] W fun e w' => e = .returned (.string (shW t)) ∧ Below W.heap.size W w') := fun W h => by
    have h1 := implEnded HW 0 t HW_lt (by omega) ht W h
    rw [Nat.zero_add] at h1
    exact h1
  go_enter Tryd.func62, Tryd.ntmps62
  go_wp2_with fail
  refine (implFirst _).mono ?_
  rintro e w1 ⟨rfl, b1⟩
  have B1 := hide b1
  have T1 := hide ((unhide HT).kept b1)
  clear b1
  go_wp2_with fail
  refine (unhide HE _ (unhide T1)).mono ?_
  rintro e w2 ⟨rfl, b2⟩
  have B2 := hide ((unhide B1).trans (b2.mono (unhide B1).size))
  clear b2
  go_wp2
  go_ret
  exact ⟨rfl, unhide B2⟩
theorem within_one (t : ByteArray) (most : Nat) (hm : most ≤ 100000) (hl : t.size ≤ 1048576) (w : World) (g c : Nat) (hc : w.cell? ⟨g, 0, none⟩ = some (.string t)) :
    Calls Tryd.prog 34 #[.int .i64 most, .slice (some ⟨g, 0, none⟩) 1 c] w fun e w' => e = .returned (.bool (decide (t.size ≤ most))) ∧ w' = w := by
  by_cases h : t.size ≤ most
  · have h2 : ¬ ((most : Int) < (t.size : Int)) := by omega
    rw [decide_eq_true h]
    go_enter Tryd.func34, Tryd.ntmps34
    go_wp2
    refine wp_loop_rounds 2 ?_
    rw [rounds_succ]
    go_wp2
    rw [rounds_succ]
    go_wp2
    go_ret
    exact ⟨rfl, rfl⟩
  · have h2 : (most : Int) < (t.size : Int) := by omega
    rw [decide_eq_false h]
    go_enter Tryd.func34, Tryd.ntmps34
    go_wp2
    refine wp_loop_rounds 1 ?_
    rw [rounds_succ]
    go_wp2
    go_ret
    exact ⟨rfl, rfl⟩
end Go.Proofs.YtpjmnnaiegdjmaaDoor
