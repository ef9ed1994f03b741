/-
  Contracts: the model's words told as a block; its MulBlock.
-/
import Derived.Test.YtkpodgeinanceaaL5y
namespace Go.Proofs.Ytkpodgeinanceaa
open Go.ChangeShapes Go.WideShapes Go.ChangeAt Go.RowKit
set_option linter.unusedVariables false

/-- two words as a block -/
def tlW (h l : Nat) : ByteArray := bq 8 (fun i => byN h (7 - i)) ++ bq 8 (fun i => byN l (7 - i))
theorem tlW_size (h l : Nat) : (tlW h l).size = 16 := by unfold tlW; rw [ByteArray.size_append, bq_size, bq_size]
set_option maxRecDepth 100000 in
set_option maxHeartbeats 1000000 in
theorem specTold (h l : Nat) (hh : h < 18446744073709551616) (hl : l < 18446744073709551616) (w : World) :
    Calls Try.prog 77 #[.agg #[.int .u64 (h : Nat), .int .u64 (l : Nat)]] w fun e w' => e = .returned (.string (tlW h l)) ∧ Below w.heap.size w w' := by
  have H1 := hide (fun W => specFix8 h hh W)
  have H2 := hide (fun W => specFix8 l hl W)
  have ad1 := fun W : World => run_string_add_sum (P := Try.prog) (w := W) (bq 8 (fun i => byN h (7 - i))) (bq 8 (fun i => byN l (7 - i))) (by rw [bq_size, bq_size]; omega)
  unfold tlW
  generalize (bq 8 (fun i => byN h (7 - i)) ++ bq 8 (fun i => byN l (7 - i))) = t at *
  generalize bq 8 (fun i => byN h (7 - i)) = t1 at *
  generalize bq 8 (fun i => byN l (7 - i)) = t2 at *
  go_enter Try.func77, Try.ntmps77
  go_wp2_with fail
  have N0 := q2_new w h l 113
  have B0 := ((Below.refl w.heap.size w).alloc (Nat.le_refl _) (.cells #[.int .u64 (h : Nat), .int .u64 (l : Nat)] 113)).drew
  have z0 : w.heap.size < (w.alloc (.cells #[.int .u64 (h : Nat), .int .u64 (l : Nat)] 113)).drew.heap.size := by simp
  generalize (w.alloc (.cells #[.int .u64 (h : Nat), .int .u64 (l : Nat)] 113)) = W at N0 B0 z0 ⊢
  have S0 : Hid (W.drew.cell? ⟨w.heap.size, 0, none⟩ = some (.int .u64 (h : Nat)) ∧ W.drew.cell? ⟨w.heap.size, 1, none⟩ = some (.int .u64 (l : Nat))) := ⟨N0.c0, N0.c1⟩
  have KQ : Hid (∀ V, Below W.drew.heap.size W.drew V → V.cell? ⟨w.heap.size, 0, none⟩ = some (.int .u64 (h : Nat)) ∧ V.cell? ⟨w.heap.size, 1, none⟩ = some (.int .u64 (l : Nat))) := fun V hV => ⟨(N0.keep hV z0).c0, (N0.keep hV z0).c1⟩
  have BW := hide B0
  clear N0 B0 z0
  go_region_held3 (fun V => V.cell? ⟨w.heap.size, 0, none⟩ = some (.int .u64 (h : Nat)) ∧ V.cell? ⟨w.heap.size, 1, none⟩ = some (.int .u64 (l : Nat))) (first | exact unhide S0 | exact unhide KQ _ b9 | exact unhide KQ _ (b9.trans (b10.mono b9.size))) (first
    | (go_at_call 55; with_reducible refine (unhide H1 _).mono ?_; rintro e w9 ⟨rfl, b9⟩)
    | (go_at_call 55; with_reducible refine (unhide H2 _).mono ?_; rintro e w10 ⟨rfl, b10⟩))
  all_goals
    have BB := hide ((unhide BW).trans ((b9.trans (b10.mono b9.size)).mono (unhide BW).size))
    clear b9 b10 S0 KQ BW
    go_wp2
    go_ret
    exact ⟨rfl, unhide BB⟩
end Go.Proofs.Ytkpodgeinanceaa
