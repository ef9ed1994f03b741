/-
  Contracts: the model's words told as a block; its MulBlock.
-/
import Derived.Test.YtgoafbhhihfkfaaL5y
namespace Go.Proofs.Ytgoafbhhihfkfaa
open Go.ChangeShapes Go.WideShapes Go.ChangeAt Go.RowKit
set_option linter.unusedVariables false

/-- two words as a block -/
def tlW (h l : Nat) : ByteArray := bq 8 (fun i => byN h (7 - i)) ++ bq 8 (fun i => byN l (7 - i))
theorem tlW_size (h l : Nat) : (tlW h l).size = 16 := by unfold tlW; rw [ByteArray.size_append, bq_size, bq_size]
set_option maxRecDepth 100000 in
set_option maxHeartbeats 1000000 in
theorem specTold (h l : Nat) (hh : h < 18446744073709551616) (hl : l < 18446744073709551616) (w : World) :
    Calls Try.prog 29 #[.agg #[.int .u64 (h : Nat), .int .u64 (l : Nat)]] w fun e w' => e = .returned (.string (tlW h l)) ∧ Below w.heap.size w w' := by
  have H1 := hide (fun W => specFix8 h hh W)
  have H2 := hide (fun W => specFix8 l hl W)
  have ad1 := fun W : World => run_string_add_sum (P := Try.prog) (w := W) (bq 8 (fun i => byN h (7 - i))) (bq 8 (fun i => byN l (7 - i))) (by rw [bq_size, bq_size]; omega)
  unfold tlW
  generalize (bq 8 (fun i => byN h (7 - i)) ++ bq 8 (fun i => byN l (7 - i))) = t at *
  generalize bq 8 (fun i => byN h (7 - i)) = t1 at *
  generalize bq 8 (fun i => byN l (7 - i)) = t2 at *
  go_enter Try.func29, Try.ntmps29
  go_wp2_with fail
  have N0 := q2_new w h l 46
  have B0 := ((Below.refl w.heap.size w).alloc (Nat.le_refl _) (.cells #[.int .u64 (h : Nat), .int .u64 (l : Nat)] 46)).drew
  have z0 : w.heap.size < (w.alloc (.cells #[.int .u64 (h : Nat), .int .u64 (l : Nat)] 46)).drew.heap.size := by simp
  generalize (w.alloc (.cells #[.int .u64 (h : Nat), .int .u64 (l : Nat)] 46)) = W at N0 B0 z0 ⊢
  have S0 : Hid (W.drew.cell? ⟨w.heap.size, 0, none⟩ = some (.int .u64 (h : Nat)) ∧ W.drew.cell? ⟨w.heap.size, 1, none⟩ = some (.int .u64 (l : Nat))) := ⟨N0.c0, N0.c1⟩
  have KQ : Hid (∀ V, Below W.drew.heap.size W.drew V → V.cell? ⟨w.heap.size, 0, none⟩ = some (.int .u64 (h : Nat)) ∧ V.cell? ⟨w.heap.size, 1, none⟩ = some (.int .u64 (l : Nat))) := fun V hV => ⟨(N0.keep hV z0).c0, (N0.keep hV z0).c1⟩
  have BW := hide B0
  clear N0 B0 z0
  go_region_held3 (fun V => V.cell? ⟨w.heap.size, 0, none⟩ = some (.int .u64 (h : Nat)) ∧ V.cell? ⟨w.heap.size, 1, none⟩ = some (.int .u64 (l : Nat))) (first | exact unhide S0 | exact unhide KQ _ b9 | exact unhide KQ _ (b9.trans (b10.mono b9.size))) (first
    | (go_at_call 52; with_reducible refine (unhide H1 _).mono ?_; rintro e w9 ⟨rfl, b9⟩)
    | (go_at_call 52; with_reducible refine (unhide H2 _).mono ?_; rintro e w10 ⟨rfl, b10⟩))
  all_goals
    have BB := hide ((unhide BW).trans ((b9.trans (b10.mono b9.size)).mono (unhide BW).size))
    clear b9 b10 S0 KQ BW
    go_wp2
    go_ret
    exact ⟨rfl, unhide BB⟩
/-- the product of two blocks -/
def mbW (a b : ByteArray) : ByteArray := tlW (ouP (hiW a) (loW a) (hiW b) (loW b) 128).1 (ouP (hiW a) (loW a) (hiW b) (loW b) 128).2
theorem mbW_size (a b : ByteArray) : (mbW a b).size = 16 := tlW_size _ _
set_option maxRecDepth 100000 in
set_option maxHeartbeats 1000000 in
theorem specMB_ok (a b : ByteArray) (h : a.size = 16 ∧ b.size = 16) (w : World) :
    Calls Try.prog 11 #[.string a, .string b] w fun e w' => e = .returned (.tuple #[.string (mbW a b), .bool true]) ∧ Below w.heap.size w w' := by
  obtain ⟨ha, hb⟩ := h
  have hl := ouP_lt (hiW a) (loW a) (hiW b) (loW b) (hiW_lt b) (loW_lt b) 128
  have H1 := hide (fun W => specOf a ha W)
  have H2 := hide (fun W => specOf b hb W)
  have H3 := hide (fun W => specMulB (hiW a) (loW a) (hiW b) (loW b) (hiW_lt a) (loW_lt a) (hiW_lt b) (loW_lt b) W)
  have H4 := hide (fun W => specTold _ _ hl.1 hl.2 W)
  unfold mbW
  generalize tlW (ouP (hiW a) (loW a) (hiW b) (loW b) 128).1 (ouP (hiW a) (loW a) (hiW b) (loW b) 128).2 = t at *
  generalize (ouP (hiW a) (loW a) (hiW b) (loW b) 128).1 = x at *
  generalize (ouP (hiW a) (loW a) (hiW b) (loW b) 128).2 = y at *
  generalize hiW a = a1 at *
  generalize loW a = a2 at *
  generalize hiW b = b1 at *
  generalize loW b = b2 at *
  clear hl
  go_enter Try.func11, Try.ntmps11
  go_wp2_with (first
    | (go_at_call 31; with_reducible refine (unhide H1 _).mono ?_; rintro e w1 ⟨rfl, c1⟩; have C1 := hide c1; clear c1)
    | (go_at_call 31; with_reducible refine (unhide H2 _).mono ?_; rintro e w2 ⟨rfl, c2⟩; have C2 := hide c2; clear c2)
    | (go_at_call 30; with_reducible refine (unhide H3 _).mono ?_; rintro e w3 ⟨rfl, c3⟩; have C3 := hide c3; clear c3)
    | (go_at_call 29; with_reducible refine (unhide H4 _).mono ?_; rintro e w4 ⟨rfl, c4⟩; have C4 := hide c4; clear c4))
  go_ret2
  exact ⟨rfl, (unhide C1).trans (((unhide C2).trans (((unhide C3).trans ((unhide C4).mono (unhide C3).size)).mono (unhide C2).size)).mono (unhide C1).size)⟩
theorem specMB_no (a b : ByteArray) (h : ¬ (a.size = 16 ∧ b.size = 16)) (hl : a.size ≤ 1048576) (hl2 : b.size ≤ 1048576) (w : World) :
    Calls Try.prog 11 #[.string a, .string b] w fun e w' => e = .returned (.tuple #[.string ⟨#[]⟩, .bool false]) ∧ Below w.heap.size w w' := by
  by_cases hk : a.size = 16
  · have h1 : ((b.size : Int) != 16) = true := by simp; omega
    go_enter Try.func11, Try.ntmps11
    go_wp2
    go_ret2
    exact ⟨rfl, Below.refl _ _⟩
  · have h1 : ((a.size : Int) != 16) = true := by simp; omega
    go_enter Try.func11, Try.ntmps11
    go_wp2
    go_ret2
    exact ⟨rfl, Below.refl _ _⟩
end Go.Proofs.Ytgoafbhhihfkfaa
