/-
  Contracts: the program's MulBlock.
-/
import Derived.Test.YtkpodgeinanceaaE5t
namespace Go.Proofs.Ytkpodgeinanceaa
open Go.ChangeShapes Go.WideShapes Go.ChangeAt Go.RowKit
set_option linter.unusedVariables false

/-- a block of sixteen bytes in a new variable -/
theorem fr16 (w : World) (f : Nat → Nat) : Ar ((w.alloc (.cells #[.int .u8 0, .int .u8 0, .int .u8 0, .int .u8 0, .int .u8 0, .int .u8 0, .int .u8 0, .int .u8 0, .int .u8 0, .int .u8 0, .int .u8 0, .int .u8 0, .int .u8 0, .int .u8 0, .int .u8 0, .int .u8 0] 84)).setCells w.heap.size 0 (us 16 f)) w.heap.size 0 16 f ∧ Below w.heap.size w ((w.alloc (.cells #[.int .u8 0, .int .u8 0, .int .u8 0, .int .u8 0, .int .u8 0, .int .u8 0, .int .u8 0, .int .u8 0, .int .u8 0, .int .u8 0, .int .u8 0, .int .u8 0, .int .u8 0, .int .u8 0, .int .u8 0, .int .u8 0] 84)).setCells w.heap.size 0 (us 16 f)) ∧ ((w.alloc (.cells #[.int .u8 0, .int .u8 0, .int .u8 0, .int .u8 0, .int .u8 0, .int .u8 0, .int .u8 0, .int .u8 0, .int .u8 0, .int .u8 0, .int .u8 0, .int .u8 0, .int .u8 0, .int .u8 0, .int .u8 0, .int .u8 0] 84)).setCells w.heap.size 0 (us 16 f)).heap.size = w.heap.size + 1 :=
  ⟨(z16_new w 84).puts, Go.Proofs.Ytkpodgeinanceaa.below_setCells (Nat.le_refl _) _ _ _ ((Below.refl w.heap.size w).alloc (Nat.le_refl _) _), by rw [size_setCells, World.size_alloc]⟩
theorem bq_add (n m : Nat) (f : Nat → Nat) : bq (n + m) f = bq n f ++ bq m (fun i => f (n + i)) := by
  apply ByteArray.ext
  rw [ByteArray.data_append]
  unfold bq
  rw [List.range_add, List.map_append, List.map_map]
  simp
theorem tlW_bq (h l : Nat) : tlW h l = bq 16 (blF h l) := by
  rw [bq_add 8 8 (blF h l)]
  unfold tlW
  rw [bq_congr (n := 8) (f := fun i => byN h (7 - i)) (g := blF h l) (fun i hi => by unfold blF; rw [if_pos hi]), bq_congr (n := 8) (f := fun i => byN l (7 - i)) (g := fun i => blF h l (8 + i)) (fun i hi => by unfold blF; rw [if_neg (by omega), show 15 - (8 + i) = 7 - i by omega])]
theorem nbF_nbW (s : ByteArray) (f : Nat → Nat) : ∀ k, (∀ i, i < k → f i = at8 s i) → nbF f k = nbW s k
  | 0, _ => rfl
  | k + 1, h => by rw [nbF, nbW, nbF_nbW s f k (fun i hi => h i (by omega)), h k (by omega)]
theorem nbF_hi (s : ByteArray) (hs : s.size = 16) : nbF (at8 s) 8 = hiW s := nbF_nbW _ _ 8 (fun i hi => by rw [at8_extract s 0 8 i (by omega) (by omega), Nat.zero_add])
theorem nbF_lo (s : ByteArray) (hs : s.size = 16) : nbF (fun i => at8 s (8 + i)) 8 = lo5W s := nbF_nbW _ _ 8 (fun i hi => by rw [at8_extract s 8 16 i (by omega) (by omega)])
theorem implElement (s : ByteArray) (hs : s.size = 16) (b cap : Nat) (W : World) (h : Ar W b 0 16 (at8 s)) :
    Calls Try.prog 67 #[.slice (some ⟨b, 0, none⟩) 16 cap] W fun e w' => e = .returned (.agg #[.int .u64 (hiW s : Nat), .int .u64 (lo5W s : Nat)]) ∧ Below W.heap.size W w' := by
  have := implElementOf b 0 16 cap (at8 s) (at8_lt s) (by omega) (by omega) W h
  rw [nbF_hi s hs, nbF_lo s hs] at this
  exact this
end Go.Proofs.Ytkpodgeinanceaa
