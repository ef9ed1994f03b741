/-
  A number comes back from its bytes, whatever stands behind them.
-/
import Derived.Test.YtgieglpjkjncfabDoorApl
import Derived.Test.YtgieglpjkjncfabDoorVrb
namespace Go.Proofs.YtgieglpjkjncfabDoor
open Go.ChangeShapes Go.WideShapes Go.ChangeAt Go.RowKit
set_option linter.unusedVariables false

theorem st_add (m : Int) (c : UInt8) (h0 : 0 ≤ m) (h1 : m < 36028797018963968) : st m c = m * 256 + c.toNat := by
  have hc := c.toNat_lt
  unfold st
  rw [show wrap64 (m * 256) = m * 256 by unfold wrap64; omega, show wrap64 (c.toNat : Int) = c.toNat by unfold wrap64; omega]
  exact or_byte _ _ (by omega) (by omega) (by omega) (by omega) (by omega)
/-- one byte more of n -/
theorem st_bt (n : Int) (k : Nat) (h0 : 0 ≤ n / 2 ^ (8 * (k + 1))) (h1 : n / 2 ^ (8 * (k + 1)) < 36028797018963968) : st (n / 2 ^ (8 * (k + 1))) (bt n k) = n / 2 ^ (8 * k) := by
  rw [st_add _ _ h0 h1, bt_toNat]
  have e : n / 2 ^ (8 * (k + 1)) = n / 2 ^ (8 * k) / 256 := by
    rw [show (2 : Int) ^ (8 * (k + 1)) = 2 ^ (8 * k) * 256 by rw [Nat.mul_add, Int.pow_add]; rfl, Int.ediv_ediv_of_nonneg (Int.le_of_lt (Int.pow_pos (by decide)))]
  rw [e]
  omega
theorem tk_cons (c : UInt8) (r : List UInt8) (M : Nat) (hq : tkN c = M) (h : ¬ r.length + 1 < M) : tk (c :: r) = (big (c.toNat % 64) (r.take (M - 1)), M) := by
  simp only [tk]
  rw [if_neg (by rw [hq]; exact h), hq]
theorem tkN1 {c : UInt8} (h : (c.toNat : Int) / 64 = 0) : tkN c = 1 := by rcases quarter c with ⟨a, b⟩ | ⟨a, b⟩ | ⟨a, b⟩ | ⟨a, b⟩ <;> omega
theorem tkN2 {c : UInt8} (h : (c.toNat : Int) / 64 = 1) : tkN c = 2 := by rcases quarter c with ⟨a, b⟩ | ⟨a, b⟩ | ⟨a, b⟩ | ⟨a, b⟩ <;> omega
theorem tkN4 {c : UInt8} (h : (c.toNat : Int) / 64 = 2) : tkN c = 4 := by rcases quarter c with ⟨a, b⟩ | ⟨a, b⟩ | ⟨a, b⟩ | ⟨a, b⟩ <;> omega
theorem tkN8 {c : UInt8} (h : (c.toNat : Int) / 64 = 3) : tkN c = 8 := by rcases quarter c with ⟨a, b⟩ | ⟨a, b⟩ | ⟨a, b⟩ | ⟨a, b⟩ <;> omega
theorem vb_tk1 (n : Int) (h0 : 0 ≤ n) (h : n < 64) (r : List UInt8) : tk (vb n ++ r) = (n, 1) := by
  have hv : vb n = [bt n 0] := by unfold vb; rw [if_pos h]; simp [fx, List.range_succ]
  have c0 := bt_toNat n 0
  simp only [Nat.mul_zero, Int.pow_zero, Int.ediv_one] at c0
  rw [hv, List.cons_append, tk_cons _ _ 1 (tkN1 (by omega)) (by omega)]
  simp only [Nat.sub_self, List.take_zero, big, List.foldl_nil]
  rw [show ((bt n 0).toNat : Int) % 64 = n by omega]
theorem vb_tk2 (n : Int) (h0 : 64 ≤ n) (h1 : n < 16384) (r : List UInt8) : tk (vb n ++ r) = (n, 2) := by
  have hv : vb n = [bt (n + 16384) 1, bt (n + 16384) 0] := by unfold vb; rw [if_neg (by omega), if_pos (by omega)]; simp [fx, List.range_succ]
  have c1 := bt_toNat (n + 16384) 1
  simp only [Nat.reduceMul, Int.reducePow] at c1
  have e0 : bt (n + 16384) 0 = bt n 0 := bt_eq _ _ 0 (by simp only [Nat.reduceMul, Int.reducePow]; omega)
  have s0 := st_bt n 0 (by simp only [Nat.reduceMul, Nat.reduceAdd, Int.reducePow]; omega) (by simp only [Nat.reduceMul, Nat.reduceAdd, Int.reducePow]; omega)
  rw [hv, e0, List.cons_append, tk_cons _ _ 2 (tkN2 (by omega)) (by simp)]
  rw [show ((bt (n + 16384) 1).toNat : Int) % 64 = n / 2 ^ (8 * (0 + 1)) by simp only [Nat.reduceMul, Nat.reduceAdd, Int.reducePow]; omega]
  simp only [List.cons_append, List.nil_append, Nat.reduceSub, List.take_succ_cons, List.take_zero, big, List.foldl_cons, List.foldl_nil]
  rw [s0]
  simp
theorem vb_tk4 (n : Int) (h0 : 16384 ≤ n) (h1 : n < 1073741824) (r : List UInt8) : tk (vb n ++ r) = (n, 4) := by
  have hv : vb n = [bt (n + 2147483648) 3, bt (n + 2147483648) 2, bt (n + 2147483648) 1, bt (n + 2147483648) 0] := by unfold vb; rw [if_neg (by omega), if_neg (by omega), if_pos (by omega)]; simp [fx, List.range_succ]
  have c1 := bt_toNat (n + 2147483648) 3
  simp only [Nat.reduceMul, Int.reducePow] at c1
  have e0 : bt (n + 2147483648) 0 = bt n 0 := bt_eq _ _ 0 (by simp only [Nat.reduceMul, Int.reducePow]; omega)
  have e1 : bt (n + 2147483648) 1 = bt n 1 := bt_eq _ _ 1 (by simp only [Nat.reduceMul, Int.reducePow]; omega)
  have e2 : bt (n + 2147483648) 2 = bt n 2 := bt_eq _ _ 2 (by simp only [Nat.reduceMul, Int.reducePow]; omega)
  have s0 := st_bt n 0 (by simp only [Nat.reduceMul, Nat.reduceAdd, Int.reducePow]; omega) (by simp only [Nat.reduceMul, Nat.reduceAdd, Int.reducePow]; omega)
  have s1 := st_bt n 1 (by simp only [Nat.reduceMul, Nat.reduceAdd, Int.reducePow]; omega) (by simp only [Nat.reduceMul, Nat.reduceAdd, Int.reducePow]; omega)
  have s2 := st_bt n 2 (by simp only [Nat.reduceMul, Nat.reduceAdd, Int.reducePow]; omega) (by simp only [Nat.reduceMul, Nat.reduceAdd, Int.reducePow]; omega)
  rw [hv, e0, e1, e2, List.cons_append, tk_cons _ _ 4 (tkN4 (by omega)) (by simp)]
  rw [show ((bt (n + 2147483648) 3).toNat : Int) % 64 = n / 2 ^ (8 * (2 + 1)) by simp only [Nat.reduceMul, Nat.reduceAdd, Int.reducePow]; omega]
  simp only [List.cons_append, List.nil_append, Nat.reduceSub, List.take_succ_cons, List.take_zero, big, List.foldl_cons, List.foldl_nil]
  rw [s2, s1, s0]
  simp
theorem vb_tk8 (n : Int) (h0 : 1073741824 ≤ n) (h1 : n ≤ 4611686018427387903) (r : List UInt8) : tk (vb n ++ r) = (n, 8) := by
  have hv : vb n = [bt (n - 4611686018427387904) 7, bt (n - 4611686018427387904) 6, bt (n - 4611686018427387904) 5, bt (n - 4611686018427387904) 4, bt (n - 4611686018427387904) 3, bt (n - 4611686018427387904) 2, bt (n - 4611686018427387904) 1, bt (n - 4611686018427387904) 0] := by unfold vb; rw [if_neg (by omega), if_neg (by omega), if_neg (by omega)]; simp [fx, List.range_succ]
  have c1 := bt_toNat (n - 4611686018427387904) 7
  simp only [Nat.reduceMul, Int.reducePow] at c1
  have e0 : bt (n - 4611686018427387904) 0 = bt n 0 := bt_eq _ _ 0 (by simp only [Nat.reduceMul, Int.reducePow]; omega)
  have e1 : bt (n - 4611686018427387904) 1 = bt n 1 := bt_eq _ _ 1 (by simp only [Nat.reduceMul, Int.reducePow]; omega)
  have e2 : bt (n - 4611686018427387904) 2 = bt n 2 := bt_eq _ _ 2 (by simp only [Nat.reduceMul, Int.reducePow]; omega)
  have e3 : bt (n - 4611686018427387904) 3 = bt n 3 := bt_eq _ _ 3 (by simp only [Nat.reduceMul, Int.reducePow]; omega)
  have e4 : bt (n - 4611686018427387904) 4 = bt n 4 := bt_eq _ _ 4 (by simp only [Nat.reduceMul, Int.reducePow]; omega)
  have e5 : bt (n - 4611686018427387904) 5 = bt n 5 := bt_eq _ _ 5 (by simp only [Nat.reduceMul, Int.reducePow]; omega)
  have e6 : bt (n - 4611686018427387904) 6 = bt n 6 := bt_eq _ _ 6 (by simp only [Nat.reduceMul, Int.reducePow]; omega)
  have s0 := st_bt n 0 (by simp only [Nat.reduceMul, Nat.reduceAdd, Int.reducePow]; omega) (by simp only [Nat.reduceMul, Nat.reduceAdd, Int.reducePow]; omega)
  have s1 := st_bt n 1 (by simp only [Nat.reduceMul, Nat.reduceAdd, Int.reducePow]; omega) (by simp only [Nat.reduceMul, Nat.reduceAdd, Int.reducePow]; omega)
  have s2 := st_bt n 2 (by simp only [Nat.reduceMul, Nat.reduceAdd, Int.reducePow]; omega) (by simp only [Nat.reduceMul, Nat.reduceAdd, Int.reducePow]; omega)
  have s3 := st_bt n 3 (by simp only [Nat.reduceMul, Nat.reduceAdd, Int.reducePow]; omega) (by simp only [Nat.reduceMul, Nat.reduceAdd, Int.reducePow]; omega)
  have s4 := st_bt n 4 (by simp only [Nat.reduceMul, Nat.reduceAdd, Int.reducePow]; omega) (by simp only [Nat.reduceMul, Nat.reduceAdd, Int.reducePow]; omega)
  have s5 := st_bt n 5 (by simp only [Nat.reduceMul, Nat.reduceAdd, Int.reducePow]; omega) (by simp only [Nat.reduceMul, Nat.reduceAdd, Int.reducePow]; omega)
  have s6 := st_bt n 6 (by simp only [Nat.reduceMul, Nat.reduceAdd, Int.reducePow]; omega) (by simp only [Nat.reduceMul, Nat.reduceAdd, Int.reducePow]; omega)
  rw [hv, e0, e1, e2, e3, e4, e5, e6, List.cons_append, tk_cons _ _ 8 (tkN8 (by omega)) (by simp)]
  rw [show ((bt (n - 4611686018427387904) 7).toNat : Int) % 64 = n / 2 ^ (8 * (6 + 1)) by simp only [Nat.reduceMul, Nat.reduceAdd, Int.reducePow]; omega]
  simp only [List.cons_append, List.nil_append, Nat.reduceSub, List.take_succ_cons, List.take_zero, big, List.foldl_cons, List.foldl_nil]
  rw [s6, s5, s4, s3, s2, s1, s0]
  simp
theorem vb_tk (n : Int) (h0 : 0 ≤ n) (h1 : n ≤ 4611686018427387903) (r : List UInt8) : tk (vb n ++ r) = (n, vsz n) := by
  rcases vsz_cases n with ⟨h, e⟩ | ⟨ha, hb, e⟩ | ⟨ha, hb, e⟩ | ⟨ha, e⟩
  · rw [e]; exact vb_tk1 n h0 h r
  · rw [e]; exact vb_tk2 n ha hb r
  · rw [e]; exact vb_tk4 n ha hb r
  · rw [e]; exact vb_tk8 n ha h1 r
end Go.Proofs.YtgieglpjkjncfabDoor
