/-
  The law on bytes put in place of others, walked.
-/
import Derived.Test.YtibmffdbhkaapaaCur
import Derived.Test.YtibmffdbhkaapaaGiv
namespace Go.Proofs.Ytibmffdbhkaapaa.fnSubstituted
open Go.ChangeShapes Go.WideShapes Go.ChangeAt Go.RowKit
set_option linter.unusedVariables false

theorem drawInv_any (a : Option Addr) (N cap : Nat) (w : World) (hN : N ≤ 1048576) (h : Cd w a N) :
    Calls Try.prog 21 #[.slice a N cap] w fun e w' => ∃ r : Int, e = .returned (.int .i64 r) ∧ (-10 ≤ r ∧ r < 290) ∧ Below w.heap.size w w' := by
  have HC := hide h
  clear h
  go_enter Try.func21, Try.ntmps21
  go_wp2_with fail
  refine (pick_any w.heap.size a N cap 0 300 _ hN (by omega) (by omega) (by omega) (cu_first cap _ (unhide HC))).mono ?_
  rintro e w1 ⟨r, rfl, hr0, hr1, u1, k1⟩
  go_wp2
  go_ret
  exact ⟨r - 10, rfl, by omega, k1.draw⟩
theorem drawSub_any (a : Option Addr) (N cap : Nat) (w : World) (hN : N ≤ 1048576) (h : Cd w a N) :
    Calls Try.prog 10 #[.slice a N cap] w fun e w' => ∃ r : Int, e = .returned (.int .i64 r) ∧ (-10 ≤ r ∧ r < 290) ∧ Below w.heap.size w w' := by
  have H := hide (fun W h => drawInv_any a N cap W hN h)
  have HC := hide h
  clear h
  go_enter Try.func10, Try.ntmps10
  go_wp2_with fail
  refine (unhide H _ (unhide HC)).mono ?_
  rintro e w1 ⟨r, rfl, hr, hb⟩
  go_wp2
  go_ret
  exact ⟨r, rfl, hr, hb⟩
theorem specSide (a : Int) (m : Nat) (hm : a % 256 = m) (w : World) :
    Calls Try.prog 12 #[.int .i64 a] w fun e w' => e = .returned (.int .i64 ((sub m : Nat) : Int)) ∧ w' = w := by
  have h1 : m < 256 := by omega
  have hl := sub_lt m h1
  have H0 := hide (fun W => specSub m h1 W)
  generalize sub m = r at *
  go_enter Try.func12, Try.ntmps12
  go_wp2_with (first | (go_at_call 23; with_reducible refine (unhide H0 _).mono ?_; rintro e w1 ⟨rfl, rfl⟩))
  go_ret
  exact ⟨rfl, rfl⟩
theorem implSide (a : Int) (m : Nat) (hm : a % 256 = m) (w : World) :
    Calls Try.prog 11 #[.int .i64 a] w fun e w' => e = .returned (.int .i64 ((sub m : Nat) : Int)) ∧ w' = w := by
  have h1 : m < 256 := by omega
  have hl := sub_lt m h1
  have H0 := hide (fun W => implInv m h1 W)
  have H1 := hide (fun W => implSpr (inv m) (inv_lt m h1) W)
  change spr (inv m) < 256 at hl
  change Calls _ _ _ _ (fun e w' => e = .returned (.int .i64 ((spr (inv m) : Nat) : Int)) ∧ w' = w)
  generalize spr (inv m) = r at *
  generalize inv m = i at *
  go_enter Try.func11, Try.ntmps11
  go_wp2_with (first | (go_at_call 18; with_reducible refine (unhide H0 _).mono ?_; rintro e w1 ⟨rfl, rfl⟩) | (go_at_call 22; with_reducible refine (unhide H1 _).mono ?_; rintro e w1 ⟨rfl, rfl⟩))
  go_ret
  exact ⟨rfl, rfl⟩
theorem unsSide (a : Int) (m : Nat) (hm : a % 256 = m) (w : World) :
    Calls Try.prog 13 #[.int .i64 a] w fun e w' => e = .returned (.int .i64 ((back m : Nat) : Int)) ∧ w' = w := by
  have h1 : m < 256 := by omega
  have hl := back_lt m h1
  have H0 := hide (fun W => implUns m h1 W)
  have H1 := hide (fun W => implInv (uns m) (uns_lt m h1) W)
  change inv (uns m) < 256 at hl
  change Calls _ _ _ _ (fun e w' => e = .returned (.int .i64 ((inv (uns m) : Nat) : Int)) ∧ w' = w)
  generalize inv (uns m) = r at *
  generalize uns m = i at *
  go_enter Try.func13, Try.ntmps13
  go_wp2_with (first | (go_at_call 24; with_reducible refine (unhide H0 _).mono ?_; rintro e w1 ⟨rfl, rfl⟩) | (go_at_call 18; with_reducible refine (unhide H1 _).mono ?_; rintro e w1 ⟨rfl, rfl⟩))
  go_ret
  exact ⟨rfl, rfl⟩
theorem mulSide (a b : Int) (m n : Nat) (hm : a % 256 = m) (hn : b % 256 = n) (w : World) :
    Calls Try.prog 6 #[.int .i64 a, .int .i64 b] w fun e w' => e = .returned (.int .i64 (mul m n)) ∧ w' = w := by
  have h1 : m < 256 := by omega
  have h2 : n < 256 := by omega
  have hl := mul_lt m n h1
  have H := hide (fun W => implMul m n h1 h2 W)
  generalize mul m n = r at *
  go_enter Try.func6, Try.ntmps6
  go_wp2_with (go_at_call 17; with_reducible refine (unhide H _).mono ?_; rintro e w1 ⟨rfl, rfl⟩)
  go_ret
  exact ⟨rfl, rfl⟩
theorem sub_all : ∀ x : Fin 256, back (sub x) = x ∧ sub (back x) = x ∧ sub x ≠ x ∧ sub x ^^^ 255 ≠ x ∧ mul x 1 = x := by decide +kernel
theorem x255 : ∀ x : Fin 256, bits .xor .i64 ((x : Nat) : Int) 255 = (((x : Nat) ^^^ 255 : Nat) : Int) := by decide +kernel
set_option maxHeartbeats 1000000 in
theorem walk_small (a : Option Addr) (N cap : Nat) (w : World) (hN : N ≤ 1048576) (ha : Cd w a N) :
    Calls Try.prog 4 #[.slice a N cap] w fun e w' => e = .returned (.bool true) ∧ Below w.heap.size w w' := by
  have HA := hide ha
  clear ha
  have hl : ¬ (1048576 : Int) < N := by omega
  go_enter Try.func4, Try.ntmps4
  go_wp2_with fail
  refine (drawSub_any a N cap _ hN (unhide HA)).mono ?_
  rintro e w1 ⟨r, rfl, hr, hb1⟩
  have HB := hide hb1
  obtain ⟨m, hm⟩ := Int.eq_ofNat_of_zero_le (show 0 ≤ r % 256 by omega)
  have h1 : m < 256 := by omega
  obtain ⟨e1, e2, e3, e4, e5⟩ := sub_all ⟨m, h1⟩
  have e6 := x255 ⟨sub m, sub_lt m h1⟩
  simp only at e1 e2 e3 e4 e5 e6
  have hs := sub_lt m h1
  have hv := back_lt m h1
  have C1 := hide (fun W => specSide r m hm W)
  have C2 := hide (fun W => implSide r m hm W)
  have C3 := hide (fun W => unsSide ((sub m : Nat) : Int) (sub m) (by omega) W)
  have C4 : Hid (∀ W, Calls Try.prog 6 #[.int .i64 r, .int .i64 1] W fun e w' => e = .returned (.int .i64 (mul m 1 : Nat)) ∧ w' = W) := fun W => mulSide r 1 m 1 hm (by decide) W
  have C5 := hide (fun W => unsSide r m hm W)
  have C6 := hide (fun W => implSide ((back m : Nat) : Int) (back m) (by omega) W)
  rw [e1] at C3
  rw [e2] at C6
  rw [e5] at C4
  have n1 : (((sub m : Nat) : Int) != (m : Int)) = true := by simp only [bne_iff_ne]; omega
  have n2 : (bits .xor .i64 ((sub m : Nat) : Int) 255 != (m : Int)) = true := by rw [e6]; simp only [bne_iff_ne]; omega
  clear e1 e2 e3 e4 e5 e6 hb1
  generalize sub m = S at *
  generalize back m = V at *
  go_wp2_with (first
    | (go_at_call 11; with_reducible refine (unhide C2 _).mono ?_; rintro e w9 ⟨rfl, h9⟩; rw [h9]; clear h9 w9)
    | (go_at_call 12; with_reducible refine (unhide C1 _).mono ?_; rintro e w9 ⟨rfl, h9⟩; rw [h9]; clear h9 w9)
    | (go_at_call 13; with_reducible refine (unhide C3 _).mono ?_; rintro e w9 ⟨rfl, h9⟩; rw [h9]; clear h9 w9)
    | (go_at_call 6; with_reducible refine (unhide C4 _).mono ?_; rintro e w9 ⟨rfl, h9⟩; rw [h9]; clear h9 w9)
    | (go_at_call 13; with_reducible refine (unhide C5 _).mono ?_; rintro e w9 ⟨rfl, h9⟩; rw [h9]; clear h9 w9)
    | (go_at_call 11; with_reducible refine (unhide C6 _).mono ?_; rintro e w9 ⟨rfl, h9⟩; rw [h9]; clear h9 w9))
  go_ret
  exact ⟨rfl, unhide HB⟩
theorem walk (a : Option Addr) (N cap : Nat) (w : World) (hN : N ≤ maxLen) (ha : Cd w a N) :
    Calls Try.prog 4 #[.slice a N cap] w fun e w' => e = .returned (.bool true) ∧ Below w.heap.size w w' := by
  unfold maxLen at hN
  by_cases h : (1048576 : Int) < N
  · clear ha
    go_enter Try.func4, Try.ntmps4
    go_wp2
    go_ret
    exact ⟨rfl, Below.refl _ _⟩
  · exact walk_small a N cap w (by omega) ha
end Go.Proofs.Ytibmffdbhkaapaa.fnSubstituted
