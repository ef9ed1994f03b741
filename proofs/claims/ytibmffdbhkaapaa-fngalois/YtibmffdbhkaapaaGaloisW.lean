/-
  The law on products of bytes, walked.
-/
import Derived.Test.YtibmffdbhkaapaaDrw
import Derived.Test.YtibmffdbhkaapaaGiv
import Derived.Test.YtibmffdbhkaapaaGal
namespace Go.Proofs.Ytibmffdbhkaapaa.fnGalois
open Go.ChangeShapes Go.WideShapes Go.ChangeAt Go.RowKit
set_option linter.unusedVariables false

theorem specMulGf (a b : Int) (m n : Nat) (hm : a % 256 = m) (hn : b % 256 = n) (w : World) :
    Calls Try.prog 8 #[.int .i64 a, .int .i64 b] w fun e w' => e = .returned (.int .i64 (mul m n)) ∧ w' = w := by
  have h1 : m < 256 := by omega
  have h2 : n < 256 := by omega
  have hl := mul_lt m n h1
  have H := hide (fun W => specMul m n h1 h2 W)
  generalize mul m n = r at *
  go_enter Try.func8, Try.ntmps8
  go_wp2_with (go_at_call 19; with_reducible refine (unhide H _).mono ?_; rintro e w1 ⟨rfl, rfl⟩)
  go_ret
  exact ⟨rfl, rfl⟩
theorem implMulGf (a b : Int) (m n : Nat) (hm : a % 256 = m) (hn : b % 256 = n) (w : World) :
    Calls Try.prog 6 #[.int .i64 a, .int .i64 b] w fun e w' => e = .returned (.int .i64 (mul m n)) ∧ w' = w := by
  have h1 : m < 256 := by omega
  have h2 : n < 256 := by omega
  have hl := mul_lt m n h1
  have H := hide (fun W => implMul m n h1 h2 W)
  generalize mul m n = r at *
  go_enter Try.func6, Try.ntmps6
  go_wp2_with (go_at_call 17; with_reducible refine (unhide H _).mono ?_; rintro e w1 ⟨rfl, rfl⟩)
  go_ret
  exact ⟨rfl, rfl⟩
theorem specInvGf (a : Int) (m : Nat) (hm : a % 256 = m) (w : World) :
    Calls Try.prog 9 #[.int .i64 a] w fun e w' => e = .returned (.int .i64 ((inv m : Nat) : Int)) ∧ w' = w := by
  have h1 : m < 256 := by omega
  have hl := inv_lt m h1
  have H0 := hide (fun W => specInv m h1 W)
  generalize inv m = r at *
  go_enter Try.func9, Try.ntmps9
  go_wp2_with (first | (go_at_call 20; with_reducible refine (unhide H0 _).mono ?_; rintro e w1 ⟨rfl, rfl⟩))
  go_ret
  exact ⟨rfl, rfl⟩
theorem implInvGf (a : Int) (m : Nat) (hm : a % 256 = m) (w : World) :
    Calls Try.prog 7 #[.int .i64 a] w fun e w' => e = .returned (.int .i64 ((inv m : Nat) : Int)) ∧ w' = w := by
  have h1 : m < 256 := by omega
  have hl := inv_lt m h1
  have H0 := hide (fun W => implInv m h1 W)
  generalize inv m = r at *
  go_enter Try.func7, Try.ntmps7
  go_wp2_with (first | (go_at_call 18; with_reducible refine (unhide H0 _).mono ?_; rintro e w1 ⟨rfl, rfl⟩))
  go_ret
  exact ⟨rfl, rfl⟩
theorem low8 (b : Int) (n : Nat) (hn : b % 256 = n) : (BitVec.ofInt 64 b).toNat % 256 = n := by
  rw [BitVec.toNat_ofInt]
  omega
theorem wrap_mod (z : Int) : IntKind.i64.wrap z % 256 = z % 256 := by rw [IntKind.wrap_i64]; omega
theorem xor_mod (b c : Int) (n l : Nat) (hn : b % 256 = n) (hl : c % 256 = l) : bits .xor .i64 b c % 256 = ((n ^^^ l : Nat) : Int) := by
  show IntKind.i64.wrap (((BitVec.ofInt 64 b ^^^ BitVec.ofInt 64 c).toNat : Nat) : Int) % 256 = ((n ^^^ l : Nat) : Int)
  have h1 : ((BitVec.ofInt 64 b).toNat ^^^ (BitVec.ofInt 64 c).toNat) % 256 = ((BitVec.ofInt 64 b).toNat % 256) ^^^ ((BitVec.ofInt 64 c).toNat % 256) := Nat.xor_mod_two_pow (n := 8)
  rw [low8 b n hn, low8 c l hl] at h1
  rw [wrap_mod, BitVec.toNat_xor, ← h1, Int.natCast_emod]
  rfl
theorem low64 (p : Nat) (hp : p < 256) : (BitVec.ofInt 64 (p : Int)).toNat = p := by
  rw [BitVec.toNat_ofInt]
  omega
theorem xor_small (p q : Nat) (hp : p < 256) (hq : q < 256) : bits .xor .i64 (p : Int) (q : Int) = ((p ^^^ q : Nat) : Int) := by
  have h8 := xor_lt p q hp hq
  show IntKind.i64.wrap (((BitVec.ofInt 64 (p : Int) ^^^ BitVec.ofInt 64 (q : Int)).toNat : Nat) : Int) = ((p ^^^ q : Nat) : Int)
  rw [BitVec.toNat_xor, low64 p hp, low64 q hq]
  exact wraps_i64 _ (by omega) (by omega)
set_option maxHeartbeats 2000000 in
theorem walk_small (a' : Option Addr) (N cap : Nat) (b' : Option Addr) (M cap2 : Nat) (w : World) (hl : N + M ≤ 1048576) (ha : Cd w a' N) (hb : Cd w b' M) :
    Calls Try.prog 3 #[.slice a' N cap, .slice b' M cap2] w fun e w' => e = .returned (.bool true) ∧ Below w.heap.size w w' := by
  have HA := hide ha
  have HB := hide hb
  clear ha hb
  have hs1 : (N : Int) + (M : Int) ≤ 1048576 := by omega
  go_enter Try.func3, Try.ntmps3
  go_wp2_with fail
  refine (drawMul_any a' N cap _ (by omega) (unhide HA)).mono ?_
  rintro e w1 ⟨a, b, rfl, hb1⟩
  have B1 := hide hb1
  clear hb1
  go_wp2_with fail
  refine (drawMul_any b' M cap2 _ (by omega) ((unhide HB).below (unhide B1))).mono ?_
  rintro e w2 ⟨c, d, rfl, hb2⟩
  have B2 := hide ((unhide B1).trans (hb2.mono (unhide B1).size))
  clear hb2 B1
  obtain ⟨m, hm⟩ := Int.eq_ofNat_of_zero_le (show 0 ≤ a % 256 by omega)
  obtain ⟨n, hn⟩ := Int.eq_ofNat_of_zero_le (show 0 ≤ b % 256 by omega)
  obtain ⟨l, hl2⟩ := Int.eq_ofNat_of_zero_le (show 0 ≤ c % 256 by omega)
  have h1 : m < 256 := by omega
  have h2 : n < 256 := by omega
  have h3 : l < 256 := by omega
  have hP := mul_lt m n h1
  have hQ := mul_lt n l h2
  have hR := mul_lt m l h1
  have hI := inv_lt m h1
  have D1 := hide (fun W => implMulGf a b m n hm hn W)
  have D2 := hide (fun W => specMulGf a b m n hm hn W)
  have D3 := hide (fun W => implInvGf a m hm W)
  have D3' := hide (fun W => specInvGf a m hm W)
  have D4 := hide (fun W => implMulGf b a n m hn hm W)
  rw [mul_comm8 n m h2 h1] at D4
  have D5 := hide (fun W => implMulGf ((mul m n : Nat) : Int) c (mul m n) l (by omega) hl2 W)
  rw [mul_assoc8 m n l h1 h2 h3] at D5
  have D6 := hide (fun W => implMulGf b c n l hn hl2 W)
  have D7 := hide (fun W => implMulGf a ((mul n l : Nat) : Int) m (mul n l) hm (by omega) W)
  have D8 := hide (fun W => implMulGf a (bits .xor .i64 b c) m (n ^^^ l) hm (xor_mod b c n l hn hl2) W)
  rw [mul_right m n l h2 h3] at D8
  have D9 := hide (fun W => implMulGf a c m l hm hl2 W)
  have D10 := hide (fun W => implMulGf a ((inv m : Nat) : Int) m (inv m) hm (by omega) W)
  have D11 : Hid (∀ W, Calls Try.prog 6 #[.int .i64 a, .int .i64 1] W fun e w' => e = .returned (.int .i64 (mul m 1 : Nat)) ∧ w' = W) := fun W => implMulGf a 1 m 1 hm (by decide) W
  have E1 := xor_small (mul m n) (mul m l) hP hR
  have E2 := inv_all ⟨m, h1⟩
  simp only at E2
  have E3 : Hid (((((mul m (inv m) : Nat) : Int) == 1) == (((mul m 1 : Nat) : Int) != 0)) = true) := by
    have q1 : (((mul m (inv m) : Nat) : Int) == 1) = (mul m (inv m) == 1) := Bool.eq_iff_iff.2 (by simp only [beq_iff_eq]; omega)
    have q2 : (((mul m 1 : Nat) : Int) != 0) = (mul m 1 != 0) := Bool.eq_iff_iff.2 (by simp only [bne_iff_ne]; omega)
    rw [q1, q2, E2]
    exact beq_self_eq_true _
  clear E2 hm hn hl2
  generalize mul m (mul n l) = X at *
  generalize mul m (inv m) = Y at *
  generalize mul m 1 = Z at *
  generalize hxx : mul m n ^^^ mul m l = K at *
  generalize mul m n = P at *
  generalize mul n l = Q at *
  generalize mul m l = R at *
  generalize inv m = I at *
  clear hxx
  go_wp2_with (first
    | (go_at_call 6; with_reducible refine (unhide D1 _).mono ?_; rintro e w9 ⟨rfl, h9⟩; rw [h9]; clear h9 w9)
    | (go_at_call 8; with_reducible refine (unhide D2 _).mono ?_; rintro e w9 ⟨rfl, h9⟩; rw [h9]; clear h9 w9)
    | (go_at_call 7; with_reducible refine (unhide D3 _).mono ?_; rintro e w9 ⟨rfl, h9⟩; rw [h9]; clear h9 w9)
    | (go_at_call 9; with_reducible refine (unhide D3' _).mono ?_; rintro e w9 ⟨rfl, h9⟩; rw [h9]; clear h9 w9)
    | (go_at_call 6; with_reducible refine (unhide D4 _).mono ?_; rintro e w9 ⟨rfl, h9⟩; rw [h9]; clear h9 w9)
    | (go_at_call 6; with_reducible refine (unhide D5 _).mono ?_; rintro e w9 ⟨rfl, h9⟩; rw [h9]; clear h9 w9)
    | (go_at_call 6; with_reducible refine (unhide D6 _).mono ?_; rintro e w9 ⟨rfl, h9⟩; rw [h9]; clear h9 w9)
    | (go_at_call 6; with_reducible refine (unhide D7 _).mono ?_; rintro e w9 ⟨rfl, h9⟩; rw [h9]; clear h9 w9)
    | (go_at_call 6; with_reducible refine (unhide D8 _).mono ?_; rintro e w9 ⟨rfl, h9⟩; rw [h9]; clear h9 w9)
    | (go_at_call 6; with_reducible refine (unhide D9 _).mono ?_; rintro e w9 ⟨rfl, h9⟩; rw [h9]; clear h9 w9)
    | (go_at_call 6; with_reducible refine (unhide D10 _).mono ?_; rintro e w9 ⟨rfl, h9⟩; rw [h9]; clear h9 w9)
    | (go_at_call 6; with_reducible refine (unhide D11 _).mono ?_; rintro e w9 ⟨rfl, h9⟩; rw [h9]; clear h9 w9))
  rw [unhide E3]
  go_ret
  exact ⟨rfl, unhide B2⟩
theorem walk (a : Option Addr) (N cap : Nat) (b : Option Addr) (M cap2 : Nat) (w : World) (hN : N ≤ 140737488355328) (hM : M ≤ 140737488355328) (ha : Cd w a N) (hb : Cd w b M) :
    Calls Try.prog 3 #[.slice a N cap, .slice b M cap2] w fun e w' => e = .returned (.bool true) ∧ Below w.heap.size w w' := by
  by_cases h : (1048576 : Int) < (N : Int) + (M : Int)
  · clear ha hb
    go_enter Try.func3, Try.ntmps3
    go_wp2
    go_ret
    exact ⟨rfl, Below.refl _ _⟩
  · exact walk_small a N cap b M cap2 w (by omega) ha hb
end Go.Proofs.Ytibmffdbhkaapaa.fnGalois
