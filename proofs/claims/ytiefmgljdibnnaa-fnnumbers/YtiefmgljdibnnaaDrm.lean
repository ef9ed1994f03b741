/-
  Contracts: numbers that the model draws.
-/
import Derived.Test.YtiefmgljdibnnaaDrn
namespace Go.Proofs.Ytiefmgljdibnnaa
open Go.ChangeShapes Go.WideShapes Go.ChangeAt Go.RowKit
set_option linter.unusedVariables false
set_option maxRecDepth 100000

set_option maxHeartbeats 1000000 in
theorem drawNumberBytes_any (a : Option Addr) (N cap : Nat) (w : World) (hN : N ≤ 1048576) (h : Cd w a N) :
    Calls Try.prog 10 #[.slice a N cap] w fun e w' => ∃ n k : Int, e = .returned (.tuple #[.int .i64 n, .int .i64 k]) ∧ 0 ≤ n ∧ n ≤ 4611686018427387903 ∧ -2147483648 ≤ k ∧ k ≤ n ∧ Below w.heap.size w w' := by
  have U0 := hide (cu_first cap 46 h)
  clear h
  go_enter Try.func10, Try.ntmps10
  go_wp2_with fail
  refine (packet_any w.heap.size a N cap 0 _ hN (by omega) (unhide U0)).mono ?_
  rintro e w1 ⟨x, y, z, p, q, t, u, n, k, s, rfl, hn0, hn1, hk0, hk1, u1, k1⟩
  have bA := (Below.refl w1.heap.size w1).alloc (Nat.le_refl _) (.cells #[.int .i64 x, .int .i64 y, .int .i64 z, .string p, .string q, .string t, .string u, .slice none 0 0] 49)
  have U1 := hide (u1.same bA)
  have K1 := hide (k1.trans (Kx.of bA))
  clear bA
  clear u1 k1 U0
  go_wp2_with fail
  refine (pick_any w.heap.size a N cap (0 + 1000) 8 _ hN (by omega) (by omega) (by omega) (unhide U1)).mono ?_
  rintro e w2 ⟨r, rfl, hr0, hr1, u2, k2⟩
  have U2 := hide u2
  have K2 := hide ((unhide K1).trans k2)
  clear u2 k2 U1 K1
  by_cases h0 : r = 0
  · subst h0
    have hx := lit_cells w2 [127, 128, 32767, 32768, 8388607, 8388608, 2147483647, 2147483648, 0] 3 (fun x => 0 ≤ x ∧ x ≤ 2147483648) (by decide)
    have hne : w2.heap.size ≠ w.heap.size := by have := (unhide U2).lt; omega
    have HX := hide hx
    have UA := hide ((unhide U2).alloc (.cells #[.int .i64 127, .int .i64 128, .int .i64 32767, .int .i64 32768, .int .i64 8388607, .int .i64 8388608, .int .i64 2147483647, .int .i64 2147483648, .int .i64 0] 3))
    have KA := hide ((unhide K2).alloc (.cells #[.int .i64 127, .int .i64 128, .int .i64 32767, .int .i64 32768, .int .i64 8388607, .int .i64 8388608, .int .i64 2147483647, .int .i64 2147483648, .int .i64 0] 3))
    clear hx U2 K2
    go_wp2_with fail
    refine (among_any w.heap.size a N cap (0 + 1000 + 2) w2.heap.size 9 9 (fun x => 0 ≤ x ∧ x ≤ 2147483648) _ hN (by omega) (by omega) (by omega) (by simp) hne (unhide HX) (unhide UA)).mono ?_
    rintro e w3 ⟨x, rfl, hx, u3, k3⟩
    have K3 := hide ((unhide KA).trans k3)
    clear u3 k3 UA KA HX
    obtain ⟨hx0, hx1⟩ := hx
    go_wp2
    go_ret2
    exact ⟨n, n - x, rfl, hn0, hn1, by omega, by omega, (unhide K3).draw⟩
  · have g0 : (r == 0) = false := by simp [h0]
    clear h0
    go_wp2
    go_ret2
    exact ⟨n, k, rfl, hn0, hn1, by omega, by omega, (unhide K2).draw⟩
theorem andP (j : Nat) (hj : j ≤ 62) (n : Int) : bits .and .i64 n ((2 ^ j - 1 : Nat) : Int) = n % 2 ^ j := by
  have hp : 2 ^ j ≤ 2 ^ 62 := Nat.pow_le_pow_right (by omega) hj
  have h0 : 0 < 2 ^ j := Nat.two_pow_pos j
  have h62 : (BitVec.ofInt 64 ((2 ^ j - 1 : Nat) : Int)).toNat = 2 ^ j - 1 := by rw [BitVec.toNat_ofInt]; omega
  have key : (BitVec.ofInt 64 n &&& BitVec.ofInt 64 ((2 ^ j - 1 : Nat) : Int)).toNat = (n % ((2 ^ 64 : Nat) : Int)).toNat % 2 ^ j := by
    rw [BitVec.toNat_and, BitVec.toNat_ofInt, h62, Nat.and_two_pow_sub_one_eq_mod]
  show IntKind.i64.wrap ((BitVec.ofInt 64 n &&& BitVec.ofInt 64 ((2 ^ j - 1 : Nat) : Int)).toNat : Nat) = n % 2 ^ j
  have hm : (n % ((2 ^ 64 : Nat) : Int)).toNat % 2 ^ j < 2 ^ j := Nat.mod_lt _ h0
  have hd : ((2 ^ j : Nat) : Int) ∣ ((2 ^ 64 : Nat) : Int) := Int.natCast_dvd_natCast.2 (Nat.pow_dvd_pow 2 (by omega))
  have h9 : n % ((2 ^ 64 : Nat) : Int) % ((2 ^ j : Nat) : Int) = n % ((2 ^ j : Nat) : Int) := Int.emod_emod_of_dvd n hd
  have h8 : (((n % ((2 ^ 64 : Nat) : Int)).toNat % 2 ^ j : Nat) : Int) = n % ((2 ^ j : Nat) : Int) := by
    rw [Int.natCast_emod, Int.toNat_of_nonneg (Int.emod_nonneg _ (by decide)), h9]
  rw [key, wraps_i64 _ (by omega) (by omega), h8]
  simp
set_option maxHeartbeats 2000000 in
theorem drawNumberOf_any (a : Option Addr) (N cap : Nat) (w : World) (hN : N ≤ 1048576) (h : Cd w a N) :
    Calls Try.prog 12 #[.slice a N cap] w fun e w' => ∃ l x s : Int, e = .returned (.tuple #[.int .i64 l, .int .i64 x, .int .i64 s]) ∧ -1 ≤ l ∧ l ≤ 4611686018427387903 ∧ 0 ≤ x ∧ x < 4294967296 ∧ 0 ≤ s ∧ s ≤ 5 ∧ Below w.heap.size w w' := by
  have U0 := hide (cu_first cap 46 h)
  clear h
  go_enter Try.func12, Try.ntmps12
  go_wp2_with fail
  refine (pick_any w.heap.size a N cap 0 4 _ hN (by omega) (by omega) (by omega) (unhide U0)).mono ?_
  rintro e w1 ⟨r, rfl, hr0, hr1, u1, k1⟩
  have U1 := hide u1
  have K1 := hide k1
  clear u1 k1 U0
  obtain ⟨j, rfl⟩ := Int.eq_ofNat_of_zero_le hr0
  have hj : j = 0 ∨ j = 1 ∨ j = 2 ∨ j = 3 := by omega
  have hj3 : (j : Int) ≤ 3 := by omega
  clear hr0 hr1
  go_upto_region 3 with fail
  go_cut [7] (fun s7 wx => (∃ x : Int, s7 = .int .i64 x ∧ 0 ≤ x ∧ x < 4294967296) ∧ Cu wx w.heap.size a N cap 10 ∧ Kx w.heap.size (w.alloc (.cells #[.slice a N cap, .int .i64 0, .int .u64 0] 46)) wx)
  case first =>
    rcases hj with rfl | rfl | rfl | rfl
    · go_wp2_with fail
      refine (wide_any w.heap.size a N cap (0 + 2) _ hN (by omega) (unhide U1)).mono ?_
      rintro e w2 ⟨v, rfl, u2, k2⟩
      have hA : bits .and .i64 v 255 = v % 256 := andP 8 (by omega) v
      have U2 := hide u2
      have K2 := hide ((unhide K1).trans k2)
      clear u2 k2 U1 K1
      go_wp2_with fail
      go_meet
      exact ⟨⟨v % 256, by first | rfl | (rw [← hA]; rfl), Int.emod_nonneg _ (by omega), by have := Int.emod_lt_of_pos v (show (0 : Int) < 256 by omega); omega⟩, unhide U2, unhide K2⟩
    · go_wp2_with fail
      refine (wide_any w.heap.size a N cap (0 + 2) _ hN (by omega) (unhide U1)).mono ?_
      rintro e w2 ⟨v, rfl, u2, k2⟩
      have hA : bits .and .i64 v 65535 = v % 65536 := andP 16 (by omega) v
      have U2 := hide u2
      have K2 := hide ((unhide K1).trans k2)
      clear u2 k2 U1 K1
      go_wp2_with fail
      go_meet
      exact ⟨⟨v % 65536, by first | rfl | (rw [← hA]; rfl), Int.emod_nonneg _ (by omega), by have := Int.emod_lt_of_pos v (show (0 : Int) < 65536 by omega); omega⟩, unhide U2, unhide K2⟩
    · go_wp2_with fail
      refine (wide_any w.heap.size a N cap (0 + 2) _ hN (by omega) (unhide U1)).mono ?_
      rintro e w2 ⟨v, rfl, u2, k2⟩
      have hA : bits .and .i64 v 16777215 = v % 16777216 := andP 24 (by omega) v
      have U2 := hide u2
      have K2 := hide ((unhide K1).trans k2)
      clear u2 k2 U1 K1
      go_wp2_with fail
      go_meet
      exact ⟨⟨v % 16777216, by first | rfl | (rw [← hA]; rfl), Int.emod_nonneg _ (by omega), by have := Int.emod_lt_of_pos v (show (0 : Int) < 16777216 by omega); omega⟩, unhide U2, unhide K2⟩
    · go_wp2_with fail
      refine (wide_any w.heap.size a N cap (0 + 2) _ hN (by omega) (unhide U1)).mono ?_
      rintro e w2 ⟨v, rfl, u2, k2⟩
      have hA : bits .and .i64 v 4294967295 = v % 4294967296 := andP 32 (by omega) v
      have U2 := hide u2
      have K2 := hide ((unhide K1).trans k2)
      clear u2 k2 U1 K1
      go_wp2_with fail
      go_meet
      exact ⟨⟨v % 4294967296, by first | rfl | (rw [← hA]; rfl), Int.emod_nonneg _ (by omega), by have := Int.emod_lt_of_pos v (show (0 : Int) < 4294967296 by omega); omega⟩, unhide U2, unhide K2⟩
  case rest =>
  obtain ⟨⟨x, rfl, hx0, hx1⟩, hcu, hck⟩ := hcut
  have U2 := hide hcu
  have K2 := hide hck
  clear hcu hck U1 K1 hj
  go_wp2_with fail
  refine (num_any w.heap.size a N cap 10 _ hN (by omega) (unhide U2)).mono ?_
  rintro e w3 ⟨l, rfl, hl, u3, k3⟩
  have U3 := hide u3
  have K3 := hide ((unhide K2).trans k3)
  clear u3 k3 U2 K2
  obtain ⟨hl0, hl1⟩ := hl
  go_wp2_with fail
  refine (one_any w.heap.size a N cap (10 + 10) 20 _ hN (by omega) (by omega) (by omega) (unhide U3)).mono ?_
  rintro e w4 ⟨b27, rfl, u4, k4⟩
  have U4 := hide u4
  have K4 := hide ((unhide K3).trans k4)
  clear u4 k4 U3 K3
  go_upto_if 27 with fail
  go_cut [6] (fun s6 wx => (∃ s : Int, s6 = .int .i64 s ∧ 0 ≤ s ∧ s ≤ 5) ∧ Cu wx w.heap.size a N cap 24 ∧ Kx w.heap.size (w.alloc (.cells #[.slice a N cap, .int .i64 0, .int .u64 0] 46)) wx)
  case first =>
    cases b27 with
    | true =>
      have hx := lit_cells w4 [0, 5] 3 (fun x => 0 ≤ x ∧ x ≤ 5) (by decide)
      have hne : w4.heap.size ≠ w.heap.size := by have := (unhide U4).lt; omega
      have HX := hide hx
      have UA := hide ((unhide U4).alloc (.cells #[.int .i64 0, .int .i64 5] 3))
      have KA := hide ((unhide K4).alloc (.cells #[.int .i64 0, .int .i64 5] 3))
      clear hx U4 K4
      go_wp2_with fail
      refine (among_any w.heap.size a N cap (10 + 10 + 2) w4.heap.size 2 2 (fun x => 0 ≤ x ∧ x ≤ 5) _ hN (by omega) (by omega) (by omega) (by simp) hne (unhide HX) (unhide UA)).mono ?_
      rintro e w5 ⟨y, rfl, hy, u5, k5⟩
      have HY := hide hy
      have U5 := hide u5
      have K5 := hide ((unhide KA).trans k5)
      clear u5 k5 UA KA HX hy
      go_wp2_with fail
      go_meet
      exact ⟨⟨y, rfl, (unhide HY).1, (unhide HY).2⟩, unhide U5, unhide K5⟩
    | false =>
      go_wp2_with fail
      go_meet
      exact ⟨⟨_, rfl, by omega, by omega⟩, (unhide U4).mono (by omega), unhide K4⟩
  case rest =>
  obtain ⟨⟨s, rfl, hs0, hs1⟩, hcu, hck⟩ := hcut
  have U5 := hide hcu
  have K5 := hide hck
  clear hcu hck U4 K4 hj3
  go_wp2_with fail
  refine (one_any w.heap.size a N cap 24 8 _ hN (by omega) (by omega) (by omega) (unhide U5)).mono ?_
  rintro e w6 ⟨b32, rfl, u6', k6⟩
  have U6 := hide u6'
  have K6 := hide ((unhide K5).trans k6)
  clear u6' k6 U5 K5
  cases b32 with
  | true =>
    go_wp2_with fail
    refine (pick_any w.heap.size a N cap (24 + 2) 300 _ hN (by omega) (by omega) (by omega) (unhide U6)).mono ?_
    rintro e w7 ⟨y, rfl, hy0, hy1, u7', k7⟩
    have K7 := hide ((unhide K6).trans k7)
    clear u7' k7 U6 K6
    go_wp2
    go_ret3
    exact ⟨_, x, s, rfl, by omega, by omega, hx0, hx1, hs0, hs1, (unhide K7).draw⟩
  | false =>
    go_wp2
    go_ret3
    exact ⟨_, x, s, rfl, by omega, by omega, hx0, hx1, hs0, hs1, (unhide K6).draw⟩
end Go.Proofs.Ytiefmgljdibnnaa
