/-
  Contracts: sizes that the model draws, and bytes for products.
-/
import Derived.Test.YtibmffdbhkaapaaCur
namespace Go.Proofs.Ytibmffdbhkaapaa
open Go.ChangeShapes Go.WideShapes Go.ChangeAt Go.RowKit
set_option linter.unusedVariables false

set_option maxHeartbeats 2000000 in
theorem sized_any (cb : Nat) (a : Option Addr) (N cap P : Nat) (w : World) (hN : N ≤ 1048576) (hP : P ≤ 800000) (h : Cu w cb a N cap P) :
    Calls Try.prog 15 #[.pointer (some ⟨cb, 0, none⟩)] w fun e w' => ∃ r : Int, e = .returned (.int .i64 r) ∧ Cu w' cb a N cap (P + 20) ∧ Kx cb w w' := by
  have HU := hide h
  clear h
  go_enter Try.func15, Try.ntmps15
  go_wp2_with fail
  refine (pick_any cb a N cap P 5 _ hN (by omega) (by omega) (by omega) (unhide HU)).mono ?_
  rintro e w1 ⟨n, rfl, hn0, hn1, u1, k1⟩
  have HU1 := hide u1
  clear u1
  go_wp2_with fail
  refine (pick_any cb a N cap (P + 2) 8 _ hN (by omega) (by omega) (by omega) (unhide HU1)).mono ?_
  rintro e w2 ⟨r, rfl, hr0, hr1, u2, k2⟩
  have HU2 := hide u2
  have K2 := hide (k1.trans k2)
  clear u2 k1 k2 HU HU1
  have hr : r = 0 ∨ r = 1 ∨ r = 2 ∨ r = 3 ∨ (r ≠ 0 ∧ r ≠ 1 ∧ r ≠ 2 ∧ r ≠ 3) := by omega
  rcases hr with rfl | rfl | rfl | rfl | ⟨d0, d1, d2, d3⟩
  · go_wp2_with fail
    refine (pick_any cb a N cap (P + 2 + 2) 300 _ hN (by omega) (by omega) (by omega) (unhide HU2)).mono ?_
    rintro e w3 ⟨x, rfl, hx0, hx1, u3, k3⟩
    have HU3 := hide u3
    have K3 := hide ((unhide K2).trans k3)
    clear u3 k3 HU2 K2
    go_wp2_with fail
    refine (one_any cb a N cap (P + 2 + 2 + 2) 3 _ hN (by omega) (by omega) (by omega) (unhide HU3)).mono ?_
    rintro e w4 ⟨rb, rfl, u4, k4⟩
    have HU4 := hide (u4.mono (Q := P + 20) (by omega))
    have K4 := hide ((unhide K3).trans k4)
    clear u4 k4 HU3 K3
    cases rb with
    | false =>
      go_wp2
      go_ret
      exact ⟨_, rfl, unhide HU4, unhide K4⟩
    | true =>
      go_wp2
      go_ret
      exact ⟨_, rfl, unhide HU4, unhide K4⟩
  · go_wp2_with fail
    refine (wide_any cb a N cap (P + 2 + 2) _ hN (by omega) (unhide HU2)).mono ?_
    rintro e w3 ⟨y, rfl, u3, k3⟩
    have HU2' := hide u3
    have K2' := hide ((unhide K2).trans k3)
    clear u3 k3 HU2 K2
    have HU2 := HU2'
    have K2 := K2'
    clear HU2' K2'
    go_wp2_with fail
    refine (pick_any cb a N cap (P + 2 + 2 + 8) 64 _ hN (by omega) (by omega) (by omega) (unhide HU2)).mono ?_
    rintro e w5 ⟨x, rfl, hx0, hx1, u3, k3⟩
    have HU3 := hide u3
    have K3 := hide ((unhide K2).trans k3)
    clear u3 k3 HU2 K2
    obtain ⟨k, rfl⟩ := Int.eq_ofNat_of_zero_le hx0
    go_wp2_with fail
    refine (one_any cb a N cap (P + 2 + 2 + 8 + 2) 3 _ hN (by omega) (by omega) (by omega) (unhide HU3)).mono ?_
    rintro e w4 ⟨rb, rfl, u4, k4⟩
    have HU4 := hide (u4.mono (Q := P + 20) (by omega))
    have K4 := hide ((unhide K3).trans k4)
    clear u4 k4 HU3 K3
    cases rb with
    | false =>
      go_wp2
      go_ret
      exact ⟨_, rfl, unhide HU4, unhide K4⟩
    | true =>
      go_wp2
      go_ret
      exact ⟨_, rfl, unhide HU4, unhide K4⟩
  · go_wp2_with fail
    refine (pick_any cb a N cap (P + 2 + 2) 64 _ hN (by omega) (by omega) (by omega) (unhide HU2)).mono ?_
    rintro e w3 ⟨x, rfl, hx0, hx1, u3, k3⟩
    have HU3 := hide u3
    have K3 := hide ((unhide K2).trans k3)
    clear u3 k3 HU2 K2
    obtain ⟨k, rfl⟩ := Int.eq_ofNat_of_zero_le hx0
    go_wp2_with fail
    refine (one_any cb a N cap (P + 2 + 2 + 2) 3 _ hN (by omega) (by omega) (by omega) (unhide HU3)).mono ?_
    rintro e w4 ⟨rb, rfl, u4, k4⟩
    have HU4 := hide (u4.mono (Q := P + 20) (by omega))
    have K4 := hide ((unhide K3).trans k4)
    clear u4 k4 HU3 K3
    cases rb with
    | false =>
      go_wp2
      go_ret
      exact ⟨_, rfl, unhide HU4, unhide K4⟩
    | true =>
      go_wp2
      go_ret
      exact ⟨_, rfl, unhide HU4, unhide K4⟩
  · go_wp2_with fail
    refine (pick_any cb a N cap (P + 2 + 2) 64 _ hN (by omega) (by omega) (by omega) (unhide HU2)).mono ?_
    rintro e w3 ⟨x, rfl, hx0, hx1, u3, k3⟩
    have HU3 := hide u3
    have K3 := hide ((unhide K2).trans k3)
    clear u3 k3 HU2 K2
    obtain ⟨k, rfl⟩ := Int.eq_ofNat_of_zero_le hx0
    go_wp2_with fail
    refine (one_any cb a N cap (P + 2 + 2 + 2) 3 _ hN (by omega) (by omega) (by omega) (unhide HU3)).mono ?_
    rintro e w4 ⟨rb, rfl, u4, k4⟩
    have HU4 := hide (u4.mono (Q := P + 20) (by omega))
    have K4 := hide ((unhide K3).trans k4)
    clear u4 k4 HU3 K3
    cases rb with
    | false =>
      go_wp2
      go_ret
      exact ⟨_, rfl, unhide HU4, unhide K4⟩
    | true =>
      go_wp2
      go_ret
      exact ⟨_, rfl, unhide HU4, unhide K4⟩
  · have e0 : (r == 0) = false := beq_eq_false_iff_ne.2 d0
    have e1 : (r == 1) = false := beq_eq_false_iff_ne.2 d1
    have e2 : (r == 2) = false := beq_eq_false_iff_ne.2 d2
    have e3 : (r == 3) = false := beq_eq_false_iff_ne.2 d3
    have HU3 := HU2
    have K3 := K2
    clear HU2 K2
    go_wp2_with fail
    refine (one_any cb a N cap (P + 2 + 2) 3 _ hN (by omega) (by omega) (by omega) (unhide HU3)).mono ?_
    rintro e w4 ⟨rb, rfl, u4, k4⟩
    have HU4 := hide (u4.mono (Q := P + 20) (by omega))
    have K4 := hide ((unhide K3).trans k4)
    clear u4 k4 HU3 K3
    cases rb with
    | false =>
      go_wp2
      go_ret
      exact ⟨_, rfl, unhide HU4, unhide K4⟩
    | true =>
      go_wp2
      go_ret
      exact ⟨_, rfl, unhide HU4, unhide K4⟩
set_option maxHeartbeats 2000000 in
theorem drawMul_any (a : Option Addr) (N cap : Nat) (w : World) (hN : N ≤ 1048576) (h : Cd w a N) :
    Calls Try.prog 5 #[.slice a N cap] w fun e w' => ∃ r s : Int, e = .returned (.tuple #[.int .i64 r, .int .i64 s]) ∧ Below w.heap.size w w' := by
  have HC := hide h
  clear h
  go_enter Try.func5, Try.ntmps5
  go_wp2_with fail
  refine (one_any w.heap.size a N cap 0 8 _ hN (by omega) (by omega) (by omega) (cu_first cap _ (unhide HC))).mono ?_
  rintro e w1 ⟨rb, rfl, u1, k1⟩
  have U1 := hide u1
  have K1 := hide k1
  clear u1 k1
  cases rb with
  | true =>
    go_wp2_with fail
    refine (sized_any w.heap.size a N cap (0 + 2) _ hN (by omega) (unhide U1)).mono ?_
    rintro e w2 ⟨r, rfl, u2, k2⟩
    have U2 := hide u2
    have K2 := hide ((unhide K1).trans k2)
    clear u2 k2 U1 K1
    go_wp2_with fail
    refine (sized_any w.heap.size a N cap (0 + 2 + 20) _ hN (by omega) (unhide U2)).mono ?_
    rintro e w3 ⟨s, rfl, u3, k3⟩
    have K3 := hide ((unhide K2).trans k3)
    clear u3 k3 U2 K2
    go_wp2
    go_ret2
    exact ⟨r, s, rfl, (unhide K3).draw⟩
  | false =>
    go_wp2_with fail
    refine (pick_any w.heap.size a N cap (0 + 2) 256 _ hN (by omega) (by omega) (by omega) (unhide U1)).mono ?_
    rintro e w2 ⟨r, rfl, _, _, u2, k2⟩
    have U2 := hide u2
    have K2 := hide ((unhide K1).trans k2)
    clear u2 k2 U1 K1
    go_wp2_with fail
    refine (pick_any w.heap.size a N cap (0 + 2 + 2) 256 _ hN (by omega) (by omega) (by omega) (unhide U2)).mono ?_
    rintro e w3 ⟨s, rfl, _, _, u3, k3⟩
    have K3 := hide ((unhide K2).trans k3)
    clear u3 k3 U2 K2
    go_wp2
    go_ret2
    exact ⟨r, s, rfl, (unhide K3).draw⟩
end Go.Proofs.Ytibmffdbhkaapaa
