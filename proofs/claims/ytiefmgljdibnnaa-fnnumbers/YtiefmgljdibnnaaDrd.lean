/-
  Contracts: secrets, infos, numbers and ids that the model draws; a number of bytes.
-/
import Derived.Test.YtiefmgljdibnnaaDrh
namespace Go.Proofs.Ytiefmgljdibnnaa
open Go.ChangeShapes Go.WideShapes Go.ChangeAt Go.RowKit
set_option linter.unusedVariables false

set_option maxRecDepth 100000 in
set_option maxHeartbeats 1000000 in
theorem id_any (cb : Nat) (a : Option Addr) (N cap P : Nat) (w : World) (hN : N ≤ 1048576) (hP : P ≤ 400000) (h : Cu w cb a N cap P) :
    Calls Try.prog 31 #[.pointer (some ⟨cb, 0, none⟩)] w fun e w' => ∃ t : ByteArray, e = .returned (.string t) ∧ t.size ≤ 21 ∧ Cu w' cb a N cap (P + 60) ∧ Kx cb w w' := by
  have HU := hide h
  clear h
  go_enter Try.func31, Try.ntmps31
  go_wp2_with fail
  refine (pick_any cb a N cap P 10 _ hN (by omega) (by omega) (by omega) (unhide HU)).mono ?_
  rintro e w1 ⟨r, rfl, hr0, hr1, u1, k1⟩
  obtain ⟨n, rfl⟩ := Int.eq_ofNat_of_zero_le hr0
  have U1 := hide u1
  have K1 := hide k1
  clear u1 k1 HU
  go_wp2_with fail
  refine (one_any cb a N cap (P + 2) 12 _ hN (by omega) (by omega) (by omega) (unhide U1)).mono ?_
  rintro e w2 ⟨rb, rfl, u2, k2⟩
  have U2 := hide u2
  have K2 := hide ((unhide K1).trans k2)
  clear u2 k2 U1 K1
  cases rb with
  | false =>
    go_wp2_with fail
    refine (sizedBytes_any cb a N cap (P + 2 + 2) n _ hN (by omega) (by omega) (unhide U2)).mono ?_
    rintro e w3 ⟨f, rfl, hf, hA, u3, k3⟩
    have hst := ar_string hA (fun i _ => hf i) n
    have U3 := hide (u3.mono (Q := P + 60) (by omega))
    have K3 := hide ((unhide K2).trans k3)
    have hsz := bq_le n 21 f (by omega)
    clear u3 k3 hA hf
    generalize bq n f = t at *
    go_wp2
    go_ret
    exact ⟨t, rfl, hsz, unhide U3, unhide K3⟩
  | true =>
    have hne : w2.heap.size ≠ cb := by have := (unhide U2).lt; omega
    have hx := lit_cells w2 [20, 21, 0] 3 (fun x => 0 ≤ x ∧ x ≤ 21) (by decide)
    have UA := hide ((unhide U2).alloc (.cells #[.int .i64 20, .int .i64 21, .int .i64 0] 3))
    have KA := hide ((unhide K2).alloc (.cells #[.int .i64 20, .int .i64 21, .int .i64 0] 3))
    have HX := hide hx
    clear hx U2 K2
    go_wp2_with fail
    refine (among_any cb a N cap (P + 2 + 2) w2.heap.size 3 3 (fun x => 0 ≤ x ∧ x ≤ 21) _ hN (by omega) (by omega) (by omega) (by simp) hne (unhide HX) (unhide UA)).mono ?_
    rintro e w3 ⟨r, rfl, ⟨h0, h1⟩, u3, k3⟩
    obtain ⟨m, rfl⟩ := Int.eq_ofNat_of_zero_le h0
    have U3 := hide u3
    have K3 := hide ((unhide KA).trans k3)
    clear u3 k3 UA KA HX
    go_wp2_with fail
    refine (sizedBytes_any cb a N cap (P + 2 + 2 + 2) m _ hN (by omega) (by omega) (unhide U3)).mono ?_
    rintro e w4 ⟨f, rfl, hf, hA, u4, k4⟩
    have hst := ar_string hA (fun i _ => hf i) m
    have U4 := hide (u4.mono (Q := P + 60) (by omega))
    have K4 := hide ((unhide K3).trans k4)
    have hsz := bq_le m 21 f (by omega)
    clear u4 k4 hA hf
    generalize bq m f = t at *
    go_wp2
    go_ret
    exact ⟨t, rfl, hsz, unhide U4, unhide K4⟩
set_option maxRecDepth 100000 in
set_option maxHeartbeats 1000000 in
theorem numberOf_any (a : Option Addr) (N cap : Nat) (w : World) (hN : N ≤ 1048576) (h : Cd w a N) :
    Calls Try.prog 11 #[.slice a N cap] w fun e w' => ∃ r : Nat, e = .returned (.int .i64 r) ∧ r < 1000003 ∧ Below w.heap.size w w' := by
  have HC := hide h
  clear h
  go_enter Try.func11, Try.ntmps11
  go_wp2_with fail
  go_loopw [3, 8] (fun nv iv wr => ∃ k r : Nat, k ≤ N ∧ iv = .int .i64 k ∧ nv = .int .i64 r ∧ r < 1000003 ∧ wr = w) (fun _ iv _ => N - (intOf iv).toNat)
  case atStart => exact ⟨0, 0, by omega, rfl, rfl, by omega, rfl⟩
  case round =>
    obtain ⟨k, r, hk, rfl, rfl, hr, hww⟩ := hrel
    obtain rfl := hww.symm
    by_cases hlt : k < N
    · rcases unhide HC with h0 | ⟨b, off, rfl, hl, hx⟩
      · omega
      · obtain ⟨x, hx0, hx1⟩ := hx k hlt
        clear hx HC
        go_wp2
        exact ⟨⟨k + 1, (31 * r + x) % 1000003, by omega, by go_num, by congr 1, Nat.mod_lt _ (by omega), trivial⟩, by simp [intOf]; omega⟩
    · obtain rfl : k = N := by omega
      clear HC
      go_wp2
      go_ret
      exact ⟨r, rfl, hr, Below.refl _ _⟩
end Go.Proofs.Ytiefmgljdibnnaa
