/-
  Contracts: what is drawn for chapter 5.
-/
import Derived.Test.YtgoafbhhihfkfaaDra
namespace Go.Proofs.Ytgoafbhhihfkfaa
open Go.ChangeShapes Go.WideShapes Go.ChangeAt Go.RowKit
set_option linter.unusedVariables false

set_option maxRecDepth 100000 in
set_option maxHeartbeats 1000000 in
theorem drawGhash_any (a : Option Addr) (N cap : Nat) (w : World) (hN : N ≤ 1048576) (h : Cd w a N) :
    Calls Try.prog 13 #[.slice a N cap] w fun e w' => ∃ k t : ByteArray, e = .returned (.tuple #[.string k, .string t]) ∧ k.size ≤ 17 ∧ t.size ≤ 3216 ∧ Below w.heap.size w w' := by
  have U0 := hide (cu_first cap 51 h)
  have hl := (unhide U0).lt
  clear h
  go_enter Try.func13, Try.ntmps13
  go_wp2_with fail
  refine (pick_any w.heap.size a N cap 0 4 _ hN (by omega) (by omega) (by omega) (unhide U0)).mono ?_
  rintro e w1 ⟨r, rfl, hr0, hr1, u1, k1⟩
  obtain ⟨n0, rfl⟩ := Int.eq_ofNat_of_zero_le hr0
  have U1 := hide (u1.mono (Q := 2) (by omega))
  have K1 := hide k1
  obtain ⟨n, hn⟩ : ∃ n : Nat, n = 16 * n0 := ⟨_, rfl⟩
  have hnI : 16 * (n0 : Int) = (n : Int) := by omega
  have hnl : n ≤ 3216 := by omega
  clear u1 k1 U0 hn
  go_wp2_with fail
  refine (one_any w.heap.size a N cap 2 12 _ hN (by omega) (by omega) (by omega) (unhide U1)).mono ?_
  rintro e w2 ⟨rb, rfl, u2, k2⟩
  have U2 := hide u2
  have K2 := hide ((unhide K1).trans k2)
  clear u2 k2 U1 K1
  cases rb with
  | false =>
    have hd : Below w2.heap.size w2 w2.drew := (Below.refl _ _).drew
    have HBK := hide (block_any w.heap.size a N cap (2 + 2) w2.drew hN (by omega) ((unhide U2).same hd))
    have K2d := hide ((unhide K2).drew)
    clear U2 K2 hd
    go_wp2_with fail
    go_region_with (first
      | (go_at_call 35; with_reducible refine (unhide HBK).mono ?_; rintro e w3 ⟨k, rfl, hk, u3, k3⟩; have U3 := hide u3; clear u3)
      | (go_at_call 36; with_reducible refine (sizedBytes_any w.heap.size a N cap (2 + 2 + 50) n _ hN (by omega) (by omega) (unhide U3)).mono ?_; rintro e w5 ⟨f, rfl, hf, hA, u5, k5⟩; have hst := ar_string hA (fun i _ => hf i) n; have hsz := bq_le n 3216 f (by omega); clear u5 hA hf; generalize bq n f = t at *))
    all_goals
      have K5 := hide (((unhide K2d).trans k3).trans k5)
      clear k3 k5 K2d HBK
      go_wp2
      go_ret2
      exact ⟨k, t, rfl, hk, hsz, (unhide K5).draw⟩
  | true =>
    have hne : w2.heap.size ≠ w.heap.size := by have := (unhide U2).lt; omega
    have hx := lit_cells w2 [8, 3200, 3216] 3 (fun x => 0 ≤ x ∧ x ≤ 3216) (by decide)
    have UA := hide ((unhide U2).alloc (.cells #[.int .i64 8, .int .i64 3200, .int .i64 3216] 3))
    have KA := hide ((unhide K2).alloc (.cells #[.int .i64 8, .int .i64 3200, .int .i64 3216] 3))
    have HX := hide hx
    clear hx U2 K2
    go_wp2_with fail
    refine (among_any w.heap.size a N cap (2 + 2) w2.heap.size 3 3 (fun x => 0 ≤ x ∧ x ≤ 3216) _ hN (by omega) (by omega) (by omega) (by simp) hne (unhide HX) (unhide UA)).mono ?_
    rintro e w4 ⟨r, rfl, ⟨h0, h1⟩, u4, k4⟩
    obtain ⟨m, rfl⟩ := Int.eq_ofNat_of_zero_le h0
    have U2 := hide u4
    have K2 := hide ((unhide KA).trans k4)
    clear u4 k4 UA KA HX
    have hd : Below w4.heap.size w4 w4.drew := (Below.refl _ _).drew
    have HBK := hide (block_any w.heap.size a N cap (2 + 2 + 2) w4.drew hN (by omega) ((unhide U2).same hd))
    have K2d := hide ((unhide K2).drew)
    clear U2 K2 hd
    go_wp2_with fail
    go_region_with (first
      | (go_at_call 35; with_reducible refine (unhide HBK).mono ?_; rintro e w3 ⟨k, rfl, hk, u3, k3⟩; have U3 := hide u3; clear u3)
      | (go_at_call 36; with_reducible refine (sizedBytes_any w.heap.size a N cap (2 + 2 + 2 + 50) m _ hN (by omega) (by omega) (unhide U3)).mono ?_; rintro e w5 ⟨f, rfl, hf, hA, u5, k5⟩; have hst := ar_string hA (fun i _ => hf i) m; have hsz := bq_le m 3216 f (by omega); clear u5 hA hf; generalize bq m f = t at *))
    all_goals
      have K5 := hide (((unhide K2d).trans k3).trans k5)
      clear k3 k5 K2d HBK
      go_wp2
      go_ret2
      exact ⟨k, t, rfl, hk, hsz, (unhide K5).draw⟩
end Go.Proofs.Ytgoafbhhihfkfaa
