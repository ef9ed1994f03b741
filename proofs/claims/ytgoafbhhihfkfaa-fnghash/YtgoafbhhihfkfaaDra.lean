/-
  Contracts: keys, blocks and texts that the model draws for AES.
-/
import Derived.Test.YtgoafbhhihfkfaaDrd
import Derived.Laws.Concat
namespace Go.Proofs.Ytgoafbhhihfkfaa
open Go.ChangeShapes Go.WideShapes Go.ChangeAt Go.RowKit
set_option linter.unusedVariables false

set_option maxRecDepth 100000 in
set_option maxHeartbeats 1000000 in
theorem block_any (cb : Nat) (a : Option Addr) (N cap P : Nat) (w : World) (hN : N ≤ 1048576) (hP : P ≤ 400000) (h : Cu w cb a N cap P) :
    Calls Try.prog 35 #[.pointer (some ⟨cb, 0, none⟩)] w fun e w' => ∃ t : ByteArray, e = .returned (.string t) ∧ t.size ≤ 17 ∧ Cu w' cb a N cap (P + 50) ∧ Kx cb w w' := by
  have HU := hide h
  clear h
  go_enter Try.func35, Try.ntmps35
  go_wp2_with fail
  refine (one_any cb a N cap P 30 _ hN (by omega) (by omega) (by omega) (unhide HU)).mono ?_
  rintro e w1 ⟨rb, rfl, u1, k1⟩
  have U1 := hide u1
  have K1 := hide k1
  clear u1 k1 HU
  cases rb with
  | true =>
    have hne : w1.heap.size ≠ cb := by have := (unhide U1).lt; omega
    have hx := lit_cells w1 [0, 15, 17] 3 (fun x => 0 ≤ x ∧ x ≤ 17) (by decide)
    have UA := hide ((unhide U1).alloc (.cells #[.int .i64 0, .int .i64 15, .int .i64 17] 3))
    have KA := hide ((unhide K1).alloc (.cells #[.int .i64 0, .int .i64 15, .int .i64 17] 3))
    have HX := hide hx
    clear hx U1 K1
    go_wp2_with fail
    refine (among_any cb a N cap (P + 2) w1.heap.size 3 3 (fun x => 0 ≤ x ∧ x ≤ 17) _ hN (by omega) (by omega) (by omega) (by simp) hne (unhide HX) (unhide UA)).mono ?_
    rintro e w3 ⟨r, rfl, ⟨h0, h1⟩, u3, k3⟩
    obtain ⟨m, rfl⟩ := Int.eq_ofNat_of_zero_le h0
    have U3 := hide u3
    have K3 := hide ((unhide KA).trans k3)
    clear u3 k3 UA KA HX
    go_wp2_with fail
    refine (sizedBytes_any cb a N cap (P + 2 + 2) m _ hN (by omega) (by omega) (unhide U3)).mono ?_
    rintro e w4 ⟨f, rfl, hf, hA, u4, k4⟩
    have hst := ar_string hA (fun i _ => hf i) m
    have U4 := hide (u4.mono (Q := P + 50) (by omega))
    have K4 := hide ((unhide K3).trans k4)
    have hsz := bq_le m 17 f (by omega)
    clear u4 k4 hA hf
    generalize bq m f = t at *
    go_wp2
    go_ret
    exact ⟨t, rfl, hsz, unhide U4, unhide K4⟩
  | false =>
    go_wp2_with fail
    refine (one_any cb a N cap (P + 2) 8 _ hN (by omega) (by omega) (by omega) (unhide U1)).mono ?_
    rintro e w2 ⟨rb, rfl, u2, k2⟩
    have U2 := hide u2
    have K2 := hide ((unhide K1).trans k2)
    clear u2 k2 U1 K1
    cases rb with
    | false =>
      go_wp2_with fail
      refine (sizedBytes_any cb a N cap (P + 2 + 2) 16 _ hN (by omega) (by omega) (unhide U2)).mono ?_
      rintro e w3 ⟨f, rfl, hf, hA, u3, k3⟩
      have hst := ar_string hA (fun i _ => hf i) 16
      have U3 := hide (u3.mono (Q := P + 50) (by omega))
      have K3 := hide ((unhide K2).trans k3)
      have hsz := bq_le 16 17 f (by omega)
      clear u3 k3 hA hf
      generalize bq 16 f = t at *
      go_wp2
      go_ret
      exact ⟨t, rfl, hsz, unhide U3, unhide K3⟩
    | true =>
      have hmk : (Instr.makeSlice 22 (.int .i64 16) (.int .i64 16)).run Try.prog w2 = .ok (.slice (some ⟨w2.heap.size, 0, none⟩) 16 16) (w2.alloc (.cells (us 16 fun _ => 0).toArray 5)) := mk_bytes 16 (by omega) w2
      have hst := ar_string (Ar.new w2 16 (fun _ => 0) 5) (fun i _ => by omega) 16
      have U3 := hide (((unhide U2).alloc (.cells (us 16 fun _ => 0).toArray 5)).mono (Q := P + 50) (by omega))
      have K3 := hide ((unhide K2).alloc (.cells (us 16 fun _ => 0).toArray 5))
      have hsz := bq_le 16 17 (fun _ => 0) (by omega)
      clear U2 K2
      generalize w2.alloc (.cells (us 16 fun _ => 0).toArray 5) = w3 at *
      generalize bq 16 (fun _ => 0) = t at *
      go_wp2
      go_ret
      exact ⟨t, rfl, hsz, unhide U3, unhide K3⟩
set_option maxRecDepth 100000 in
set_option maxHeartbeats 1000000 in
theorem drawAesBlock_any (a : Option Addr) (N cap : Nat) (w : World) (hN : N ≤ 1048576) (h : Cd w a N) :
    Calls Try.prog 25 #[.slice a N cap] w fun e w' => ∃ k b : ByteArray, e = .returned (.tuple #[.string k, .string b]) ∧ k.size ≤ 17 ∧ b.size ≤ 17 ∧ Below w.heap.size w w' := by
  have U0 := hide (cu_first cap 51 h)
  have hl := (unhide U0).lt
  clear h
  go_enter Try.func25, Try.ntmps25
  go_wp2_with fail
  refine (block_any w.heap.size a N cap 0 _ hN (by omega) (unhide U0)).mono ?_
  rintro e w1 ⟨k, rfl, hk, u1, k1⟩
  have U1 := hide u1
  have K1 := hide k1
  clear u1 k1 U0
  go_wp2_with fail
  refine (block_any w.heap.size a N cap (0 + 50) _ hN (by omega) (unhide U1)).mono ?_
  rintro e w2 ⟨b, rfl, hb, u2, k2⟩
  have K2 := hide ((unhide K1).trans k2)
  clear u2 k2 U1 K1
  go_wp2
  go_ret2
  exact ⟨k, b, rfl, hk, hb, (unhide K2).draw⟩
end Go.Proofs.Ytgoafbhhihfkfaa
