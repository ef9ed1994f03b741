/-
  Contracts: keys, texts and ids that the model draws.
-/
import Derived.Test.YtcedecmapgfkhaaDoorDrh
namespace Go.Proofs.YtcedecmapgfkhaaDoor
open Go.ChangeShapes Go.WideShapes Go.ChangeAt Go.RowKit
set_option linter.unusedVariables false

set_option maxRecDepth 100000 in
set_option maxHeartbeats 1000000 in
theorem drawHmac_any (a : Option Addr) (N cap : Nat) (w : World) (hN : N ≤ 1048576) (h : Cd w a N) :
    Calls Tryd.prog 14 #[.slice a N cap] w fun e w' => ∃ k t : ByteArray, e = .returned (.tuple #[.string k, .string t]) ∧ k.size ≤ 2001 ∧ t.size ≤ 120 ∧ Below w.heap.size w w' := by
  have U0 := hide (cu_first cap 52 h)
  clear h
  go_enter Tryd.func14, Tryd.ntmps14
  go_wp2_with fail
  refine (hashed_any w.heap.size a N cap 0 _ hN (by omega) (unhide U0)).mono ?_
  rintro e w1 ⟨k0, rfl, hk0, u1, k1⟩
  have U1 := hide u1
  have K1 := hide k1
  clear u1 k1 U0
  go_wp2_with fail
  refine (one_any w.heap.size a N cap (0 + 300) 40 _ hN (by omega) (by omega) (by omega) (unhide U1)).mono ?_
  rintro e w2 ⟨rb, rfl, u2, k2⟩
  have U2 := hide u2
  have K2 := hide ((unhide K1).trans k2)
  clear u2 k2 U1 K1
  cases rb with
  | false =>
    go_wp2_with fail
    refine (hashed_any w.heap.size a N cap (0 + 300 + 2) _ hN (by omega) (unhide U2)).mono ?_
    rintro e w3 ⟨t, rfl, ht, u3, k3⟩
    have K3 := hide ((unhide K2).trans k3)
    clear u3 k3 U2 K2
    go_wp2
    go_ret2
    exact ⟨k0, t, rfl, by omega, ht, (unhide K3).draw⟩
  | true =>
    go_wp2_with fail
    refine (pick_any w.heap.size a N cap (0 + 300 + 2) 2 _ hN (by omega) (by omega) (by omega) (unhide U2)).mono ?_
    rintro e w3 ⟨r, rfl, hr0, hr1, u3, k3⟩
    obtain ⟨m, rfl⟩ := Int.eq_ofNat_of_zero_le hr0
    have hmk : (Instr.makeSlice 22 (.int .i64 (2000 + (m : Int))) (.int .i64 (2000 + (m : Int)))).run Tryd.prog w3 = .ok (.slice (some ⟨w3.heap.size, 0, none⟩) (2000 + m) (2000 + m)) (w3.alloc (.cells (us (2000 + m) fun _ => 0).toArray 5)) := by
      have h9 := mk_bytes (2000 + m) (by omega) w3
      rw [Int.natCast_add] at h9
      exact h9
    have hA := Ar.new w3 (2000 + m) (fun _ => 0) 5
    have hst := ar_string hA (fun i _ => by omega) (2000 + m)
    have K3 := hide (((unhide K2).trans k3).alloc (.cells (us (2000 + m) fun _ => 0).toArray 5))
    have U3 := hide (u3.alloc (.cells (us (2000 + m) fun _ => 0).toArray 5))
    have hsz := bq_le (2000 + m) 2001 (fun _ => 0) (by omega)
    generalize bq (2000 + m) (fun _ => 0) = k at *
    clear hA K2 u3 k3 U2
    go_wp2_with fail
    refine (hashed_any w.heap.size a N cap (0 + 300 + 2 + 2) _ hN (by omega) (unhide U3)).mono ?_
    rintro e w4 ⟨t, rfl, ht, u4, k4⟩
    have K4 := hide ((unhide K3).trans k4)
    clear u4 k4 U3 K3 hst hmk
    go_wp2
    go_ret2
    exact ⟨k, t, rfl, hsz, ht, (unhide K4).draw⟩
end Go.Proofs.YtcedecmapgfkhaaDoor
