/-
  Contracts: what is derived, the model's.
-/
import Derived.Test.YtlphaciboaicgaaDoorLhm
import Derived.Test.YtlphaciboaicgaaDoorDvw
namespace Go.Proofs.YtlphaciboaicgaaDoor
open Go.ChangeShapes Go.WideShapes Go.ChangeAt Go.RowKit
set_option linter.unusedVariables false

set_option maxRecDepth 100000 in
set_option maxHeartbeats 1000000 in
theorem specExpandTo (secret info : ByteArray) (n : Nat) (hs : secret.size ≤ 5000) (hi : info.size ≤ 1000) (hn : n ≤ 255) (w : World) (hb gw cw gf cf : Nat) (h : L4 w hb gw cw gf cf) :
    Calls Tryd.prog 14 #[.pointer (some ⟨hb, 0, none⟩), .string secret, .string info, .int .i64 n] w fun e w' => e = .returned (.string (bq n (dvW secret info))) ∧ Below w.heap.size w w' := by
  have H := hide h
  clear h
  go_enter Tryd.func14, Tryd.ntmps14
  have HX := hide (fun (x : ByteArray) (hx : x.size ≤ 5000) W (h : L4 W hb gw cw gf cf) => specHmac secret x hs hx W hb gw cw gf cf h)
  have HF : Hid (∀ k : Nat, k ≤ 8 → ∀ W, Calls Tryd.prog 15 #[.int .i64 ((k : Int) + 1), .int .i64 1] W fun e w' => e = .returned (.string (b1W (k + 1))) ∧ Below W.heap.size W w') := fun k hk W => by
    have h9 := specFixed (k + 1) 1 (by omega) (by omega) W
    rw [Int.natCast_add] at h9
    have e9 : bq 1 (fun i => byW (k + 1) (1 - 1 - i)) = b1W (k + 1) := bq_congr fun i hi => by
      obtain rfl : i = 0 := by omega
      show byW (k + 1) 0 = (k + 1) % 256
      unfold byW
      simp
    rw [e9] at h9
    exact h9
  have HT1 := hide (fun k => tW_le secret info k)
  have HT2 : Hid (∀ k, hmW secret (tW secret info k ++ info ++ b1W (k + 1)) = tW secret info (k + 1)) := fun k => rfl
  have HDA := hide (fun k => dv_add secret info k)
  have HDT := hide (fun k (hk : n ≤ 32 * k) => bq_take (32 * k) n (dvW secret info) hk (dvW_lt secret info))
  have HSZ := hide (fun k => bq_size (32 * k) (dvW secret info))
  have HB1 : Hid (∀ k, (b1W k).size = 1) := fun k => bq_size _ _
  go_wp2_with fail
  go_loopw [9, 10, 11] (fun ov tv iv wx => ∃ k : Nat, k ≤ 8 ∧ ov = .string (bq (32 * k) (dvW secret info)) ∧ tv = .string (tW secret info k) ∧ iv = .int .i64 ((k : Int) + 1) ∧ L4 wx hb gw cw gf cf ∧ Below w.heap.size w wx) (fun _ _ iv _ => 300 - (intOf iv).toNat)
  case atStart => exact ⟨0, by omega, rfl, rfl, rfl, unhide H, Below.refl _ _⟩
  case round =>
    obtain ⟨k, hk, rfl, rfl, rfl, hL, hB⟩ := hrel
    have hz := unhide HSZ k
    by_cases hlt : 32 * k < n
    · have ht := unhide HT1 k
      have hb1 := unhide HB1 (k + 1)
      have hz2 := unhide HSZ (k + 1)
      have htz := tW_size secret info k
      have ad1 := fun W : World => run_string_add_sum (P := Tryd.prog) (w := W) (tW secret info k) info (by omega)
      have ad2 := fun W : World => run_string_add_sum (P := Tryd.prog) (w := W) (tW secret info k ++ info) (b1W (k + 1)) (by rw [ByteArray.size_append]; omega)
      have ad3 := fun W : World => run_string_add_sum (P := Tryd.prog) (w := W) (bq (32 * k) (dvW secret info)) (tW secret info (k + 1)) (by omega)
      rw [unhide HDA k] at ad3
      have HM := hide (unhide HX (tW secret info k ++ info ++ b1W (k + 1)) (by rw [ByteArray.size_append, ByteArray.size_append]; omega))
      rw [unhide HT2 k] at HM
      have HF1 := hide (unhide HF k hk)
      have L0 := hide hL
      have B0 := hide hB
      have hlt2 : ((bq (32 * k) (dvW secret info)).size : Int) < (n : Int) := by rw [hz]; omega
      clear hL hB hz hz2 htz ht hb1 HX HF HT1 HT2 HDA HDT HSZ HB1 H
      generalize tW secret info k ++ info ++ b1W (k + 1) = x2 at *
      generalize tW secret info k ++ info = x1 at *
      generalize b1W (k + 1) = y1 at *
      generalize hq1 : tW secret info (k + 1) = t2 at *
      have HQ1 := hide hq1
      clear hq1
      generalize tW secret info k = t1 at *
      generalize hq2 : bq (32 * (k + 1)) (dvW secret info) = o2 at *
      have HQ2 := hide hq2
      clear hq2
      generalize bq (32 * k) (dvW secret info) = o1 at *
      go_wp2_with fail
      refine (unhide HF1 _).mono ?_
      rintro e w1 ⟨rfl, b1⟩
      have L1 := hide ((unhide L0).kept b1)
      have B1 := hide ((unhide B0).trans (b1.mono (unhide B0).size))
      clear b1
      go_wp2_with fail
      refine (unhide HM _ (unhide L1)).mono ?_
      rintro e w2 ⟨rfl, b2⟩
      have L2 := hide ((unhide L1).kept b2)
      have B2 := hide ((unhide B1).trans (b2.mono (unhide B1).size))
      clear b2
      go_wp2
      exact ⟨⟨k + 1, by omega, by rw [unhide HQ2], by rw [unhide HQ1], by go_num, unhide L2, unhide B2⟩, by simp [intOf]; omega⟩
    · have hdt := unhide HDT k (by omega)
      have hnl : ¬ ((bq (32 * k) (dvW secret info)).size : Int) < (n : Int) := by rw [hz]; omega
      have hnl2 : (n : Int) ≤ ((bq (32 * k) (dvW secret info)).size : Int) := by rw [hz]; omega
      have hnl3 : n ≤ (bq (32 * k) (dvW secret info)).size := by omega
      have B0 := hide hB
      have HDT2 := hide hdt
      clear hL hB hz HX HF HT1 HT2 HDA HDT HSZ HB1 H hdt
      generalize bq (32 * k) (dvW secret info) = o1 at *
      go_wp2
      go_ret
      exact ⟨by rw [← unhide HDT2]; rfl, unhide B0⟩
end Go.Proofs.YtlphaciboaicgaaDoor
