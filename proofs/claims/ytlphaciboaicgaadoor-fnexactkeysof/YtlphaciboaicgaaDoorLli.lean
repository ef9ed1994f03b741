/-
  Contracts: what a label tells, the model's.
-/
import Derived.Test.YtlphaciboaicgaaDoorLex
import Derived.Test.YtlphaciboaicgaaDoorIli
namespace Go.Proofs.YtlphaciboaicgaaDoor
open Go.ChangeShapes Go.WideShapes Go.ChangeAt Go.RowKit
set_option linter.unusedVariables false

theorem li_pieces (label : ByteArray) (n : Nat) (hl : label.size ≤ 100) (hn : n ≤ 255) :
    bq 2 (fun i => byW n (2 - 1 - i)) ++ bq 1 (fun i => byW (6 + label.size) (1 - 1 - i)) ++ (mkT ++ label) ++ (⟨#[0]⟩ : ByteArray) = liW label n := by
  have p1 : bq 2 (fun i => byW n (2 - 1 - i)) = bq 2 (liB label 0 n) := bq_congr fun i hi => by
    have h2 : i = 0 ∨ i = 1 := by omega
    rcases h2 with rfl | rfl
    · show byW n 1 = 0
      unfold byW
      omega
    · show byW n 0 = n
      unfold byW
      omega
  have p2 : bq 1 (fun i => byW (6 + label.size) (1 - 1 - i)) = bq 1 (fun i => liB label 0 n (2 + i)) := bq_congr fun i hi => by
    obtain rfl : i = 0 := by omega
    show byW (6 + label.size) 0 = 6 + label.size
    unfold byW
    omega
  have p3 : mkT ++ label = bq (6 + label.size) (fun i => liB label 0 n (2 + 1 + i)) := by
    have h := bq_at8 (mkT ++ label)
    have hs : (mkT ++ label).size = 6 + label.size := by rw [ByteArray.size_append]; rfl
    rw [hs] at h
    rw [← h]
    refine bq_congr fun i hi => ?_
    rw [at8_append, show mkT.size = 6 from rfl]
    unfold liB
    by_cases h6 : i < 6
    · rw [if_pos h6, if_neg (by omega), if_pos (by omega)]
      congr 1
      omega
    · rw [if_neg h6, if_neg (by omega), if_neg (by omega), if_pos (by omega)]
      congr 1
      omega
  have p4 : (⟨#[0]⟩ : ByteArray) = bq 1 (fun i => liB label 0 n (2 + 1 + (6 + label.size) + i)) := by
    rw [bq_congr (g := fun _ => 0) (fun i hi => by
      unfold liB
      rw [if_neg (by omega), if_neg (by omega), if_neg (by omega)])]
    rfl
  rw [p1, p2, p3, p4, bq_append 2 1, bq_append (2 + 1) (6 + label.size), bq_append (2 + 1 + (6 + label.size)) 1]
  unfold liW
  congr 1
  omega
set_option maxRecDepth 100000 in
set_option maxHeartbeats 1000000 in
theorem specLabelTo (secret label : ByteArray) (n : Nat) (hs : secret.size ≤ 5000) (hl : label.size ≤ 100) (hn : n ≤ 255) (w : World) (hb gw cw gf cf : Nat) (h : L4 w hb gw cw gf cf) :
    Calls Tryd.prog 11 #[.pointer (some ⟨hb, 0, none⟩), .string secret, .string label, .int .i64 n] w fun e w' => e = .returned (.string (bq n (dvW secret (liW label n)))) ∧ Below w.heap.size w w' := by
  have H := hide h
  clear h
  have hsz : (mkT ++ label).size = 6 + label.size := by rw [ByteArray.size_append]; rfl
  have HF2 := hide (fun W => specFixed n 2 (by omega) (by omega) W)
  have HF1 : Hid (∀ W, Calls Tryd.prog 15 #[.int .i64 (((mkT ++ label).size : Nat) : Int), .int .i64 1] W fun e w' => e = .returned (.string (bq 1 (fun i => byW (6 + label.size) (1 - 1 - i)))) ∧ Below W.heap.size W w') := fun W => by
    rw [hsz]
    exact specFixed (6 + label.size) 1 (by omega) (by omega) W
  have HX := hide (fun W (h : L4 W hb gw cw gf cf) => specExpandTo secret (liW label n) n hs (by rw [liW_size]; omega) hn W hb gw cw gf cf h)
  have ad1 := fun W : World => run_string_add_sum (P := Tryd.prog) (w := W) (bq 2 (fun i => byW n (2 - 1 - i))) (bq 1 (fun i => byW (6 + label.size) (1 - 1 - i))) (by rw [bq_size, bq_size]; omega)
  have ad2 := fun W : World => run_string_add_sum (P := Tryd.prog) (w := W) (bq 2 (fun i => byW n (2 - 1 - i)) ++ bq 1 (fun i => byW (6 + label.size) (1 - 1 - i))) (mkT ++ label) (by rw [hsz, ByteArray.size_append, bq_size, bq_size]; omega)
  have ad3 := fun W : World => run_string_add_sum (P := Tryd.prog) (w := W) (bq 2 (fun i => byW n (2 - 1 - i)) ++ bq 1 (fun i => byW (6 + label.size) (1 - 1 - i)) ++ (mkT ++ label)) ⟨#[0]⟩ (by rw [ByteArray.size_append, hsz, ByteArray.size_append, bq_size, bq_size]; show _ + 1 ≤ _; omega)
  rw [li_pieces label n hl hn] at ad3
  go_enter Tryd.func11, Tryd.ntmps11
  generalize bq 2 (fun i => byW n (2 - 1 - i)) ++ bq 1 (fun i => byW (6 + label.size) (1 - 1 - i)) ++ (mkT ++ label) = x2 at ad2 ad3
  generalize bq 2 (fun i => byW n (2 - 1 - i)) ++ bq 1 (fun i => byW (6 + label.size) (1 - 1 - i)) = x1 at ad1 ad2
  generalize bq 1 (fun i => byW (6 + label.size) (1 - 1 - i)) = y1 at ad1 HF1
  generalize bq 2 (fun i => byW n (2 - 1 - i)) = y2 at ad1 HF2
  have HAD := hide (And.intro ad1 (And.intro ad2 ad3))
  clear ad1 ad2 ad3 hsz
  go_wp2_with fail
  rw [show ((⟨#[116, 108, 115, 49, 51, 32]⟩ : ByteArray) ++ label) = mkT ++ label from rfl]
  obtain ⟨ad1, ad2, ad3⟩ := unhide HAD
  clear HAD
  generalize mkT ++ label = nm at *
  generalize hli : liW label n = li at *
  have HLI := hide hli
  clear hli
  refine (unhide HF2 _).mono ?_
  rintro e w1 ⟨rfl, b1⟩
  have L1 := hide ((unhide H).kept b1)
  have B1 := hide b1
  clear b1
  go_wp2_with fail
  refine (unhide HF1 _).mono ?_
  rintro e w2 ⟨rfl, b2⟩
  have L2 := hide ((unhide L1).kept b2)
  have B2 := hide ((unhide B1).trans (b2.mono (unhide B1).size))
  clear b2 L1 B1
  go_wp2_with fail
  refine (unhide HX _ (unhide L2)).mono ?_
  rintro e w3 ⟨rfl, b3⟩
  have B3 := hide ((unhide B2).trans (b3.mono (unhide B2).size))
  clear b3 L2 B2
  go_wp2
  go_ret
  exact ⟨by rw [unhide HLI]; rfl, unhide B3⟩
end Go.Proofs.YtlphaciboaicgaaDoor
