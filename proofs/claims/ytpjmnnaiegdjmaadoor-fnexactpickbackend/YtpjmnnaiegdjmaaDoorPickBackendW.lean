/-
  The law on PickBackend, walked.
-/
import Derived.Test.YtpjmnnaiegdjmaaDoorPks
namespace Go.Proofs.YtpjmnnaiegdjmaaDoor.fnExactPickBackend
open Go.ChangeShapes Go.WideShapes Go.ChangeAt Go.RowKit
set_option linter.unusedVariables false
set_option maxRecDepth 100000

theorem pbR_is (F : Nat → ByteArray) (n : Nat) (key : ByteArray) : ∃ (t : ByteArray) (r : Bool), pbR F n key = .tuple #[.string t, .bool r] := by
  unfold pbR
  by_cases h : 0 < n ∧ glB F n = true ∧ key.size ≤ 100
  · rw [if_pos h]; exact ⟨_, _, rfl⟩
  · rw [if_neg h]; exact ⟨_, _, rfl⟩
theorem Sn.ta {base : Nat} {w : World} {a : Option Addr} {L : List ByteArray} (h : Sn base w a L.length (tA L)) : Ta w a L := h.sa
set_option maxHeartbeats 2000000 in
theorem walk (a : Option Addr) (cap : Nat) (L : List ByteArray) (hm : L.length ≤ maxLen) (hz : ∀ i, i < L.length → (tA L i).size ≤ maxLen) (key : ByteArray) (hk : key.size ≤ maxLen) (w : World) (h : Ta w a L) (hT : Rt w) :
    Calls Tryd.prog 4 #[.slice a L.length cap, .string key] w fun e w' => e = .returned (.bool true) ∧ Below w.heap.size w w' := by
  have HZ := hide (szS_any a L.length cap (tA L) 1048576 w (by omega) hm hz h)
  unfold maxLen at hk
  by_cases l0 : (1048576 : Int) < key.size
  · go_enter Tryd.func4, Tryd.ntmps4
    go_wp2
    go_ret
    exact ⟨rfl, Below.refl _ _⟩
  have HH := hide h
  have HT := hide hT
  clear h hT hz hm
  go_enter Tryd.func4, Tryd.ntmps4
  go_wp2_with fail
  refine (unhide HZ).mono ?_
  rintro e w0 ⟨he, e0⟩
  subst w0
  rcases he with rfl | ⟨r, rfl, hr, hn, hs⟩
  · go_wp2
    go_ret
    exact ⟨rfl, Below.refl _ _⟩
  have hr0 : ¬ (r : Int) < 0 := by omega
  have HTo := hide (fun W (q : Below w.heap.size w W) => toS_any a L.length cap (tA L) W hn ((unhide HH).kept q))
  have H1 := hide (fun a' c' W (q : Sa W a' L.length (tA L)) => specPk a' L.length c' (tA L) key W hn hs (by omega) q)
  have H2 := hide (fun a' c' W (q : Ta W a' L) (t : Rt W) => implPk a' c' L key W hn hs (by omega) q t)
  clear HZ hs
  obtain ⟨t0, r0, e9⟩ := pbR_is (tA L) L.length key
  rw [e9] at H1 H2
  clear e9
  go_wp2_with fail
  refine (unhide HTo _ (Below.refl _ _)).mono ?_
  rintro e w1 ⟨rfl, s1, z1, b1⟩
  have B1 := hide b1
  have S1 := hide s1.sa
  clear s1 z1 b1
  go_wp2_with fail
  refine (unhide H1 _ _ _ (unhide S1)).mono ?_
  rintro e w2 ⟨rfl, b2⟩
  have B2 := hide ((unhide B1).trans (b2.mono (unhide B1).size))
  clear b2 S1
  go_wp2_with fail
  refine (unhide HTo _ (unhide B2)).mono ?_
  rintro e w3 ⟨rfl, s3, z3, b3⟩
  have B3 := hide ((unhide B2).trans (b3.mono (unhide B2).size))
  have S3 := hide s3.sa
  clear s3 z3 b3
  go_wp2_with fail
  refine (unhide H2 _ _ _ (unhide S3) ((unhide HT).kept (unhide B3))).mono ?_
  rintro e w4 ⟨rfl, b4⟩
  have B4 := hide ((unhide B3).trans (b4.mono (unhide B3).size))
  have S4 := hide ((unhide S3).kept b4)
  clear b4
  go_wp2_with fail
  refine (unhide HTo _ (unhide B4)).mono ?_
  rintro e w5 ⟨rfl, s5, z5, b5⟩
  have B5 := hide ((unhide B4).trans (b5.mono (unhide B4).size))
  have S5 := hide ((unhide S4).kept b5)
  have T5 := hide s5.sa
  clear s5 z5 b5
  go_wp2_with fail
  refine (eqS_same _ _ L.length L.length L.length (tA L) _ hn (unhide S5) (unhide T5)).mono ?_
  rintro e w6 ⟨rfl, b6⟩
  have B6 := hide ((unhide B5).trans (b6.mono (unhide B5).size))
  clear b6
  go_wp2
  go_ret
  exact ⟨rfl, unhide B6⟩
end Go.Proofs.YtpjmnnaiegdjmaaDoor.fnExactPickBackend
