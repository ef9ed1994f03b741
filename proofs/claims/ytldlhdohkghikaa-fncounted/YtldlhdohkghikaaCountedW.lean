/-
  The law on counted texts that are drawn, walked.
-/
import Derived.Test.YtldlhdohkghikaaDra
import Derived.Test.YtldlhdohkghikaaLcc
namespace Go.Proofs.Ytldlhdohkghikaa.fnCounted
open Go.ChangeShapes Go.WideShapes Go.ChangeAt Go.RowKit
set_option linter.unusedVariables false

theorem cv_lt (k s : ByteArray) (i : Nat) : cvW (rk (at8 k)) (at8 s) i < 256 :=
  fw_lt (rk (at8 k)) _ (fun n i => rk_lt (at8 k) (at8_lt k) n i) (plB_lt _ (at8_lt s) _) 10 _
theorem at8_ct (k s t : ByteArray) (i : Nat) (hi : i < t.size) : at8 (ctW k s t) i = at8 t i ^^^ cvW (rk (at8 k)) (at8 s) i :=
  at8_bq t.size (fun i => at8 t i ^^^ cvW (rk (at8 k)) (at8 s) i) i hi (xor_lt _ _ (at8_lt t i) (cv_lt k s i))
theorem ct_twice (k s t : ByteArray) : ctW k s (ctW k s t) = t := by
  have h : ctW k s (ctW k s t) = bq t.size (at8 t) := by
    show bq (ctW k s t).size _ = _
    rw [ctW_size]
    refine bq_congr fun i hi => ?_
    rw [at8_ct k s t i hi, Nat.xor_assoc, Nat.xor_self, Nat.xor_zero]
  rw [h, bq_at8]
theorem ct_take (k s t : ByteArray) (n : Nat) (hn : n ≤ t.size) : ctW k s (t.extract 0 n) = (ctW k s t).extract 0 n := by
  have h1 : (t.extract 0 n).size = n := by rw [ByteArray.size_extract]; omega
  have h2 : ((ctW k s t).extract 0 n).size = n := by rw [ByteArray.size_extract, ctW_size]; omega
  rw [← bq_at8 ((ctW k s t).extract 0 n), h2]
  show bq (t.extract 0 n).size _ = _
  rw [h1]
  refine bq_congr fun i hi => ?_
  rw [at8_extract t 0 n i hn (by omega), at8_extract (ctW k s t) 0 n i (by rw [ctW_size]; exact hn) (by omega), Nat.zero_add, at8_ct k s t i (by omega)]
set_option maxRecDepth 100000 in
set_option maxHeartbeats 1000000 in
theorem walk_in (a : Option Addr) (N cap : Nat) (b : Option Addr) (M cap2 : Nat) (w : World) (hN : N + M ≤ 1048576) (hC : Cd w a N) (hC2 : Cd w b M) :
    Calls Try.prog 4 #[.slice a N cap, .slice b M cap2] w fun e w' => e = .returned (.bool true) ∧ Below w.heap.size w w' := by
  have HCD := hide hC
  have HCE := hide hC2
  clear hC hC2
  go_enter Try.func4, Try.ntmps4
  go_wp2_with fail
  refine (drawAesCounter_any a N cap _ (by omega) (unhide HCD)).mono ?_
  rintro e w1 ⟨k, st, t, rfl, hk, hs, ht, b1⟩
  have B1 := hide b1
  have C1 := hide ((unhide HCE).below b1)
  clear b1 HCD HCE
  by_cases hok : k.size = 16 ∧ st.size = 16
  · have hok3 : k.size = 16 ∧ st.size = 16 ∧ t.size ≤ 1500 := ⟨hok.1, hok.2, by omega⟩
    have HI := hide (fun W => implAC_ok k st t hok3 W)
    have HS := hide (fun W => specAC_ok k st t hok3 W)
    have H2 := hide (fun W => implAC_ok k st (ctW k st t) ⟨hok.1, hok.2, by rw [ctW_size]; omega⟩ W)
    rw [ct_twice] at H2
    have H3 : Hid (∀ q : Nat, q ≤ t.size → ∀ W, Calls Try.prog 16 #[.string k, .string st, .string (t.extract 0 q)] W fun e w' => e = .returned (.tuple #[.string ((ctW k st t).extract 0 q), .bool true]) ∧ Below W.heap.size W w') := fun q hq W => by
      have h9 := implAC_ok k st (t.extract 0 q) ⟨hok.1, hok.2, by rw [ByteArray.size_extract]; omega⟩ W
      rw [ct_take k st t q hq] at h9
      exact h9
    have hsz := ctW_size k st t
    generalize ctW k st t = o at *
    clear hok3
    go_wp2_with fail
    refine (unhide HI _).mono ?_
    rintro e w2 ⟨rfl, b2⟩
    have B2 := hide ((unhide B1).trans (b2.mono (unhide B1).size))
    have C2 := hide ((unhide C1).below b2)
    clear b2 B1 C1 HI
    go_wp2_with fail
    refine (unhide HS _).mono ?_
    rintro e w3 ⟨rfl, b3⟩
    have B3 := hide ((unhide B2).trans (b3.mono (unhide B2).size))
    have C3 := hide ((unhide C2).below b3)
    clear b3 B2 C2 HS
    go_wp2_with fail
    refine (unhide H2 _).mono ?_
    rintro e w4 ⟨rfl, b4⟩
    have B4 := hide ((unhide B3).trans (b4.mono (unhide B3).size))
    have C4 := hide ((unhide C3).below b4)
    clear b4 B3 C3 H2
    go_wp2_with fail
    refine (numberOf_any b M cap2 _ (by omega) (unhide C4)).mono ?_
    rintro e w5 ⟨r, rfl, hr, b5⟩
    have B5 := hide ((unhide B4).trans (b5.mono (unhide B4).size))
    clear b5 B4 C4
    obtain ⟨q, hq⟩ : ∃ q : Nat, q = r % (t.size + 1) := ⟨_, rfl⟩
    have hqm : q ≤ t.size := by rw [hq]; have := Nat.mod_lt r (show 0 < t.size + 1 by omega); omega
    have hq2 : (r : Int) % ((t.size : Int) + 1) = (q : Int) := by rw [hq]; simp
    have H4 := hide (unhide H3 q hqm)
    have HQ := hide hq
    have q1 : (q : Int) ≤ (t.size : Int) := by omega
    have q2 : (q : Int) ≤ (o.size : Int) := by omega
    have q3 : q ≤ o.size := by omega
    clear hq H3
    go_wp2_with fail
    refine (unhide H4 _).mono ?_
    rintro e w6 ⟨rfl, b6⟩
    have B6 := hide ((unhide B5).trans (b6.mono (unhide B5).size))
    clear b6 B5 H4
    go_wp2
    go_ret
    exact ⟨rfl, unhide B6⟩
  · have HI := hide (fun W => implAC_no k st t (fun x => hok ⟨x.1, x.2.1⟩) (by omega) (by omega) (by omega) W)
    have HS := hide (fun W => specAC_no k st t (fun x => hok ⟨x.1, x.2.1⟩) (by omega) (by omega) (by omega) W)
    go_wp2_with fail
    refine (unhide HI _).mono ?_
    rintro e w2 ⟨rfl, b2⟩
    have B2 := hide ((unhide B1).trans (b2.mono (unhide B1).size))
    clear b2 B1 C1 HI
    go_wp2_with fail
    refine (unhide HS _).mono ?_
    rintro e w3 ⟨rfl, b3⟩
    have B3 := hide ((unhide B2).trans (b3.mono (unhide B2).size))
    clear b3 B2 HS
    go_wp2
    go_ret
    exact ⟨rfl, unhide B3⟩
theorem walk (a : Option Addr) (N cap : Nat) (b : Option Addr) (M cap2 : Nat) (w : World) (hN : N ≤ 140737488355328) (hM : M ≤ 140737488355328) (hC : Cd w a N) (hC2 : Cd w b M) :
    Calls Try.prog 4 #[.slice a N cap, .slice b M cap2] w fun e w' => e = .returned (.bool true) ∧ Below w.heap.size w w' := by
  by_cases hl : (1048576 : Int) < (N : Int) + (M : Int)
  · go_enter Try.func4, Try.ntmps4
    go_wp2
    go_ret
    exact ⟨rfl, Below.refl _ _⟩
  · exact walk_in a N cap b M cap2 w (by omega) hC hC2
end Go.Proofs.Ytldlhdohkghikaa.fnCounted
