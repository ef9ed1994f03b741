/-
  The law on PlayStream, walked out of the contracts of both sides.
-/
import Derived.Test.YtehkfbkofgkcjaaTgt4
import Derived.Test.YtehkfbkofgkcjaaInts
import Derived.Deep.DeepCutAuto
namespace Go.Proofs.Ytehkfbkofgkcjaa.Rc
open Go.ChangeShapes Go.WideShapes Go.ChangeAt Go.RowKit Go.Deep
set_option linter.unusedVariables false
set_option maxRecDepth 100000

/-- numbers that an int holds -/
def bvI (L : List Int) : Prop := ∀ k, k < L.length → -9223372036854775808 ≤ gt intK L k ∧ gt intK L k ≤ 9223372036854775807
theorem toI_any (a : Option Addr) (cap : Nat) (L : List Int) (w : World) (hn : L.length ≤ 1048576) (hv : bvI L) (h : Rd intK w a L) :
    Calls Try.prog 25 #[.slice a L.length cap] w fun e w' => ∃ g, e = .returned (.slice (some ⟨g, 0, none⟩) L.length L.length) ∧ Rd intK w' (some ⟨g, 0, none⟩) L ∧ Below w.heap.size w w' := by
  have h2 : Ia w a L.length cap (gt intK L) := by
    rcases h with rfl | ⟨b, o, rfl, hb, hc⟩
    · exact Or.inl rfl
    · exact Or.inr ⟨b, o, rfl, ⟨Or.inr hb, fun i hi => int_r hc hi, hv⟩⟩
  refine (toIntS_arg a L.length cap (gt intK L) w hn h2).mono ?_
  rintro e w' ⟨rfl, hr, hb⟩
  refine ⟨_, rfl, ?_, hb⟩
  rcases hr.lt with h0 | h0
  · exact Or.inl (List.length_eq_zero_iff.1 h0)
  · exact Or.inr ⟨_, _, rfl, h0, fun q hq => by rw [int_m] at hq; rw [int_c]; exact hr.cv q hq⟩
set_option maxHeartbeats 8000000 in
theorem playStream_given (d : ByteArray) (n : Int) (A2 A3 : List Int) (hv2 : bvI A2) (hv3 : bvI A3) (so : ByteArray) (sd sb : Bool) (w : World)
    (HS : d.size ≤ 1048576 → A2.length ≤ 1048576 → A3.length ≤ 1048576 → ∀ W a c a' c', Rd intK W a A2 → Rd intK W a' A3 → Calls Try.prog 24 #[.string d, .int .i64 n, .slice a A2.length c, .slice a' A3.length c'] W fun e w' => e = .returned (.tuple #[.string so, .bool sd, .bool sb]) ∧ Below W.heap.size W w')
    (HI : d.size ≤ 1048576 → A2.length ≤ 1048576 → A3.length ≤ 1048576 → ∀ W a c a' c', Rd intK W a A2 → Rd intK W a' A3 → Calls Try.prog 26 #[.string d, .int .i64 n, .slice a A2.length c, .slice a' A3.length c'] W fun e w' => e = .returned (.tuple #[.string so, .bool sd, .bool sb]) ∧ Below W.heap.size W w')
    (hm1 : d.size ≤ maxLen) (hm2 : A2.length ≤ maxLen) (hm3 : A3.length ≤ maxLen) (a2 : Option Addr) (c2 : Nat) (a3 : Option Addr) (c3 : Nat) (h2 : Rd intK w a2 A2) (h3 : Rd intK w a3 A3) :
    Calls Try.prog 6 #[.string d, .int .i64 n, .slice a2 A2.length c2, .slice a3 A3.length c3] w fun e w' => e = .returned (.bool true) ∧ Below w.heap.size w w' := by
  unfold maxLen at hm1 hm2 hm3
  by_cases q1 : d.size ≤ 1048576
  · have t1 : ¬ (1048576 : Int) < (d.size : Int) := by omega
    by_cases q2 : A2.length ≤ 1048576
    · have t2 : ¬ (1048576 : Int) < (A2.length : Int) := by omega
      by_cases q3 : A3.length ≤ 1048576
      · have t3 : ¬ (1048576 : Int) < (A3.length : Int) := by omega
        have HS := hide (HS q1 q2 q3)
        have HI := hide (HI q1 q2 q3)
        have T2 := hide (fun V (b : Below w.heap.size w V) => toI_any a2 c2 A2 V q2 hv2 (h2.below b))
        have T3 := hide (fun V (b : Below w.heap.size w V) => toI_any a3 c3 A3 V q3 hv3 (h3.below b))
        have E2 := hide (fun a c a' c' V (h : Rd intK V a A2) (h' : Rd intK V a' A2) => eqIntS_same a a' c c' A2 V q2 h h')
        have E3 := hide (fun a c a' c' V (h : Rd intK V a A3) (h' : Rd intK V a' A3) => eqIntS_same a a' c c' A3 V q3 h h')
        clear h2 h3 hv2 hv3
        go_enter Try.func6, Try.ntmps6
        go_wp2_with fail
        refine (unhide T2 w (Below.refl _ _)).mono ?_
        rintro e w1 ⟨g1, rfl, r1, b1⟩
        have R1 := hide r1
        have B1 := hide b1
        clear r1 b1
        go_wp2_with fail
        refine (unhide T3 w1 (unhide B1)).mono ?_
        rintro e w2 ⟨g2, rfl, r2, b2⟩
        have R12 := hide ((unhide R1).below b2)
        have R2 := hide r2
        have B2 := hide ((unhide B1).trans (b2.mono (unhide B1).size))
        clear r2 b2 R1 B1
        go_wp2_with fail
        refine (unhide HS w2 _ _ _ _ (unhide R12) (unhide R2)).mono ?_
        rintro e w3 ⟨rfl, b3⟩
        have B3 := hide ((unhide B2).trans (b3.mono (unhide B2).size))
        clear b3 R12 R2 B2
        go_wp2_with fail
        refine (unhide T2 w3 (unhide B3)).mono ?_
        rintro e w4 ⟨g4, rfl, r4, b4⟩
        have R4 := hide r4
        have B4 := hide ((unhide B3).trans (b4.mono (unhide B3).size))
        clear r4 b4 B3
        go_wp2_with fail
        refine (unhide T3 w4 (unhide B4)).mono ?_
        rintro e w5 ⟨g5, rfl, r5, b5⟩
        have R45 := hide ((unhide R4).below b5)
        have R5 := hide r5
        have B5 := hide ((unhide B4).trans (b5.mono (unhide B4).size))
        clear r5 b5 R4 B4
        go_wp2_with fail
        refine (unhide HI w5 _ _ _ _ (unhide R45) (unhide R5)).mono ?_
        rintro e w6 ⟨rfl, b6⟩
        have R46 := hide ((unhide R45).below b6)
        have R56 := hide ((unhide R5).below b6)
        have B6 := hide ((unhide B5).trans (b6.mono (unhide B5).size))
        clear b6 R45 R5 B5 HS HI
        go_wp2_with fail
        refine (unhide T2 w6 (unhide B6)).mono ?_
        rintro e w7 ⟨g7, rfl, r7, b7⟩
        have R47 := hide ((unhide R46).below b7)
        have R57 := hide ((unhide R56).below b7)
        have R7 := hide r7
        have B7 := hide ((unhide B6).trans (b7.mono (unhide B6).size))
        clear r7 b7 R46 R56 B6
        go_wp2_with fail
        refine (unhide E2 _ _ _ _ w7 (unhide R47) (unhide R7)).mono ?_
        rintro e w8 ⟨rfl, b8⟩
        have R58 := hide ((unhide R57).below b8)
        have B8 := hide ((unhide B7).trans (b8.mono (unhide B7).size))
        clear b8 R57 R7 B7 R47
        go_wp2_with fail
        refine (unhide T3 w8 (unhide B8)).mono ?_
        rintro e w9 ⟨g9, rfl, r9, b9⟩
        have R59 := hide ((unhide R58).below b9)
        have R9 := hide r9
        have B9 := hide ((unhide B8).trans (b9.mono (unhide B8).size))
        clear r9 b9 R58 B8
        go_wp2_with fail
        refine (unhide E3 _ _ _ _ w9 (unhide R59) (unhide R9)).mono ?_
        rintro e w10 ⟨rfl, b10⟩
        have B10 := hide ((unhide B9).trans (b10.mono (unhide B9).size))
        clear b10 R59 R9 B9
        go_wp2
        go_ret
        exact ⟨rfl, unhide B10⟩
      · have t3 : (1048576 : Int) < (A3.length : Int) := by omega
        clear HS HI h2 h3
        go_enter Try.func6, Try.ntmps6
        go_wp2
        go_ret
        exact ⟨rfl, Below.refl _ _⟩
    · have t2 : (1048576 : Int) < (A2.length : Int) := by omega
      clear HS HI h2 h3
      go_enter Try.func6, Try.ntmps6
      go_wp2
      go_ret
      exact ⟨rfl, Below.refl _ _⟩
  · have t1 : (1048576 : Int) < (d.size : Int) := by omega
    clear HS HI h2 h3
    go_enter Try.func6, Try.ntmps6
    go_wp2
    go_ret
    exact ⟨rfl, Below.refl _ _⟩
end Go.Proofs.Ytehkfbkofgkcjaa.Rc
