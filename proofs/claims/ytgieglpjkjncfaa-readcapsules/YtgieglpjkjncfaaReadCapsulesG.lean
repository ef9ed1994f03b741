/-
  The law on ReadCapsules, walked out of the contracts of both sides.
-/
import Derived.Test.YtgieglpjkjncfaaCpt
namespace Go.Proofs.Ytgieglpjkjncfaa.Rc
open Go.ChangeShapes Go.WideShapes Go.ChangeAt Go.RowKit Go.Deep
set_option linter.unusedVariables false
set_option maxRecDepth 100000

set_option maxHeartbeats 8000000 in
theorem readCapsules_given (n0 : ByteArray) (R : List CapsuleD) (z1 : Int) (r1 : Bool) (w : World)  (hR : R.length ≤ 1048576)
    (HS : n0.size ≤ 1048576 → ∀ (W : World), Calls Try.prog 7 #[.string n0] W fun e w' => ∃ (a : Option Addr) (c : Nat), e = .returned (.tuple #[.slice a R.length c, .int .i64 z1, .bool r1]) ∧ Rd capsuleK w' a R ∧ Below W.heap.size W w')
    (HI : n0.size ≤ 1048576 → ∀ (W : World) (_ : Below w.heap.size w W), Calls Try.prog 8 #[.string n0] W fun e w' => ∃ (a : Option Addr) (c : Nat), e = .returned (.tuple #[.slice a R.length c, .int .i64 z1, .bool r1]) ∧ Ri capsuleK W.heap.size w'.heap.size w' a R ∧ Below W.heap.size W w') :
    Calls Try.prog 3 #[.string n0] w fun e w' => e = .returned (.bool true) ∧ Below w.heap.size w w' := by
  by_cases hs : n0.size ≤ 1048576
  · have H1 := hide (HS hs)
    have H2 := hide (HI hs)
    have hsI : (n0.size : Int) ≤ 1048576 := by omega
    clear HS HI
    have HG := hide (fun a a' c c' W h h' => eqCapsuleS_same a a' c c' R W hR h h')
    go_enter Try.func3, Try.ntmps3
    have B0 := hide (Below.refl w.heap.size w)
    go_wp2_with fail
    refine (unhide H1 _).mono ?_
    rintro e w1 ⟨aw, cw, rfl, q1, b1⟩
    have B1 := hide ((unhide B0).trans (b1.mono (unhide B0).size))
    have s1 : _ ≤ w1.heap.size := b1.size
    have WR := hide q1
    clear q1
    have B3_1 := hide (Below.refl w1.heap.size w1)
    go_wp2_with fail
    refine (unhide H2 _ (unhide B1)).mono ?_
    rintro e w2 ⟨ag, cg, rfl, q2, b2⟩
    have B2 := hide ((unhide B1).trans (b2.mono (unhide B1).size))
    have B3_2 := hide ((unhide B3_1).trans (b2.mono (unhide B3_1).size))
    have GR_2 := hide q2
    have s2 : _ ≤ w2.heap.size := b2.size
    clear q2
    go_wp2_with fail
    refine (unhide HG _ _ _ _ _ (Ri.rd (unhide GR_2)) (Rd.below (unhide WR) (unhide B3_2))).mono ?_
    rintro e w3 ⟨rfl, b3⟩
    have B3 := hide ((unhide B2).trans (b3.mono (unhide B2).size))
    have B3_3 := hide ((unhide B3_2).trans (b3.mono (unhide B3_2).size))
    have GR_3 := hide ((unhide GR_2).below b3)
    have s3 : _ ≤ w3.heap.size := b3.size
    have hR1 := hR
    have MK5 := hide (markCapsuleS_any w1.heap.size w2.heap.size ag cg R 1 w3 (by omega) (by omega) (by omega) (unhide GR_3))
    have hb5 : 1 + R.length * 2 ≤ 20000000 := by omega
    have HH := hide (fun W h => heldCapsuleS_any w1.heap.size w2.heap.size ag R.length cg 1 W hR (by omega) (by omega) h)
    generalize 1 + R.length * 2 = k5 at *
    have hn5 : ¬ (k5 : Int) < 0 := by omega
    go_wp2_with fail
    refine (unhide MK5).mono ?_
    rintro e w5 ⟨rfl, m5, q5⟩
    clear MK5
    have s5 : w3.heap.size ≤ w5.heap.size := q5.size
    have B5 := hide ((unhide B3).trans (q5.below (unhide B3).size (fun q hq => by omega)))
    have B3_5 := hide ((unhide B3_3).trans (q5.below (unhide B3_3).size (fun q hq => by omega)))
    have GM_5 := hide m5
    clear m5 q5
    go_wp2_with fail
    refine (unhide HH _ (unhide GM_5)).mono ?_
    rintro e w6 ⟨rfl, b6⟩
    have B6 := hide ((unhide B5).trans (b6.mono (unhide B5).size))
    have B3_6 := hide ((unhide B3_5).trans (b6.mono (unhide B3_5).size))
    have GM_6 := hide ((unhide GM_5).below b6)
    have s6 : _ ≤ w6.heap.size := b6.size
    go_wp2_with fail
    refine (unhide H2 _ (unhide B6)).mono ?_
    rintro e w7 ⟨ah, ch, rfl, q7, b7⟩
    have B7 := hide ((unhide B6).trans (b7.mono (unhide B6).size))
    have B3_7 := hide ((unhide B3_6).trans (b7.mono (unhide B3_6).size))
    have GM_7 := hide ((unhide GM_6).below b7)
    have HR_7 := hide (Ri.rd q7)
    have s7 : _ ≤ w7.heap.size := b7.size
    clear q7
    go_wp2_with fail
    refine (unhide HG _ _ _ _ _ ((unhide HR_7)) (Rd.below (unhide WR) (unhide B3_7))).mono ?_
    rintro e w8 ⟨rfl, b8⟩
    have B8 := hide ((unhide B7).trans (b8.mono (unhide B7).size))
    have B3_8 := hide ((unhide B3_7).trans (b8.mono (unhide B3_7).size))
    have GM_8 := hide ((unhide GM_7).below b8)
    have HR_8 := hide ((unhide HR_7).below b8)
    have s8 : _ ≤ w8.heap.size := b8.size
    go_wp2_with fail
    refine (unhide HH _ (unhide GM_8)).mono ?_
    rintro e w9 ⟨rfl, b9⟩
    have B9 := hide ((unhide B8).trans (b9.mono (unhide B8).size))
    have B3_9 := hide ((unhide B3_8).trans (b9.mono (unhide B3_8).size))
    have GM_9 := hide ((unhide GM_8).below b9)
    have s9 : _ ≤ w9.heap.size := b9.size
    go_wp2
    go_ret
    exact ⟨rfl, unhide B9⟩
  · have hsI : (1048576 : Int) < (n0.size : Int) := by omega
    clear HS HI
    go_enter Try.func3, Try.ntmps3
    go_wp2
    go_ret
    exact ⟨rfl, Below.refl _ _⟩
end Go.Proofs.Ytgieglpjkjncfaa.Rc
