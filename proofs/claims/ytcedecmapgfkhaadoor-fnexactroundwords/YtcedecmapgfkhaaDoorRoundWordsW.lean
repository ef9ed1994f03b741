/-
  The law on RoundWords, walked.
-/
import Derived.Test.YtcedecmapgfkhaaDoorIrw
namespace Go.Proofs.YtcedecmapgfkhaaDoor.fnExactRoundWords
open Go.ChangeShapes Go.WideShapes Go.ChangeAt Go.RowKit
set_option linter.unusedVariables false

set_option maxHeartbeats 1000000 in
theorem walk (w : World) (hT : Rt w) :
    Calls Tryd.prog 6 #[] w fun e w' => e = .returned (.bool true) ∧ Below w.heap.size w w' := by
  have HT := hide hT
  clear hT
  have hM : Hid (∀ b cap f W, Aw W b 0 64 f → Calls Tryd.prog 26 #[.slice (some ⟨b, 0, none⟩) 64 cap, .int .i64 1] W fun e w' => e = .returned (.int .i64 65) ∧ Aw w' b 0 64 (mk1 1) ∧ Kb b W w') := fun b cap f W h => markU b 64 cap 1 f W (by omega) (by omega) h
  have hH : Hid (∀ b cap W, Rw W b 0 64 (mk1 1) → Calls Tryd.prog 27 #[.slice (some ⟨b, 0, none⟩) 64 cap, .int .i64 1] W fun e w' => e = .returned (.int .i64 65) ∧ Below W.heap.size W w') := fun b cap W h => heldU b 64 cap 1 W (by omega) (by omega) h
  go_enter Tryd.func6, Tryd.ntmps6
  go_wp2_with fail
  refine (specRoundWords _).mono ?_
  rintro e w1 ⟨v, rfl, hov, b1⟩
  obtain ⟨a, cap, rfl, hop⟩ := hov.opens
  obtain ⟨g0, rfl, hg0, hA⟩ := hop (by omega)
  have K0 := hide hA.r
  have B1 := hide b1
  have T1 := hide ((unhide HT).kept b1)
  have s1 := b1.size
  have l1 := hA.lt
  have l0 : 0 < w.heap.size := (unhide HT).lt
  clear hov hop hA b1
  go_wp2_with fail
  refine (implRoundWords _ (unhide T1)).mono ?_
  rintro e w2 ⟨rfl, hA, b2⟩
  have A2 := hide hA
  have K2 := hide ((unhide K0).kept b2)
  have B2 := hide ((unhide B1).trans (b2.mono s1))
  have T2 := hide ((unhide T1).kept b2)
  have s2 := b2.size
  generalize hgb : w1.heap.size = gb at *
  clear hA b2 K0 B1 T1
  go_wp2_with fail
  refine (eqU_same _ 0 64 _ _ 0 _ KW _ (by omega) (unhide A2).r (unhide K2)).mono ?_
  rintro e w3 ⟨rfl, b3⟩
  have A3 := hide ((unhide A2).below b3 (unhide A2).lt)
  have K3 := hide ((unhide K2).kept b3)
  have B3 := hide ((unhide B2).trans (b3.mono (unhide B2).size))
  have T3 := hide ((unhide T2).kept b3)
  clear b3 A2 K2 B2 T2
  go_wp2_with fail
  refine (unhide hM _ _ _ _ (unhide A3)).mono ?_
  rintro e w4 ⟨rfl, hA, k4⟩
  have A4 := hide hA
  have K4 := hide (k4.rw (unhide K3) (by omega))
  have B4 := hide ((unhide B3).trans (k4.below s1))
  have T4 := hide (k4.rw (unhide T3) (by omega))
  clear hA k4 A3 K3 B3 T3
  go_wp2_with fail
  refine (unhide hH _ _ _ (unhide A4).r).mono ?_
  rintro e w5 ⟨rfl, b5⟩
  have A5 := hide ((unhide A4).r.kept b5)
  have K5 := hide ((unhide K4).kept b5)
  have B5 := hide ((unhide B4).trans (b5.mono (unhide B4).size))
  have T5 := hide ((unhide T4).kept b5)
  clear b5 A4 K4 B4 T4
  go_wp2_with fail
  refine (implRoundWords _ (unhide T5)).mono ?_
  rintro e w6 ⟨rfl, hA, b6⟩
  have N6 := hide hA.r
  have A6 := hide ((unhide A5).kept b6)
  have K6 := hide ((unhide K5).kept b6)
  have B6 := hide ((unhide B5).trans (b6.mono (unhide B5).size))
  clear hA b6 A5 K5 B5 T5
  go_wp2_with fail
  refine (eqU_same _ 0 64 _ _ 0 _ KW _ (by omega) (unhide N6) (unhide K6)).mono ?_
  rintro e w7 ⟨rfl, b7⟩
  have A7 := hide ((unhide A6).kept b7)
  have B7 := hide ((unhide B6).trans (b7.mono (unhide B6).size))
  clear b7 N6 A6 K6 B6
  go_wp2_with fail
  refine (unhide hH _ _ _ (unhide A7)).mono ?_
  rintro e w8 ⟨rfl, b8⟩
  have B8 := hide ((unhide B7).trans (b8.mono (unhide B7).size))
  clear b8 A7 B7
  go_wp2
  go_ret
  exact ⟨rfl, unhide B8⟩
end Go.Proofs.YtcedecmapgfkhaaDoor.fnExactRoundWords
