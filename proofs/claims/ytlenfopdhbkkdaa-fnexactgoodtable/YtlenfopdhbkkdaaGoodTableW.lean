/-
  The law on GoodTable, walked.
-/
import Derived.Test.YtlenfopdhbkkdaaTge
import Derived.Test.YtlenfopdhbkkdaaTgs
namespace Go.Proofs.Ytlenfopdhbkkdaa
open Go.ChangeShapes Go.WideShapes Go.ChangeAt Go.RowKit
set_option linter.unusedVariables false

/-- what weighs no more than 1048576 has rows of no more -/
theorem wt_len (L : List EnD) (h : ¬ 1048576 < wtE L) : L.length ≤ 1048576 ∧ ∀ i, i < L.length → (eA L i).S.length ≤ 1048576 := by
  unfold wtE at h
  refine ⟨by omega, fun i hi => ?_⟩
  have h1 := sumE_mono L (show i + 1 ≤ L.length from hi)
  have h2 : sumE L (i + 1) = sumE L i + ((eA L i).k.size + wtA (eA L i).S) := rfl
  have h3 : wtA (eA L i).S = (eA L i).S.length + sumA (eA L i).S (eA L i).S.length := rfl
  omega
theorem lfR_no (n : Nat) (h : 1048576 < n) : lfR 1048576 n = -1 := if_pos h
theorem lfR_ok (n : Nat) (h : ¬ 1048576 < n) : ∃ m : Nat, lfR 1048576 n = (m : Int) := ⟨1048576 - n, by unfold lfR; rw [if_neg h]; omega⟩
end Go.Proofs.Ytlenfopdhbkkdaa
namespace Go.Proofs.Ytlenfopdhbkkdaa.fnExactGoodTable
open Go.ChangeShapes Go.WideShapes Go.ChangeAt Go.RowKit
set_option linter.unusedVariables false
set_option maxRecDepth 100000

set_option maxHeartbeats 4000000 in
theorem walk (a : Option Addr) (cap : Nat) (L : List EnD) (w : World) (hG : okE L) (h : Ea w a L) :
    Calls Try.prog 5 #[.agg #[.slice a L.length cap]] w fun e w' => e = .returned (.bool true) ∧ Below w.heap.size w w' := by
  have HZ := hide (fun W (b : Below w.heap.size w W) => szTb a cap L W hG (h.below b))
  by_cases hl : 1048576 < wtE L
  · rw [lfR_no _ hl] at HZ
    clear h hG
    go_enter Try.func5, Try.ntmps5
    go_wp2_with fail
    refine (unhide HZ _ ((Below.refl _ _).alloc (Nat.le_refl _) _)).mono ?_
    rintro e w1 ⟨rfl, b1⟩
    go_wp2
    go_ret
    exact ⟨rfl, ((Below.refl _ _).alloc (Nat.le_refl _) _).trans (b1.mono (by simp))⟩
  obtain ⟨m, hm⟩ := lfR_ok _ hl
  rw [hm] at HZ
  clear hm
  have hm0 : 0 ≤ (m : Int) := by omega
  obtain ⟨hN, hS⟩ := wt_len L hl
  have H1 := hide (fun W (b : Below w.heap.size w W) => toTb a cap L W hN hS (h.below b))
  have H2 := hide (fun a' cap' W (hE : Ea W a' L) => specGT a' cap' L W hG hS hE)
  have H3 := hide (fun a' cap' W (hE : Ea W a' L) => implGT a' cap' L W hG hS hE)
  have H4 := hide (fun a1 a2 c1 c2 W (h1 : Ea W a1 L) (h2 : Ea W a2 L) => eqTb a1 a2 c1 c2 L W hN hS h1 h2)
  generalize gtB L = r at *
  clear h hG hS hl
  go_enter Try.func5, Try.ntmps5
  go_wp2_with fail
  refine (unhide HZ _ ((Below.refl _ _).alloc (Nat.le_refl _) _)).mono ?_
  rintro e w1 ⟨rfl, b1⟩
  have X1 := (Bx.new w [.slice a L.length cap] 27).below b1
  have B1 : Below w.heap.size w w1 := ((Below.refl _ _).alloc (Nat.le_refl _) _).trans (b1.mono (by simp))
  have x1 := X1.cv
  have HX := hide X1
  have HB := hide B1
  clear X1 B1 b1
  go_wp2_with fail
  refine (unhide H1 _ (unhide HB)).mono ?_
  rintro e w2 ⟨g, B, rfl, hE2, b2⟩
  have X2 := (unhide HX).below b2
  have B2 := (unhide HB).trans (b2.mono (unhide HB).size)
  have HE2 := hide (show Ea w2 (some ⟨g, 0, none⟩) L from (En.ea (Or.inr ⟨g, B, rfl, hE2⟩)))
  have x2 := X2.cv
  have HX2 := hide X2
  have HB2 := hide B2
  clear x1 X2 B2 hE2 b2 HX HB
  go_wp2_with fail
  refine (unhide H2 _ _ _ (unhide HE2)).mono ?_
  rintro e w3 ⟨rfl, b3⟩
  have X3 := (unhide HX2).below b3
  have B3 := (unhide HB2).trans (b3.mono (unhide HB2).size)
  have x3 := X3.cv
  have HX3 := hide X3
  have HB3 := hide B3
  clear x2 X3 B3 b3 HX2 HB2 HE2
  go_wp2_with fail
  refine (unhide H1 _ (unhide HB3)).mono ?_
  rintro e w4 ⟨g4, B4, rfl, hE4, b4⟩
  have X4 := ((unhide HX3).below b4).alloc (.cells #[.slice (some ⟨g4, 0, none⟩) L.length L.length] 32)
  have Y4 := Bx.new w4 [.slice (some ⟨g4, 0, none⟩) L.length L.length] 32
  have B4' := ((unhide HB3).trans (b4.mono (unhide HB3).size)).alloc (Nat.le_trans (unhide HB3).size b4.size) (.cells #[.slice (some ⟨g4, 0, none⟩) L.length L.length] 32)
  have HE4 := hide ((show Ea w4 (some ⟨g4, 0, none⟩) L from (En.ea (Or.inr ⟨g4, B4, rfl, hE4⟩))).below ((Below.refl _ _).alloc (Nat.le_refl _) (.cells #[.slice (some ⟨g4, 0, none⟩) L.length L.length] 32)))
  have x4 := X4.cv
  have y4 := Y4.cv
  have HX4 := hide X4
  have HY4 := hide Y4
  have HB4 := hide B4'
  clear x3 X4 Y4 B4' hE4 b4 HX3 HB3
  go_wp2_with fail
  refine (unhide H3 _ _ _ (unhide HE4)).mono ?_
  rintro e w5 ⟨rfl, b5⟩
  have HX5 := hide ((unhide HX4).below b5)
  have HY5 := hide ((unhide HY4).below b5)
  have HB5 := hide ((unhide HB4).trans (b5.mono (unhide HB4).size))
  have HE5 := hide ((unhide HE4).below b5)
  have x5 := (unhide HX5).cv
  have y5 := (unhide HY5).cv
  clear x4 y4 b5 HX4 HY4 HB4 HE4
  go_wp2_with fail
  have DR := hide ((unhide HB5).drew)
  have xd := (unhide HY5).drew
  have HEd := hide ((unhide HE5).below (Below.refl _ _).drew)
  have hY9 := (unhide HY5).lt
  go_region_with (first | (go_at_call 12; refine (unhide H1 _ (unhide DR)).mono ?_; rintro e w6 ⟨g6, B6, rfl, hE6, b6⟩; have x6 := ((unhide HX5).drew.below b6).cv; have y6 := ((unhide HY5).drew.below b6).cv) | (go_at_call 14; refine (unhide H4 _ _ _ _ _ ((unhide HEd).below b6) (En.ea (Or.inr ⟨g6, B6, rfl, hE6⟩))).mono ?_; rintro e w7 ⟨rfl, b7⟩))
  all_goals
    have B7 := hide (((unhide DR).trans (b6.mono (unhide DR).size)).trans (b7.mono (Nat.le_trans (unhide DR).size b6.size)))
    clear hE6 b6 b7 x5 y5
    go_wp2
    go_ret
    exact ⟨rfl, unhide B7⟩
end Go.Proofs.Ytlenfopdhbkkdaa.fnExactGoodTable
