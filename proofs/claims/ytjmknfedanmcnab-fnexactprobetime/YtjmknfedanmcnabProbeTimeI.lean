/-
  Contract: ProbeTime of the program.
-/
import Derived.Test.YtjmknfedanmcnabIrt
import Derived.Test.YtjmknfedanmcnabOpRtt
namespace Go.Proofs.Ytjmknfedanmcnab.Rc
open Go.ChangeShapes Go.WideShapes Go.ChangeAt Go.RowKit Go.Deep
set_option linter.unusedVariables false
set_option maxRecDepth 100000

set_option maxHeartbeats 2000000 in
theorem implPTw (D : RttD) (de tr : Int) (w : World) :
    Calls Try.prog 21 #[rttV D, .int .i64 de, .int .i64 tr] w fun e w' => e = .returned (.tuple #[.int .i64 (ptN D de tr (ptB D de tr)), .bool (ptB D de tr)]) ∧ Below w.heap.size w w' := by
  have H0 := hide (implRt D)
  have H1 := hide (implTk de)
  have H2 := hide (btw 0 tr 10)
  have HX := hide (Bx.new w (rttC D) 31)
  have B0 := hide ((Below.refl w.heap.size w).alloc (Nat.le_refl _) (.cells (rttC D).toArray 31))
  cases e0 : rtB D with
  | false =>
    have er : ptB D de tr = false := by unfold ptB; rw [e0]; rfl
    rw [er]
    rw [e0] at H0
    clear er e0
    go_enter Try.func21, Try.ntmps21
    go_wp2_with fail
    refine (unhide H0 _).mono ?_
    rintro e w1 ⟨rfl, b1⟩
    have B1 := hide ((unhide B0).trans (b1.mono (unhide B0).size))
    clear b1
    go_wp2
    go_ret2
    exact ⟨rfl, unhide B1⟩
  | true =>
    rw [e0] at H0
    cases e1 : tkB de with
    | false =>
      have er : ptB D de tr = false := by unfold ptB; rw [e0, e1]; rfl
      rw [er]
      rw [e1] at H1
      clear er e0 e1
      go_enter Try.func21, Try.ntmps21
      go_wp2_with fail
      refine (unhide H0 _).mono ?_
      rintro e w1 ⟨rfl, b1⟩
      have B1 := hide ((unhide B0).trans (b1.mono (unhide B0).size))
      clear b1
      go_wp2_with (go_at_call 34; refine (unhide H1 _).mono ?_; rintro e w9 ⟨rfl, h9⟩; rw [h9]; clear h9 w9)
      go_ret2
      exact ⟨rfl, unhide B1⟩
    | true =>
      rw [e1] at H1
      cases e2 : (decide (0 ≤ tr) && decide (tr ≤ 10)) with
      | false =>
        have er : ptB D de tr = false := by unfold ptB; rw [e0, e1, e2]; rfl
        rw [er]
        rw [e2] at H2
        clear er e0 e1 e2
        go_enter Try.func21, Try.ntmps21
        go_wp2_with fail
        refine (unhide H0 _).mono ?_
        rintro e w1 ⟨rfl, b1⟩
        have B1 := hide ((unhide B0).trans (b1.mono (unhide B0).size))
        clear b1
        go_wp2_with (first | (go_at_call 34; refine (unhide H1 _).mono ?_; rintro e w9 ⟨rfl, h9⟩; rw [h9]; clear h9 w9) | (go_at_call 52; refine (unhide H2 _).mono ?_; rintro e w9 ⟨rfl, h9⟩; rw [h9]; clear h9 w9))
        go_ret2
        exact ⟨rfl, unhide B1⟩
      | true =>
        have er : ptB D de tr = true := by unfold ptB; rw [e0, e1, e2]; rfl
        rw [er]
        have q2 := e2
        rw [e2] at H2
        simp only [Bool.and_eq_true, decide_eq_true_eq] at q2
        obtain ⟨t0, t1⟩ := q2
        obtain ⟨d0, d1⟩ := tkB_yes e1
        show Calls _ _ _ _ fun e w' => e = .returned (.tuple #[.int .i64 (ptF D de * 2 ^ tr.toNat), .bool true]) ∧ Below w.heap.size w w'
        obtain ⟨kn, la, mi, sm, va⟩ := D
        cases kn with
        | false =>
          have HF : Hid (ptF ⟨false, la, mi, sm, va⟩ de = 1000) := rfl
          rw [unhide HF]
          clear er e0 e1 e2 HF
          go_enter Try.func21, Try.ntmps21
          go_wp2_with fail
          refine (unhide H0 _).mono ?_
          rintro e w1 ⟨rfl, b1⟩
          have x1 := ((unhide HX).below b1).cv
          have B1 := hide ((unhide B0).trans (b1.mono (unhide B0).size))
          clear b1
          go_wp2_with (first | (go_at_call 34; refine (unhide H1 _).mono ?_; rintro e w9 ⟨rfl, h9⟩; rw [h9]; clear h9 w9) | (go_at_call 52; refine (unhide H2 _).mono ?_; rintro e w9 ⟨rfl, h9⟩; rw [h9]; clear h9 w9))
          have HZ := hide (wrap_shl 1000 tr.toNat (by omega) (by omega) (by omega))
          go_ret2
          exact ⟨by rw [unhide HZ]; rfl, unhide B1⟩
        | true =>
          have g := e0
          unfold rtB at g
          simp only [if_true, Bool.and_eq_true, decide_eq_true_eq] at g
          obtain ⟨g1, ⟨g2, g3⟩, g4, g5⟩ := g
          obtain ⟨m0, m1⟩ := tkB_yes g1
          obtain ⟨s0, s1⟩ := tkB_yes g4
          obtain ⟨v0, v1⟩ := tkB_yes g5
          clear g1 g2 g3 g4 g5
          by_cases h4 : 4 * va < 1
          · have HF : Hid (ptF ⟨true, la, mi, sm, va⟩ de = sm + 1 + de) := by show _ = _; unfold ptF ptV; rw [if_pos rfl, if_pos h4]
            rw [unhide HF]
            clear er e0 e1 e2 HF
            go_enter Try.func21, Try.ntmps21
            go_wp2_with fail
            refine (unhide H0 _).mono ?_
            rintro e w1 ⟨rfl, b1⟩
            have x1 := ((unhide HX).below b1).cv
            have B1 := hide ((unhide B0).trans (b1.mono (unhide B0).size))
            clear b1
            go_wp2_with (first | (go_at_call 34; refine (unhide H1 _).mono ?_; rintro e w9 ⟨rfl, h9⟩; rw [h9]; clear h9 w9) | (go_at_call 52; refine (unhide H2 _).mono ?_; rintro e w9 ⟨rfl, h9⟩; rw [h9]; clear h9 w9))
            have HZ := hide (wrap_shl (sm + 1 + de) tr.toNat (by omega) (by omega) (by omega))
            go_ret2
            exact ⟨by rw [unhide HZ]; rfl, unhide B1⟩
          · have HF : Hid (ptF ⟨true, la, mi, sm, va⟩ de = sm + 4 * va + de) := by show _ = _; unfold ptF ptV; rw [if_pos rfl, if_neg h4]
            rw [unhide HF]
            clear er e0 e1 e2 HF
            go_enter Try.func21, Try.ntmps21
            go_wp2_with fail
            refine (unhide H0 _).mono ?_
            rintro e w1 ⟨rfl, b1⟩
            have x1 := ((unhide HX).below b1).cv
            have B1 := hide ((unhide B0).trans (b1.mono (unhide B0).size))
            clear b1
            go_wp2_with (first | (go_at_call 34; refine (unhide H1 _).mono ?_; rintro e w9 ⟨rfl, h9⟩; rw [h9]; clear h9 w9) | (go_at_call 52; refine (unhide H2 _).mono ?_; rintro e w9 ⟨rfl, h9⟩; rw [h9]; clear h9 w9))
            have HZ := hide (wrap_shl (sm + 4 * va + de) tr.toNat (by omega) (by omega) (by omega))
            go_ret2
            exact ⟨by rw [unhide HZ]; rfl, unhide B1⟩
theorem implPT (D : RttD) (de tr : Int) (o : okRtt D) (o1 : okI de) (o2 : okI tr) (W : World) :
    Calls Try.prog 21 #[rttV D, .int .i64 de, .int .i64 tr] W fun e w' => e = .returned (.tuple #[.int .i64 (ptN D de tr (ptB D de tr)), .bool (ptB D de tr)]) ∧ Below W.heap.size W w' := implPTw D de tr W
end Go.Proofs.Ytjmknfedanmcnab.Rc
