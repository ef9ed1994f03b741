/-
  Contracts: SampleRtt and ProbeTime of the model, the laws' copies of round trips.
-/
import Derived.Test.YtjmknfedanmcnabRtt
namespace Go.Proofs.Ytjmknfedanmcnab.Rc
open Go.ChangeShapes Go.WideShapes Go.ChangeAt Go.RowKit Go.Deep
set_option linter.unusedVariables false
set_option maxRecDepth 100000

/-- whether a sample is taken -/
def srB (D : RttD) (la de : Int) : Bool := rtB D && (tkB la && tkB de)
/-- what comes of it -/
def srD (D : RttD) (la de : Int) : Bool → RttD
  | true => smD D la de
  | false => ⟨false, 0, 0, 0, 0⟩
/-- whether a time to wait is told -/
def ptB (D : RttD) (de tr : Int) : Bool := rtB D && (tkB de && (decide (0 ≤ tr) && decide (tr ≤ 10)))
/-- four times how far it goes, at least 1 -/
def ptV (D : RttD) : Int := if 4 * D.va < 1 then 1 else 4 * D.va
/-- the first wait -/
def ptF (D : RttD) (de : Int) : Int := if D.kn = true then D.sm + ptV D + de else 1000
/-- what is waited -/
def ptN (D : RttD) (de tr : Int) : Bool → Int
  | true => ptF D de * 2 ^ tr.toNat
  | false => 0
set_option maxHeartbeats 1000000 in
theorem toRtt_any (D : RttD) (w : World) : Calls Try.prog 20 #[rttV D] w fun e w' => e = .returned (rttV D) ∧ Below w.heap.size w w' := by
  go_enter Try.func20, Try.ntmps20
  go_wp2
  refine bodyPost_ret (v := rttV D) (by simp [results, Try.results20, go_sem]) rfl ⟨rfl, ?_⟩
  exact (((Below.refl _ _).alloc (Nat.le_refl _) _).alloc (by simp) _).alloc (by simp; omega) _
set_option maxHeartbeats 1000000 in
theorem eqRtt_same (D : RttD) (w : World) :
    Calls Try.prog 45 #[rttV D, rttV D] w fun e w' => e = .returned (.bool true) ∧ Below w.heap.size w w' := by
  go_enter Try.func45, Try.ntmps45
  go_wp2
  go_ret
  exact ⟨rfl, ((Below.refl _ _).alloc (Nat.le_refl _) _).alloc (by simp) _⟩
theorem wrap_shl (n : Int) (k : Nat) (h0 : 0 ≤ n) (h1 : n ≤ 10000000000) (hk : k ≤ 10) : wrap64 (n * 2 ^ k) = n * 2 ^ k := by
  have h : k = 0 ∨ k = 1 ∨ k = 2 ∨ k = 3 ∨ k = 4 ∨ k = 5 ∨ k = 6 ∨ k = 7 ∨ k = 8 ∨ k = 9 ∨ k = 10 := by omega
  rcases h with rfl | rfl | rfl | rfl | rfl | rfl | rfl | rfl | rfl | rfl | rfl <;> (unfold wrap64; simp only [Int.reducePow]; omega)
set_option maxHeartbeats 2000000 in
theorem specPT (D : RttD) (de tr : Int) (w : World) :
    Calls Try.prog 19 #[rttV D, .int .i64 de, .int .i64 tr] w fun e w' => e = .returned (.tuple #[.int .i64 (ptN D de tr (ptB D de tr)), .bool (ptB D de tr)]) ∧ Below w.heap.size w w' := by
  have H0 := hide (specRt D)
  have H1 := hide (specTk de)
  have H2 := hide (inB tr 0 10)
  have HX := hide (Bx.new w (rttC D) 31)
  have B0 := hide ((Below.refl w.heap.size w).alloc (Nat.le_refl _) (.cells (rttC D).toArray 31))
  cases e0 : rtB D with
  | false =>
    have er : ptB D de tr = false := by unfold ptB; rw [e0]; rfl
    rw [er]
    rw [e0] at H0
    clear er e0
    go_enter Try.func19, Try.ntmps19
    go_wp2_with fail
    refine (unhide H0 _).mono ?_
    rintro e w1 ⟨rfl, b1⟩
    have B1 := hide ((unhide B0).trans (b1.mono (unhide B0).size))
    clear b1
    go_wp2
    go_ret2
    exact ⟨rfl, unhide B1⟩
  | true =>
    rw [e0] at H0
    cases e1 : tkB de with
    | false =>
      have er : ptB D de tr = false := by unfold ptB; rw [e0, e1]; rfl
      rw [er]
      rw [e1] at H1
      clear er e0 e1
      go_enter Try.func19, Try.ntmps19
      go_wp2_with fail
      refine (unhide H0 _).mono ?_
      rintro e w1 ⟨rfl, b1⟩
      have B1 := hide ((unhide B0).trans (b1.mono (unhide B0).size))
      clear b1
      go_wp2_with (go_at_call 25; refine (unhide H1 _).mono ?_; rintro e w9 ⟨rfl, h9⟩; rw [h9]; clear h9 w9)
      go_ret2
      exact ⟨rfl, unhide B1⟩
    | true =>
      rw [e1] at H1
      cases e2 : (decide (0 ≤ tr) && decide (tr ≤ 10)) with
      | false =>
        have er : ptB D de tr = false := by unfold ptB; rw [e0, e1, e2]; rfl
        rw [er]
        rw [e2] at H2
        clear er e0 e1 e2
        go_enter Try.func19, Try.ntmps19
        go_wp2_with fail
        refine (unhide H0 _).mono ?_
        rintro e w1 ⟨rfl, b1⟩
        have B1 := hide ((unhide B0).trans (b1.mono (unhide B0).size))
        clear b1
        go_wp2_with (first | (go_at_call 25; refine (unhide H1 _).mono ?_; rintro e w9 ⟨rfl, h9⟩; rw [h9]; clear h9 w9) | (go_at_call 50; refine (unhide H2 _).mono ?_; rintro e w9 ⟨rfl, h9⟩; rw [h9]; clear h9 w9))
        go_ret2
        exact ⟨rfl, unhide B1⟩
      | true =>
        have er : ptB D de tr = true := by unfold ptB; rw [e0, e1, e2]; rfl
        rw [er]
        have q2 := e2
        rw [e2] at H2
        simp only [Bool.and_eq_true, decide_eq_true_eq] at q2
        obtain ⟨t0, t1⟩ := q2
        obtain ⟨d0, d1⟩ := tkB_yes e1
        show Calls _ _ _ _ fun e w' => e = .returned (.tuple #[.int .i64 (ptF D de * 2 ^ tr.toNat), .bool true]) ∧ Below w.heap.size w w'
        obtain ⟨kn, la, mi, sm, va⟩ := D
        cases kn with
        | false =>
          have HF : Hid (ptF ⟨false, la, mi, sm, va⟩ de = 1000) := rfl
          rw [unhide HF]
          clear er e0 e1 e2 HF
          go_enter Try.func19, Try.ntmps19
          go_wp2_with fail
          refine (unhide H0 _).mono ?_
          rintro e w1 ⟨rfl, b1⟩
          have x1 := ((unhide HX).below b1).cv
          have B1 := hide ((unhide B0).trans (b1.mono (unhide B0).size))
          clear b1
          go_wp2_with (first | (go_at_call 25; refine (unhide H1 _).mono ?_; rintro e w9 ⟨rfl, h9⟩; rw [h9]; clear h9 w9) | (go_at_call 50; refine (unhide H2 _).mono ?_; rintro e w9 ⟨rfl, h9⟩; rw [h9]; clear h9 w9))
          have HZ := hide (wrap_shl 1000 tr.toNat (by omega) (by omega) (by omega))
          go_ret2
          exact ⟨by rw [unhide HZ]; rfl, unhide B1⟩
        | true =>
          have g := e0
          unfold rtB at g
          simp only [if_true, Bool.and_eq_true, decide_eq_true_eq] at g
          obtain ⟨g1, ⟨g2, g3⟩, g4, g5⟩ := g
          obtain ⟨m0, m1⟩ := tkB_yes g1
          obtain ⟨s0, s1⟩ := tkB_yes g4
          obtain ⟨v0, v1⟩ := tkB_yes g5
          clear g1 g2 g3 g4 g5
          by_cases h4 : 4 * va < 1
          · have HF : Hid (ptF ⟨true, la, mi, sm, va⟩ de = sm + 1 + de) := by show _ = _; unfold ptF ptV; rw [if_pos rfl, if_pos h4]
            rw [unhide HF]
            clear er e0 e1 e2 HF
            go_enter Try.func19, Try.ntmps19
            go_wp2_with fail
            refine (unhide H0 _).mono ?_
            rintro e w1 ⟨rfl, b1⟩
            have x1 := ((unhide HX).below b1).cv
            have B1 := hide ((unhide B0).trans (b1.mono (unhide B0).size))
            clear b1
            go_wp2_with (first | (go_at_call 25; refine (unhide H1 _).mono ?_; rintro e w9 ⟨rfl, h9⟩; rw [h9]; clear h9 w9) | (go_at_call 50; refine (unhide H2 _).mono ?_; rintro e w9 ⟨rfl, h9⟩; rw [h9]; clear h9 w9))
            have HZ := hide (wrap_shl (sm + 1 + de) tr.toNat (by omega) (by omega) (by omega))
            go_ret2
            exact ⟨by rw [unhide HZ]; rfl, unhide B1⟩
          · have HF : Hid (ptF ⟨true, la, mi, sm, va⟩ de = sm + 4 * va + de) := by show _ = _; unfold ptF ptV; rw [if_pos rfl, if_neg h4]
            rw [unhide HF]
            clear er e0 e1 e2 HF
            go_enter Try.func19, Try.ntmps19
            go_wp2_with fail
            refine (unhide H0 _).mono ?_
            rintro e w1 ⟨rfl, b1⟩
            have x1 := ((unhide HX).below b1).cv
            have B1 := hide ((unhide B0).trans (b1.mono (unhide B0).size))
            clear b1
            go_wp2_with (first | (go_at_call 25; refine (unhide H1 _).mono ?_; rintro e w9 ⟨rfl, h9⟩; rw [h9]; clear h9 w9) | (go_at_call 50; refine (unhide H2 _).mono ?_; rintro e w9 ⟨rfl, h9⟩; rw [h9]; clear h9 w9))
            have HZ := hide (wrap_shl (sm + 4 * va + de) tr.toNat (by omega) (by omega) (by omega))
            go_ret2
            exact ⟨by rw [unhide HZ]; rfl, unhide B1⟩
end Go.Proofs.Ytjmknfedanmcnab.Rc
