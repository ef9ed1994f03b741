/-
  Contract: SampleRtt of the program.
-/
import Derived.Test.YtccfbkpelehldaaIrt
import Derived.Test.YtccfbkpelehldaaOpRtt
namespace Go.Proofs.Ytccfbkpelehldaa.Rc
open Go.ChangeShapes Go.WideShapes Go.ChangeAt Go.RowKit Go.Deep
set_option linter.unusedVariables false
set_option maxRecDepth 100000

set_option maxHeartbeats 2000000 in
theorem implSRw (D : RttD) (la de : Int) (w : World) :
    Calls Try.prog 20 #[rttV D, .int .i64 la, .int .i64 de] w fun e w' => e = .returned (.tuple #[rttV (srD D la de (srB D la de)), .bool (srB D la de)]) ∧ Below w.heap.size w w' := by
  have H0 := hide (implRt D)
  have H1 := hide (implTk la)
  have H2 := hide (implTk de)
  have HX := hide ((Bx.new w (rttC D) 25).alloc (.cells #[.bool false, .int .i64 0, .int .i64 0, .int .i64 0, .int .i64 0] 25))
  have HY := hide (Bx.newAt (w.alloc (.cells (rttC D).toArray 25)) (w.heap.size + 1) [.bool false, .int .i64 0, .int .i64 0, .int .i64 0, .int .i64 0] 25 (by simp))
  have B0 := hide (((Below.refl w.heap.size w).alloc (Nat.le_refl _) (.cells (rttC D).toArray 25)).alloc (by simp) (.cells #[.bool false, .int .i64 0, .int .i64 0, .int .i64 0, .int .i64 0] 25))
  cases e0 : rtB D with
  | false =>
    have er : srB D la de = false := by unfold srB; rw [e0]; rfl
    rw [er]
    rw [e0] at H0
    clear er e0
    go_enter Try.func20, Try.ntmps20
    go_wp2_with fail
    refine (unhide H0 _).mono ?_
    rintro e w1 ⟨rfl, b1⟩
    have y1 := ((unhide HY).below b1).cv
    have y1f := ((unhide HY).below b1).fz
    have s1 := ((unhide HY).below b1).lt
    have B1 := hide ((unhide B0).trans (b1.mono (unhide B0).size))
    clear b1
    go_wp2
    refine bodyPost_ret (v := .tuple #[rttZ, .bool false]) (by simp [results, Try.results20, go_sem, y1]) rfl ⟨rfl, ?_⟩
    iterate 5 refine Below.setCell ?_ (by simp) _
    exact unhide B1
  | true =>
    rw [e0] at H0
    cases e1 : tkB la with
    | false =>
      have er : srB D la de = false := by unfold srB; rw [e0, e1]; rfl
      rw [er]
      rw [e1] at H1
      clear er e0 e1
      go_enter Try.func20, Try.ntmps20
      go_wp2_with fail
      refine (unhide H0 _).mono ?_
      rintro e w1 ⟨rfl, b1⟩
      have y1 := ((unhide HY).below b1).cv
      have y1f := ((unhide HY).below b1).fz
      have s1 := ((unhide HY).below b1).lt
      have B1 := hide ((unhide B0).trans (b1.mono (unhide B0).size))
      clear b1
      go_wp2_with (go_at_call 14; refine (unhide H1 _).mono ?_; rintro e w9 ⟨rfl, h9⟩; rw [h9]; clear h9 w9)
      refine bodyPost_ret (v := .tuple #[rttZ, .bool false]) (by simp [results, Try.results20, go_sem, y1]) rfl ⟨rfl, ?_⟩
      iterate 5 refine Below.setCell ?_ (by simp) _
      exact unhide B1
    | true =>
      rw [e1] at H1
      cases e2 : tkB de with
      | false =>
        have er : srB D la de = false := by unfold srB; rw [e0, e1, e2]; rfl
        rw [er]
        rw [e2] at H2
        clear er e0 e1 e2
        go_enter Try.func20, Try.ntmps20
        go_wp2_with fail
        refine (unhide H0 _).mono ?_
        rintro e w1 ⟨rfl, b1⟩
        have y1 := ((unhide HY).below b1).cv
        have y1f := ((unhide HY).below b1).fz
        have s1 := ((unhide HY).below b1).lt
        have B1 := hide ((unhide B0).trans (b1.mono (unhide B0).size))
        clear b1
        go_wp2_with (first | (go_at_call 14; with_reducible refine (unhide H1 _).mono ?_; rintro e w9 ⟨rfl, h9⟩; rw [h9]; clear h9 w9) | (go_at_call 14; with_reducible refine (unhide H2 _).mono ?_; rintro e w9 ⟨rfl, h9⟩; rw [h9]; clear h9 w9))
        refine bodyPost_ret (v := .tuple #[rttZ, .bool false]) (by simp [results, Try.results20, go_sem, y1]) rfl ⟨rfl, ?_⟩
        iterate 5 refine Below.setCell ?_ (by simp) _
        exact unhide B1
      | true =>
        have er : srB D la de = true := by unfold srB; rw [e0, e1, e2]; rfl
        rw [er]
        rw [e2] at H2
        show Calls _ _ _ _ fun e w' => e = .returned (.tuple #[rttV (smD D la de), .bool true]) ∧ Below w.heap.size w w'
        obtain ⟨kn, pl, mi, sm, va⟩ := D
        cases kn with
        | false =>
          have HE : Hid (smD ⟨false, pl, mi, sm, va⟩ la de = ⟨true, la, la, la, la / 2⟩) := rfl
          rw [unhide HE]
          obtain ⟨l0, l1⟩ := tkB_yes e1
          clear er e0 e1 e2 HE
          go_enter Try.func20, Try.ntmps20
          go_wp2_with fail
          refine (unhide H0 _).mono ?_
          rintro e w1 ⟨rfl, b1⟩
          have x1 := ((unhide HX).below b1).cv
          have y1 := ((unhide HY).below b1).cv
          have y1f := ((unhide HY).below b1).fz
          have s1 := ((unhide HY).below b1).lt
          have B1 := hide ((unhide B0).trans (b1.mono (unhide B0).size))
          clear b1
          go_wp2_with (first | (go_at_call 14; with_reducible refine (unhide H1 _).mono ?_; rintro e w9 ⟨rfl, h9⟩; rw [h9]; clear h9 w9) | (go_at_call 14; with_reducible refine (unhide H2 _).mono ?_; rintro e w9 ⟨rfl, h9⟩; rw [h9]; clear h9 w9))
          refine bodyPost_ret (v := .tuple #[rttV ⟨true, la, la, la, la / 2⟩, .bool true]) (by simp [results, Try.results20, go_sem, y1]) rfl ⟨rfl, ?_⟩
          iterate 5 refine Below.setCell ?_ (by simp) _
          exact unhide B1
        | true =>
          have H3 := hide (fun W => implSm pl mi sm va la de W e0 e1 e2)
          generalize smD ⟨true, pl, mi, sm, va⟩ la de = E at *
          clear er e0 e1 e2
          go_enter Try.func20, Try.ntmps20
          go_wp2_with fail
          refine (unhide H0 _).mono ?_
          rintro e w1 ⟨rfl, b1⟩
          have HX1 := hide ((unhide HX).below b1)
          have HY1 := hide ((unhide HY).below b1)
          have B1 := hide ((unhide B0).trans (b1.mono (unhide B0).size))
          have x1 := (unhide HX1).cv
          clear b1
          go_wp2_with (first | (go_at_call 14; with_reducible refine (unhide H1 _).mono ?_; rintro e w9 ⟨rfl, h9⟩; rw [h9]; clear h9 w9) | (go_at_call 14; with_reducible refine (unhide H2 _).mono ?_; rintro e w9 ⟨rfl, h9⟩; rw [h9]; clear h9 w9))
          refine (unhide H3 _).mono ?_
          rintro e w2 ⟨rfl, b2⟩
          have y2 := ((unhide HY1).below b2).cv
          have y2f := ((unhide HY1).below b2).fz
          have s2 := ((unhide HY1).below b2).lt
          have B2 := hide ((unhide B1).trans (b2.mono (unhide B1).size))
          clear b2 x1
          go_wp2
          refine bodyPost_ret (v := .tuple #[rttV E, .bool true]) (by simp [results, Try.results20, go_sem, y2]) rfl ⟨rfl, ?_⟩
          iterate 5 refine Below.setCell ?_ (by simp) _
          exact unhide B2
theorem implSR (D : RttD) (la de : Int) (o : okRtt D) (o1 : okI la) (o2 : okI de) (W : World) :
    Calls Try.prog 20 #[rttV D, .int .i64 la, .int .i64 de] W fun e w' => e = .returned (.tuple #[rttV (srD D la de (srB D la de)), .bool (srB D la de)]) ∧ Below W.heap.size W w' := implSRw D la de W
end Go.Proofs.Ytccfbkpelehldaa.Rc
