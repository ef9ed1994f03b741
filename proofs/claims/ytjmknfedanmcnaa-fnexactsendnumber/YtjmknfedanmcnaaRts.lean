/-
  Contracts: SampleRtt and ProbeTime of the model, the laws' copies of round trips.
-/
import Derived.Test.YtjmknfedanmcnaaRtt
namespace Go.Proofs.Ytjmknfedanmcnaa.Rc
open Go.ChangeShapes Go.WideShapes Go.ChangeAt Go.RowKit Go.Deep
set_option linter.unusedVariables false
set_option maxRecDepth 100000

/-- whether a sample is taken -/
def srB (D : RttD) (la de : Int) : Bool := rtB D && (tkB la && tkB de)
/-- what comes of it -/
def srD (D : RttD) (la de : Int) : Bool → RttD
  | true => smD D la de
  | false => ⟨false, 0, 0, 0, 0⟩
/-- whether a time to wait is told -/
def ptB (D : RttD) (de tr : Int) : Bool := rtB D && (tkB de && (decide (0 ≤ tr) && decide (tr ≤ 10)))
/-- four times how far it goes, at least 1 -/
def ptV (D : RttD) : Int := if 4 * D.va < 1 then 1 else 4 * D.va
/-- the first wait -/
def ptF (D : RttD) (de : Int) : Int := if D.kn = true then D.sm + ptV D + de else 1000
/-- what is waited -/
def ptN (D : RttD) (de tr : Int) : Bool → Int
  | true => ptF D de * 2 ^ tr.toNat
  | false => 0
set_option maxHeartbeats 1000000 in
theorem toRtt_any (D : RttD) (w : World) : Calls Try.prog 21 #[rttV D] w fun e w' => e = .returned (rttV D) ∧ Below w.heap.size w w' := by
  go_enter Try.func21, Try.ntmps21
  go_wp2
  refine bodyPost_ret (v := rttV D) (by simp [results, Try.results21, go_sem]) rfl ⟨rfl, ?_⟩
  exact (((Below.refl _ _).alloc (Nat.le_refl _) _).alloc (by simp) _).alloc (by simp; omega) _
set_option maxHeartbeats 1000000 in
theorem eqRtt_same (D : RttD) (w : World) :
    Calls Try.prog 23 #[rttV D, rttV D] w fun e w' => e = .returned (.bool true) ∧ Below w.heap.size w w' := by
  go_enter Try.func23, Try.ntmps23
  go_wp2
  go_ret
  exact ⟨rfl, ((Below.refl _ _).alloc (Nat.le_refl _) _).alloc (by simp) _⟩
set_option maxHeartbeats 2000000 in
theorem specSR (D : RttD) (la de : Int) (w : World) :
    Calls Try.prog 20 #[rttV D, .int .i64 la, .int .i64 de] w fun e w' => e = .returned (.tuple #[rttV (srD D la de (srB D la de)), .bool (srB D la de)]) ∧ Below w.heap.size w w' := by
  have H0 := hide (specRt D)
  have H1 := hide (specTk la)
  have H2 := hide (specTk de)
  have HX := hide ((Bx.new w (rttC D) 37).alloc (.cells #[.bool false, .int .i64 0, .int .i64 0, .int .i64 0, .int .i64 0] 37))
  have HY := hide (Bx.newAt (w.alloc (.cells (rttC D).toArray 37)) (w.heap.size + 1) [.bool false, .int .i64 0, .int .i64 0, .int .i64 0, .int .i64 0] 37 (by simp))
  have B0 := hide (((Below.refl w.heap.size w).alloc (Nat.le_refl _) (.cells (rttC D).toArray 37)).alloc (by simp) (.cells #[.bool false, .int .i64 0, .int .i64 0, .int .i64 0, .int .i64 0] 37))
  cases e0 : rtB D with
  | false =>
    have er : srB D la de = false := by unfold srB; rw [e0]; rfl
    rw [er]
    rw [e0] at H0
    clear er e0
    go_enter Try.func20, Try.ntmps20
    go_wp2_with fail
    refine (unhide H0 _).mono ?_
    rintro e w1 ⟨rfl, b1⟩
    have y1 := ((unhide HY).below b1).cv
    have y1f := ((unhide HY).below b1).fz
    have s1 := ((unhide HY).below b1).lt
    have B1 := hide ((unhide B0).trans (b1.mono (unhide B0).size))
    clear b1
    go_wp2
    refine bodyPost_ret (v := .tuple #[rttZ, .bool false]) (by simp [results, Try.results20, go_sem, y1]) rfl ⟨rfl, ?_⟩
    iterate 5 refine Below.setCell ?_ (by simp) _
    exact unhide B1
  | true =>
    rw [e0] at H0
    cases e1 : tkB la with
    | false =>
      have er : srB D la de = false := by unfold srB; rw [e0, e1]; rfl
      rw [er]
      rw [e1] at H1
      clear er e0 e1
      go_enter Try.func20, Try.ntmps20
      go_wp2_with fail
      refine (unhide H0 _).mono ?_
      rintro e w1 ⟨rfl, b1⟩
      have y1 := ((unhide HY).below b1).cv
      have y1f := ((unhide HY).below b1).fz
      have s1 := ((unhide HY).below b1).lt
      have B1 := hide ((unhide B0).trans (b1.mono (unhide B0).size))
      clear b1
      go_wp2_with (go_at_call 45; refine (unhide H1 _).mono ?_; rintro e w9 ⟨rfl, h9⟩; rw [h9]; clear h9 w9)
      refine bodyPost_ret (v := .tuple #[rttZ, .bool false]) (by simp [results, Try.results20, go_sem, y1]) rfl ⟨rfl, ?_⟩
      iterate 5 refine Below.setCell ?_ (by simp) _
      exact unhide B1
    | true =>
      rw [e1] at H1
      cases e2 : tkB de with
      | false =>
        have er : srB D la de = false := by unfold srB; rw [e0, e1, e2]; rfl
        rw [er]
        rw [e2] at H2
        clear er e0 e1 e2
        go_enter Try.func20, Try.ntmps20
        go_wp2_with fail
        refine (unhide H0 _).mono ?_
        rintro e w1 ⟨rfl, b1⟩
        have y1 := ((unhide HY).below b1).cv
        have y1f := ((unhide HY).below b1).fz
        have s1 := ((unhide HY).below b1).lt
        have B1 := hide ((unhide B0).trans (b1.mono (unhide B0).size))
        clear b1
        go_wp2_with (first | (go_at_call 45; with_reducible refine (unhide H1 _).mono ?_; rintro e w9 ⟨rfl, h9⟩; rw [h9]; clear h9 w9) | (go_at_call 45; with_reducible refine (unhide H2 _).mono ?_; rintro e w9 ⟨rfl, h9⟩; rw [h9]; clear h9 w9))
        refine bodyPost_ret (v := .tuple #[rttZ, .bool false]) (by simp [results, Try.results20, go_sem, y1]) rfl ⟨rfl, ?_⟩
        iterate 5 refine Below.setCell ?_ (by simp) _
        exact unhide B1
      | true =>
        have er : srB D la de = true := by unfold srB; rw [e0, e1, e2]; rfl
        rw [er]
        rw [e2] at H2
        have H3 := hide (fun W => specSm D la de W e0 e1 e2)
        show Calls _ _ _ _ fun e w' => e = .returned (.tuple #[rttV (smD D la de), .bool true]) ∧ Below w.heap.size w w'
        generalize smD D la de = E at *
        clear er e0 e1 e2
        go_enter Try.func20, Try.ntmps20
        go_wp2_with fail
        refine (unhide H0 _).mono ?_
        rintro e w1 ⟨rfl, b1⟩
        have HX1 := hide ((unhide HX).below b1)
        have HY1 := hide ((unhide HY).below b1)
        have B1 := hide ((unhide B0).trans (b1.mono (unhide B0).size))
        have x1 := (unhide HX1).cv
        clear b1
        go_wp2_with (first | (go_at_call 45; with_reducible refine (unhide H1 _).mono ?_; rintro e w9 ⟨rfl, h9⟩; rw [h9]; clear h9 w9) | (go_at_call 45; with_reducible refine (unhide H2 _).mono ?_; rintro e w9 ⟨rfl, h9⟩; rw [h9]; clear h9 w9))
        refine (unhide H3 _).mono ?_
        rintro e w2 ⟨rfl, b2⟩
        have y2 := ((unhide HY1).below b2).cv
        have y2f := ((unhide HY1).below b2).fz
        have s2 := ((unhide HY1).below b2).lt
        have B2 := hide ((unhide B1).trans (b2.mono (unhide B1).size))
        clear b2 x1
        go_wp2
        refine bodyPost_ret (v := .tuple #[rttV E, .bool true]) (by simp [results, Try.results20, go_sem, y2]) rfl ⟨rfl, ?_⟩
        iterate 5 refine Below.setCell ?_ (by simp) _
        exact unhide B2
theorem wrap_shl (n : Int) (k : Nat) (h0 : 0 ≤ n) (h1 : n ≤ 10000000000) (hk : k ≤ 10) : wrap64 (n * 2 ^ k) = n * 2 ^ k := by
  have h : k = 0 ∨ k = 1 ∨ k = 2 ∨ k = 3 ∨ k = 4 ∨ k = 5 ∨ k = 6 ∨ k = 7 ∨ k = 8 ∨ k = 9 ∨ k = 10 := by omega
  rcases h with rfl | rfl | rfl | rfl | rfl | rfl | rfl | rfl | rfl | rfl | rfl <;> (unfold wrap64; simp only [Int.reducePow]; omega)
end Go.Proofs.Ytjmknfedanmcnaa.Rc
