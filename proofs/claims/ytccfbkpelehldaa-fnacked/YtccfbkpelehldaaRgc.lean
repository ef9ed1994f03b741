/-
  Contracts: PutNumber and HasNumber of the model.
-/
import Derived.Test.YtccfbkpelehldaaRgb
namespace Go.Proofs.Ytccfbkpelehldaa.Rc
open Go.ChangeShapes Go.WideShapes Go.ChangeAt Go.RowKit Go.Deep
set_option linter.unusedVariables false
set_option maxRecDepth 100000

/-- a number as it is told -/
def knB (n : Int) : Bool := decide (0 ≤ n) && decide (n ≤ 4611686018427387903)
theorem specKn (n : Int) (w : World) : Calls Try.prog 46 #[.int .i64 n] w fun e w' => e = .returned (.bool (knB n)) ∧ w' = w := by
  have H := hide (inB n 0 4611686018427387903)
  go_enter Try.func46, Try.ntmps46
  go_wp2_with fail
  refine (unhide H _).mono ?_
  rintro e w1 ⟨rfl, h9⟩
  rw [h9]
  clear h9 w1
  go_wp2
  go_ret
  exact ⟨rfl, rfl⟩
/-- whether a number is put, and what comes of it -/
def pnB (L : List RangeD) (n : Int) : Bool := grB L && knB n
def pnL (L : List RangeD) (n : Int) : Bool → List RangeD
  | true => (putG L ⟨n, n⟩ false).take 20
  | false => []
theorem pnL_len (L : List RangeD) (n : Int) (r : Bool) : (pnL L n r).length ≤ 20 := by
  cases r with
  | true => show ((putG L ⟨n, n⟩ false).take 20).length ≤ 20; rw [List.length_take]; omega
  | false => exact Nat.zero_le _
set_option maxHeartbeats 4000000 in
theorem specPN (L : List RangeD) (n : Int) (hn : L.length ≤ 1048576) (ho : rgO L) (W : World) (a : Option Addr) (cap : Nat) (h : Rd rangeK W a L) :
    Calls Try.prog 37 #[.slice a L.length cap, .int .i64 n] W fun e w' => ∃ (a' : Option Addr) (c' : Nat), e = .returned (.tuple #[.slice a' (pnL L n (pnB L n)).length c', .bool (pnB L n)]) ∧ Rd rangeK w' a' (pnL L n (pnB L n)) ∧ Below W.heap.size W w' := by
  have H0 := hide (specGR a cap L W hn ho h)
  have H1 := hide (specKn n)
  cases e0 : grB L with
  | false =>
    have er : pnB L n = false := by unfold pnB; rw [e0]; rfl
    rw [er]
    rw [e0] at H0
    clear er e0 h
    go_enter Try.func37, Try.ntmps37
    go_wp2_with fail
    refine (unhide H0).mono ?_
    rintro e w1 ⟨rfl, b1⟩
    have B1 := hide b1
    clear b1
    go_wp2
    go_ret2
    exact ⟨none, 0, rfl, Or.inl rfl, unhide B1⟩
  | true =>
    rw [e0] at H0
    cases e1 : knB n with
    | false =>
      have er : pnB L n = false := by unfold pnB; rw [e0, e1]; rfl
      rw [er]
      rw [e1] at H1
      clear er e0 e1 h
      go_enter Try.func37, Try.ntmps37
      go_wp2_with fail
      refine (unhide H0).mono ?_
      rintro e w1 ⟨rfl, b1⟩
      have B1 := hide b1
      clear b1
      go_wp2_with (go_at_call 46; refine (unhide H1 _).mono ?_; rintro e w9 ⟨rfl, h9⟩; rw [h9]; clear h9 w9)
      go_ret2
      exact ⟨none, 0, rfl, Or.inl rfl, unhide B1⟩
    | true =>
      have er : pnB L n = true := by unfold pnB; rw [e0, e1]; rfl
      rw [er]
      rw [e1] at H1
      have kn : 0 ≤ n ∧ n ≤ 4611686018427387903 := by unfold knB at e1; simpa using e1
      have l20 : L.length ≤ 20 := by unfold grB at e0; rw [Bool.and_eq_true, decide_eq_true_eq] at e0; exact e0.1
      have H2 := hide (fun W1 (b : Below W.heap.size W W1) => specPu a cap L ⟨n, n⟩ W1 (by omega) (gr_bd e0) ⟨kn, kn⟩ (h.below b))
      have hlen := putG_len L ⟨n, n⟩ false
      show Calls _ _ _ _ fun e w' => ∃ (a' : Option Addr) (c' : Nat), e = .returned (.tuple #[.slice a' ((putG L ⟨n, n⟩ false).take 20).length c', .bool true]) ∧ Rd rangeK w' a' ((putG L ⟨n, n⟩ false).take 20) ∧ Below W.heap.size W w'
      generalize putG L ⟨n, n⟩ false = R at *
      clear er e0 e1 h ho
      go_enter Try.func37, Try.ntmps37
      go_wp2_with fail
      refine (unhide H0).mono ?_
      rintro e w1 ⟨rfl, b1⟩
      have B1 := hide b1
      clear b1
      go_wp2_with (go_at_call 46; refine (unhide H1 _).mono ?_; rintro e w9 ⟨rfl, h9⟩; rw [h9]; clear h9 w9)
      refine (unhide H2 _ (unhide B1)).mono ?_
      rintro e w2 ⟨v, rfl, o2, b2⟩
      obtain ⟨a2, c2, rfl, hc2, i2⟩ := o2.form
      have B2 := hide ((unhide B1).trans (b2.mono (unhide B1).size))
      have I2 := hide i2
      clear b2 o2 i2 H0 H1 H2
      by_cases h20 : R.length ≤ 20
      · have e9 : Hid (R.take 20 = R) := List.take_of_length_le h20
        have g9 : ¬ (20 : Int) < (R.length : Int) := by omega
        clear h20 hlen
        go_wp2
        go_ret2
        exact ⟨a2, c2, by rw [unhide e9]; rfl, by rw [unhide e9]; exact (unhide I2).rd, unhide B2⟩
      · have e9 : Hid ((R.take 20).length = 20) := by show _ = _; rw [List.length_take]; omega
        have g9 : (20 : Int) < (R.length : Int) := by omega
        have g8 : (20 : Int) ≤ (c2 : Int) := by omega
        clear h20 hlen
        go_wp2
        go_ret2
        exact ⟨a2, c2, by rw [unhide e9]; rfl, ((unhide I2).take 20).rd, unhide B2⟩
/-- whether HasNumber says yes -/
def hnB (L : List RangeD) (n : Int) : Bool := grB L && hasB L n
set_option maxHeartbeats 4000000 in
theorem specHN (L : List RangeD) (n : Int) (hn : L.length ≤ 1048576) (ho : rgO L) (W : World) (a : Option Addr) (cap : Nat) (h : Rd rangeK W a L) :
    Calls Try.prog 9 #[.slice a L.length cap, .int .i64 n] W fun e w' => e = .returned (.tuple #[.bool (hnB L n), .bool (grB L)]) ∧ Below W.heap.size W w' := by
  have H0 := hide (specGR a cap L W hn ho h)
  have H1 := hide (fun W1 (b : Below W.heap.size W W1) => specHs a cap L n W1 hn (h.below b))
  unfold hnB
  generalize grB L = r at *
  generalize hasB L n = q at *
  clear h ho
  cases r with
  | false =>
    go_enter Try.func9, Try.ntmps9
    go_wp2_with fail
    refine (unhide H0).mono ?_
    rintro e w1 ⟨rfl, b1⟩
    have B1 := hide b1
    clear b1
    go_wp2
    go_ret2
    exact ⟨rfl, unhide B1⟩
  | true =>
    go_enter Try.func9, Try.ntmps9
    go_wp2_with fail
    refine (unhide H0).mono ?_
    rintro e w1 ⟨rfl, b1⟩
    have B1 := hide b1
    clear b1
    go_wp2_with fail
    refine (unhide H1 _ (unhide B1)).mono ?_
    rintro e w2 ⟨rfl, b2⟩
    have B2 := hide ((unhide B1).trans (b2.mono (unhide B1).size))
    clear b2
    go_wp2
    go_ret2
    exact ⟨rfl, unhide B2⟩
end Go.Proofs.Ytccfbkpelehldaa.Rc
