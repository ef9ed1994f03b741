/-
  The law on numbers that come back, walked.
-/
import Derived.Test.YtipdeehoggemhaaDoorVrt
namespace Go.Proofs.YtipdeehoggemhaaDoor.fnVarints
open Go.ChangeShapes Go.WideShapes Go.ChangeAt Go.RowKit
set_option linter.unusedVariables false
def moreB : ByteArray := ⟨#[109, 111, 114, 101]⟩
theorem take_back (n : Int) (w : World) (h0 : 0 ≤ n) (h1 : n ≤ 4611686018427387903) :
    Calls Tryd.prog 7 #[.string (⟨(vb n).toArray⟩ ++ moreB)] w fun e w' => e = .returned (.tuple #[.int .i64 n, .int .i64 (vsz n : Nat)]) ∧ w = w' := by
  have hl := vb_length n
  have hv := vsz_le n
  have h := implTake_any (⟨(vb n).toArray⟩ ++ moreB) w (by
    have : (⟨(vb n).toArray⟩ : ByteArray).size = (vb n).length := by show (vb n).toArray.size = _; simp
    have : moreB.size = 4 := rfl
    unfold maxLen; rw [ByteArray.size_append]; omega)
  rw [show (⟨(vb n).toArray⟩ ++ moreB : ByteArray).data.toList = vb n ++ moreB.data.toList by simp, vb_tk n h0 h1] at h
  exact h

set_option maxHeartbeats 2000000 in
theorem walk_small (a : Option Addr) (N cap : Nat) (b : Option Addr) (M cap2 : Nat) (w : World) (hl : N + M ≤ 1048576) (ha : Cd w a N) (hb : Cd w b M) (htz : Tz w) :
    Calls Tryd.prog 3 #[.slice a N cap, .slice b M cap2] w fun e w' => e = .returned (.bool true) ∧ Below w.heap.size w w' := by
  have HA := hide ha
  have HB := hide hb
  have HT := hide htz
  clear ha hb htz
  have hs1 : (N : Int) + (M : Int) ≤ 1048576 := by omega
  go_enter Tryd.func3, Tryd.ntmps3
  go_wp2_with fail
  refine (drawVarint_any a N cap _ (by omega) (unhide HA)).mono ?_
  rintro e w1 ⟨n, rfl, hn, hb1⟩
  cases hk : kn n with
  | false =>
    have HI := hide (fun w => implVB_no n w hk)
    have HS := hide (fun w => specVB_no n w hk)
    clear hk hn
    go_wp2_with fail
    refine (unhide HI _).mono ?_
    rintro e w2 ⟨rfl, hb2⟩
    have B2 := hb1.trans (hb2.mono hb1.size)
    go_wp2_with fail
    refine (unhide HS _).mono ?_
    rintro e w3 ⟨rfl, hb3⟩
    go_wp2
    go_ret
    exact ⟨rfl, B2.trans (hb3.mono B2.size)⟩
  | true =>
    have hk' := hk
    unfold kn at hk'
    simp only [Bool.and_eq_true, decide_eq_true_eq] at hk'
    obtain ⟨h0, h1⟩ := hk'
    have HI := hide (fun w hz => implVB_yes n w h0 h1 hz)
    have HS := hide (fun w => specVB_yes n w hk h0 h1)
    have HZ := hide (fun w => implSize_yes n w h0 h1)
    have HK := hide (fun w => take_back n w h0 h1)
    have hsz : (⟨(vb n).toArray⟩ : ByteArray).size = vsz n := by rw [← vb_length n]; show (vb n).toArray.size = _; simp
    have hv := vsz_le n
    have ad := fun W : World => run_string_add_sum (P := Tryd.prog) (w := W) ⟨(vb n).toArray⟩ moreB (by have : moreB.size = 4 := rfl; omega)
    clear hk hn
    go_wp2_with fail
    refine (unhide HI _ ((unhide HT).below hb1)).mono ?_
    rintro e w2 ⟨rfl, hb2⟩
    have B2 := hb1.trans (hb2.mono hb1.size)
    go_wp2_with fail
    refine (unhide HS _).mono ?_
    rintro e w3 ⟨rfl, hb3⟩
    have B3 := B2.trans (hb3.mono B2.size)
    clear hb1 hb2 hb3 B2
    go_wp2_with fail
    refine (unhide HK _).mono ?_
    rintro e w4 ⟨rfl, rfl⟩
    go_wp2_with fail
    refine (unhide HZ _).mono ?_
    rintro e w5 ⟨rfl, rfl⟩
    go_wp2_with fail
    refine (drawVarint_any b M cap2 _ (by omega) ((unhide HB).below B3)).mono ?_
    rintro e w6 ⟨k, rfl, hk2, hb6⟩
    have B6 := B3.trans (hb6.mono B3.size)
    cases hk : kn k with
    | false =>
      have HY := hide (fun w => implSize_no k w hk)
      clear hk hk2
      go_wp2_with fail
      refine (unhide HY _).mono ?_
      rintro e w7 ⟨rfl, rfl⟩
      go_wp2
      go_ret
      exact ⟨rfl, B6⟩
    | true =>
      have hk' := hk
      unfold kn at hk'
      simp only [Bool.and_eq_true, decide_eq_true_eq] at hk'
      obtain ⟨g0, g1⟩ := hk'
      have HY := hide (fun w => implSize_yes k w g0 g1)
      clear hk hk2
      by_cases hlt : k < n
      · go_wp2_with fail
        refine (unhide HY _).mono ?_
        rintro e w7 ⟨rfl, rfl⟩
        go_wp2
        go_ret
        exact ⟨rfl, B6⟩
      · have hm := vsz_mono (show n ≤ k by omega)
        go_wp2_with fail
        refine (unhide HY _).mono ?_
        rintro e w7 ⟨rfl, rfl⟩
        go_wp2
        go_ret
        exact ⟨rfl, B6⟩

theorem walk_big (a : Option Addr) (N cap : Nat) (b : Option Addr) (M cap2 : Nat) (w : World) (hN : N ≤ 140737488355328) (hM : M ≤ 140737488355328) (hl : 1048576 < N + M) :
    Calls Tryd.prog 3 #[.slice a N cap, .slice b M cap2] w fun e w' => e = .returned (.bool true) ∧ Below w.heap.size w w' := by
  have hs1 : (1048576 : Int) < (N : Int) + (M : Int) := by omega
  go_enter Tryd.func3, Tryd.ntmps3
  go_wp2
  go_ret
  exact ⟨rfl, Below.refl _ _⟩

theorem walk (a : Option Addr) (N cap : Nat) (b : Option Addr) (M cap2 : Nat) (w : World) (hN : N ≤ 140737488355328) (hM : M ≤ 140737488355328) (ha : Cd w a N) (hb : Cd w b M) (htz : Tz w) :
    Calls Tryd.prog 3 #[.slice a N cap, .slice b M cap2] w fun e w' => e = .returned (.bool true) ∧ Below w.heap.size w w' := by
  by_cases hl : 1048576 < N + M
  · exact walk_big a N cap b M cap2 w hN hM hl
  · exact walk_small a N cap b M cap2 w (by omega) ha hb htz
end Go.Proofs.YtipdeehoggemhaaDoor.fnVarints
