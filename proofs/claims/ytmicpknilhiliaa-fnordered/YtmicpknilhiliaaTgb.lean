/-
  Contracts of the program: where the last byte ends, whether an end is missed; what of a piece lies at a place and behind it; two pieces as one.
-/
import Derived.Test.YtmicpknilhiliaaTga
import Derived.Test.YtmicpknilhiliaaStc
import Derived.Deep.RegionLaw
import Derived.Deep.RegionHeld3
namespace Go.Proofs.Ytmicpknilhiliaa.Rc
open Go.ChangeShapes Go.WideShapes Go.ChangeAt Go.RowKit Go.Deep
set_option linter.unusedVariables false
set_option maxRecDepth 100000

set_option maxHeartbeats 4000000 in
theorem implRE (D : InflowD) (a : Option Addr) (c : Nat) (W : World) (ok : okP D.P) (hn : D.P.length ≤ 1048576) (h : Rd pieceK W a D.P) :
    Calls Try.prog 48 #[inflowV D a c] W fun e w' => e = .returned (.int .i64 (lE D.re D.P)) ∧ Below W.heap.size W w' := by
  obtain ⟨V0, hV0⟩ : ∃ V, V = W.alloc (.cells (inflowC D a c).toArray 39) := ⟨_, rfl⟩
  have A0 := hide (show Bx V0 W.heap.size (inflowC D a c) by rw [hV0]; exact Bx.new W _ _)
  have B0 := hide (show Below W.heap.size W V0 by rw [hV0]; exact (Below.refl W.heap.size W).alloc (Nat.le_refl _) _)
  have HR := h.below (unhide B0)
  have HV0 := hide hV0
  have a0 := (unhide A0).cv
  have a0l := (unhide A0).lt
  obtain ⟨li, re, fi, P⟩ := D
  dsimp only at *
  clear hV0 h
  by_cases hz : P.length = 0
  · rw [lE_nil hz]
    have t0 : ((P.length : Int) == 0) = true := by simp [hz]
    clear HR ok hz
    go_enter Try.func48, Try.ntmps48
    go_upto_region 1 with fail
    rw [← unhide HV0]
    clear HV0
    go_wp2
    go_ret
    exact ⟨rfl, unhide B0⟩
  · obtain ⟨n, hk⟩ : ∃ n, P.length = n + 1 := ⟨P.length - 1, by omega⟩
    rw [lE_gt hk]
    rcases HR with h9 | ⟨b, o, rfl, _, hel⟩
    · rw [h9] at hz; exact absurd rfl hz
    have c0 := piece_r0 hel (k := n) (by omega)
    have c1 := piece_r1 hel (k := n) (by omega)
    have hok := ok _ (gt_mem pieceK P n (by omega))
    generalize gt pieceK P n = x at *
    have HEN := hide (fun W => implEnd x W hok.1.1 hok.1.2 hok.2)
    have t0 : ((P.length : Int) == 0) = false := by rw [beq_eq_false_iff_ne]; omega
    have t1 : ¬ (P.length : Int) = 0 := by omega
    have e1 : IntKind.i64.wrap ((P.length : Int) - 1) = (n : Int) := by rw [IntKind.wrap_i64]; omega
    have n1 : (n : Int) < (P.length : Int) := by omega
    have n2 : (0 : Int) ≤ (n : Int) := by omega
    have HK := hide hk
    clear hel ok hok hk hz
    go_enter Try.func48, Try.ntmps48
    go_upto_region 1 with fail
    rw [← unhide HV0]
    clear HV0
    go_wp2_with fail
    refine (unhide HEN _).mono ?_
    rintro e w1 ⟨rfl, b1⟩
    have B1 := hide ((unhide B0).trans (b1.mono (unhide B0).size))
    clear b1
    go_wp2
    go_ret
    exact ⟨rfl, unhide B1⟩
/-- whether the end that is known, or what came, speaks against an end: as the program asks -/
def miB (D : InflowD) (e : Int) (fin : Bool) : Bool := (!decide (D.fi = -1) && (decide (D.fi < e) || (fin && decide (e < D.fi)))) || (fin && decide (e < lE D.re D.P))
theorem mi_fn (D : InflowD) (e : Int) (fin : Bool) : miB D e fin = fnB D e fin := by
  unfold miB fnB
  generalize lE D.re D.P = l
  rw [Bool.eq_iff_iff]
  cases fin <;> simp only [Bool.and_eq_true, Bool.or_eq_true, Bool.not_eq_true', decide_eq_true_eq, decide_eq_false_iff_not, Bool.false_and, Bool.true_and, Bool.or_false, Bool.false_or] <;> omega
set_option maxHeartbeats 4000000 in
theorem implMF (D : InflowD) (a : Option Addr) (c : Nat) (en : Int) (fin : Bool) (W : World) (ok : okP D.P) (hn : D.P.length ≤ 1048576) (h : Rd pieceK W a D.P) :
    Calls Try.prog 43 #[inflowV D a c, .int .i64 en, .bool fin] W fun e w' => e = .returned (.bool (fnB D en fin)) ∧ Below W.heap.size W w' := by
  rw [← mi_fn]
  obtain ⟨V0, hV0⟩ : ∃ V, V = W.alloc (.cells (inflowC D a c).toArray 39) := ⟨_, rfl⟩
  have A0 := hide (show Bx V0 W.heap.size (inflowC D a c) by rw [hV0]; exact Bx.new W _ _)
  have B0 := hide (show Below W.heap.size W V0 by rw [hV0]; exact (Below.refl W.heap.size W).alloc (Nat.le_refl _) _)
  have HK := hide (implKF D a c)
  have HRE := hide (fun V (b : Below W.heap.size W V) => implRE D a c V ok hn (h.below b))
  have HE : Hid (miB D en fin = ((!decide (D.fi = -1) && (decide (D.fi < en) || (fin && decide (en < D.fi)))) || (fin && decide (en < lE D.re D.P)))) := rfl
  obtain ⟨g, hg⟩ : ∃ g, miB D en fin = g := ⟨_, rfl⟩
  rw [hg] at HE ⊢
  have HV0 := hide hV0
  have a0 := (unhide A0).cv
  have a0l := (unhide A0).lt
  clear hV0 h ok hg
  generalize lE D.re D.P = l at *
  generalize decide (D.fi = -1) = kn at *
  obtain ⟨li, re, fi, P⟩ := D
  dsimp only at *
  go_enter Try.func43, Try.ntmps43
  go_upto_region 1 with fail
  rw [← unhide HV0]
  clear HV0
  go_wp2_with fail
  refine (unhide HK _).mono ?_
  rintro e w1 ⟨rfl, b1⟩
  have A1 := hide ((unhide A0).below b1)
  have B1 := hide ((unhide B0).trans (b1.mono (unhide B0).size))
  have y0 := (unhide A1).cv
  have y0l := (unhide A1).lt
  clear b1 a0 a0l A0 B0
  have fin2 : Hid (∀ r : Bool, g = r → Ending.returned (.bool r) = Ending.returned (.bool g)) := fun r h => by rw [h]
  cases kn with
  | true =>
    cases fin with
    | false =>
      have hg := hide (unhide fin2 false (by rw [unhide HE]; rfl))
      clear HE fin2
      go_wp2
      go_ret
      exact ⟨unhide hg, unhide B1⟩
    | true =>
      have hg := hide (unhide fin2 (decide (en < l)) (by rw [unhide HE]; rfl))
      clear HE fin2
      go_wp2_with fail
      refine (unhide HRE _ (unhide B1)).mono ?_
      rintro e w2 ⟨rfl, b2⟩
      have B2 := hide ((unhide B1).trans (b2.mono (unhide B1).size))
      clear b2
      go_wp2
      go_ret
      exact ⟨unhide hg, unhide B2⟩
  | false =>
    by_cases h1 : fi < en
    · have t1 : decide (fi < en) = true := decide_eq_true h1
      have hg := hide (unhide fin2 true (by rw [unhide HE, t1]; rfl))
      clear HE fin2
      go_wp2
      go_ret
      exact ⟨unhide hg, unhide B1⟩
    · have t1 : decide (fi < en) = false := decide_eq_false h1
      cases fin with
      | false =>
        have hg := hide (unhide fin2 false (by rw [unhide HE, t1]; rfl))
        clear HE fin2
        go_wp2
        go_ret
        exact ⟨unhide hg, unhide B1⟩
      | true =>
        by_cases h2 : en < fi
        · have t2 : decide (en < fi) = true := decide_eq_true h2
          have hg := hide (unhide fin2 true (by rw [unhide HE, t1, t2]; rfl))
          clear HE fin2
          go_wp2
          go_ret
          exact ⟨unhide hg, unhide B1⟩
        · have t2 : decide (en < fi) = false := decide_eq_false h2
          have hg := hide (unhide fin2 (decide (en < l)) (by rw [unhide HE, t1, t2]; rfl))
          clear HE fin2
          go_wp2_with fail
          refine (unhide HRE _ (unhide B1)).mono ?_
          rintro e w2 ⟨rfl, b2⟩
          have B2 := hide ((unhide B1).trans (b2.mono (unhide B1).size))
          clear b2
          go_wp2
          go_ret
          exact ⟨unhide hg, unhide B2⟩
end Go.Proofs.Ytmicpknilhiliaa.Rc
