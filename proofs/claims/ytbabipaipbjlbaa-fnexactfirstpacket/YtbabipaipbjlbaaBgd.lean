/-
  Contracts: GoodBalancer of both sides.
-/
import Derived.Test.YtbabipaipbjlbaaBln
import Derived.Test.YtbabipaipbjlbaaLiv
namespace Go.Proofs.Ytbabipaipbjlbaa
open Go.ChangeShapes Go.WideShapes Go.ChangeAt Go.RowKit Go.Deep
set_option linter.unusedVariables false
set_option maxRecDepth 100000

/-- keys just where they are needed -/
def rtB (F : Nat → ByteArray) (n : Nat) : Bool → Bool
  | true => gkB F n
  | false => decide (n = 0)
/-- a balancer is good -/
def gbB (D : BlD) : Bool := gtB D.T && (glB (tA D.L) D.L.length && (decide (1 ≤ D.sh ∧ D.sh ≤ 20) && (rtB (tA D.K) D.K.length D.re && (decide (0 ≤ D.lf ∧ D.lf ≤ 1000000) && decide (1 ≤ D.ve ∧ D.ve ≤ 4294967295)))))
theorem goodSh (t : Int) (w : World) :
    Calls Try.prog 36 #[.int .i64 t] w fun e w' => e = .returned (.bool (decide (0 ≤ t ∧ t ≤ 20))) ∧ w' = w := by
  by_cases h0 : 0 ≤ t
  · rw [show decide (0 ≤ t ∧ t ≤ 20) = decide (t ≤ 20) from decide_eq_decide.2 (by omega)]
    go_enter Try.func36, Try.ntmps36
    go_wp2
    go_ret
    exact ⟨rfl, rfl⟩
  · rw [decide_eq_false (by omega)]
    go_enter Try.func36, Try.ntmps36
    go_wp2
    go_ret
    exact ⟨rfl, rfl⟩
theorem goodVe (t : Int) (w : World) :
    Calls Try.prog 64 #[.int .i64 t] w fun e w' => e = .returned (.bool (decide (1 ≤ t ∧ t ≤ 4294967295))) ∧ w' = w := by
  by_cases h0 : 1 ≤ t
  · rw [show decide (1 ≤ t ∧ t ≤ 4294967295) = decide (t ≤ 4294967295) from decide_eq_decide.2 (by omega)]
    go_enter Try.func64, Try.ntmps64
    go_wp2
    go_ret
    exact ⟨rfl, rfl⟩
  · rw [decide_eq_false (by omega)]
    go_enter Try.func64, Try.ntmps64
    go_wp2
    go_ret
    exact ⟨rfl, rfl⟩
theorem goodRt (re : Bool) (a : Option Addr) (n cap : Nat) (F : Nat → ByteArray) (w : World) (hn : n ≤ 1048576) (hs : ∀ i, i < n → (F i).size ≤ 1048576) (h : Sa w a n F) :
    Calls Try.prog 62 #[.bool re, .slice a n cap] w fun e w' => e = .returned (.bool (rtB F n re)) ∧ w' = w := by
  have HK := hide (goodKs a n cap F w hn hs h)
  unfold rtB
  cases re
  · have e : decide ((n : Int) = 0) = decide (n = 0) := decide_eq_decide.2 (by omega)
    have HE := hide e
    clear e h hs
    go_enter Try.func62, Try.ntmps62
    go_wp2
    go_ret
    refine ⟨?_, rfl⟩
    dsimp only
    rw [← unhide HE]
    rfl
  · dsimp only
    clear h hs
    generalize gkB F n = r at *
    go_enter Try.func62, Try.ntmps62
    go_wp2_with fail
    refine (unhide HK).mono ?_
    rintro e w1 ⟨rfl, h9⟩
    rw [h9]
    clear h9 w1
    go_wp2
    go_ret
    exact ⟨rfl, rfl⟩
set_option maxHeartbeats 4000000 in
theorem implGBl (D : BlD) (ta la ka : Option Addr) (tc lc kc : Nat) (w : World) (hs : smB D) (h : Bl w ta la ka D) :
    Calls Try.prog 30 #[blV D ta tc la lc ka kc] w fun e w' => e = .returned (.bool (gbB D)) ∧ Below w.heap.size w w' := by
  have H0 := hide (fun W (b : Below w.heap.size w W) => implGT ta tc D.T W hs.ok hs.t.2.1 (h.t.below b))
  have H1 := hide (fun W (b : Below w.heap.size w W) => implGL la D.L.length lc (tA D.L) W hs.l hs.lz (h.l.kept b))
  have H2 := hide (goodSh D.sh)
  have H3 := hide (fun W (b : Below w.heap.size w W) => goodRt D.re ka D.K.length kc (tA D.K) W hs.k hs.kz (h.k.kept b))
  have H4 := hide (goodLf D.lf)
  have H5 := hide (goodVe D.ve)
  have HX := hide (Bx.new w (blC D ta tc la lc ka kc) 35)
  unfold gbB
  clear h hs
  generalize gtB D.T = r0 at *
  generalize glB (tA D.L) D.L.length = r1 at *
  generalize rtB (tA D.K) D.K.length D.re = r3 at *
  generalize decide (0 ≤ D.lf ∧ D.lf ≤ 1000000) = r4 at *
  generalize decide (1 ≤ D.ve ∧ D.ve ≤ 4294967295) = r5 at *
  cases r0
  case false =>
    go_enter Try.func30, Try.ntmps30
    go_wp2_with fail
    refine (unhide H0 _ ((Below.refl _ _).alloc (Nat.le_refl _) _)).mono ?_
    rintro e w1 ⟨rfl, b1⟩
    have B1 : Hid (Below w.heap.size w w1) := ((Below.refl _ _).alloc (Nat.le_refl _) _).trans (b1.mono (by simp))
    have x1 := ((unhide HX).below b1).cv
    clear b1
    go_wp2
    go_ret
    exact ⟨rfl, unhide B1⟩
  rw [Bool.true_and]
  cases r1
  case false =>
    go_enter Try.func30, Try.ntmps30
    go_wp2_with fail
    refine (unhide H0 _ ((Below.refl _ _).alloc (Nat.le_refl _) _)).mono ?_
    rintro e w1 ⟨rfl, b1⟩
    have B1 : Hid (Below w.heap.size w w1) := ((Below.refl _ _).alloc (Nat.le_refl _) _).trans (b1.mono (by simp))
    have x1 := ((unhide HX).below b1).cv
    clear b1
    go_wp2_with fail
    refine (unhide H1 _ (unhide B1)).mono ?_
    rintro e w2 ⟨rfl, h9⟩
    rw [h9]
    clear h9 w2
    go_wp2
    go_ret
    exact ⟨rfl, unhide B1⟩
  rw [Bool.true_and]
  by_cases hp : 0 < D.sh
  case neg =>
    rw [decide_eq_false (show ¬ (1 ≤ D.sh ∧ D.sh ≤ 20) by omega), Bool.false_and]
    generalize decide (0 ≤ D.sh ∧ D.sh ≤ 20) = r2 at *
    have hp2 : decide (0 < D.sh) = false := decide_eq_false hp
    clear hp
    cases r2
    case false =>
      go_enter Try.func30, Try.ntmps30
      go_wp2_with fail
      refine (unhide H0 _ ((Below.refl _ _).alloc (Nat.le_refl _) _)).mono ?_
      rintro e w1 ⟨rfl, b1⟩
      have B1 : Hid (Below w.heap.size w w1) := ((Below.refl _ _).alloc (Nat.le_refl _) _).trans (b1.mono (by simp))
      have x1 := ((unhide HX).below b1).cv
      clear b1
      go_wp2_with fail
      refine (unhide H1 _ (unhide B1)).mono ?_
      rintro e w2 ⟨rfl, h9⟩
      rw [h9]
      clear h9 w2
      go_wp2_with fail
      refine (unhide H2 _).mono ?_
      rintro e w2 ⟨rfl, h9⟩
      rw [h9]
      clear h9 w2
      go_wp2
      go_ret
      exact ⟨rfl, unhide B1⟩
    case true =>
      go_enter Try.func30, Try.ntmps30
      go_wp2_with fail
      refine (unhide H0 _ ((Below.refl _ _).alloc (Nat.le_refl _) _)).mono ?_
      rintro e w1 ⟨rfl, b1⟩
      have B1 : Hid (Below w.heap.size w w1) := ((Below.refl _ _).alloc (Nat.le_refl _) _).trans (b1.mono (by simp))
      have x1 := ((unhide HX).below b1).cv
      clear b1
      go_wp2_with fail
      refine (unhide H1 _ (unhide B1)).mono ?_
      rintro e w2 ⟨rfl, h9⟩
      rw [h9]
      clear h9 w2
      go_wp2_with fail
      refine (unhide H2 _).mono ?_
      rintro e w2 ⟨rfl, h9⟩
      rw [h9]
      clear h9 w2
      go_wp2
      go_ret
      exact ⟨rfl, unhide B1⟩
  rw [show decide (1 ≤ D.sh ∧ D.sh ≤ 20) = decide (0 ≤ D.sh ∧ D.sh ≤ 20) from decide_eq_decide.2 (by omega)]
  generalize decide (0 ≤ D.sh ∧ D.sh ≤ 20) = r2 at *
  cases r2
  case false =>
    go_enter Try.func30, Try.ntmps30
    go_wp2_with fail
    refine (unhide H0 _ ((Below.refl _ _).alloc (Nat.le_refl _) _)).mono ?_
    rintro e w1 ⟨rfl, b1⟩
    have B1 : Hid (Below w.heap.size w w1) := ((Below.refl _ _).alloc (Nat.le_refl _) _).trans (b1.mono (by simp))
    have x1 := ((unhide HX).below b1).cv
    clear b1
    go_wp2_with fail
    refine (unhide H1 _ (unhide B1)).mono ?_
    rintro e w2 ⟨rfl, h9⟩
    rw [h9]
    clear h9 w2
    go_wp2_with fail
    refine (unhide H2 _).mono ?_
    rintro e w2 ⟨rfl, h9⟩
    rw [h9]
    clear h9 w2
    go_wp2
    go_ret
    exact ⟨rfl, unhide B1⟩
  rw [Bool.true_and]
  cases r3
  case false =>
    go_enter Try.func30, Try.ntmps30
    go_wp2_with fail
    refine (unhide H0 _ ((Below.refl _ _).alloc (Nat.le_refl _) _)).mono ?_
    rintro e w1 ⟨rfl, b1⟩
    have B1 : Hid (Below w.heap.size w w1) := ((Below.refl _ _).alloc (Nat.le_refl _) _).trans (b1.mono (by simp))
    have x1 := ((unhide HX).below b1).cv
    clear b1
    go_wp2_with fail
    refine (unhide H1 _ (unhide B1)).mono ?_
    rintro e w2 ⟨rfl, h9⟩
    rw [h9]
    clear h9 w2
    go_wp2_with fail
    refine (unhide H2 _).mono ?_
    rintro e w2 ⟨rfl, h9⟩
    rw [h9]
    clear h9 w2
    go_wp2_with fail
    refine (unhide H3 _ (unhide B1)).mono ?_
    rintro e w2 ⟨rfl, h9⟩
    rw [h9]
    clear h9 w2
    go_wp2
    go_ret
    exact ⟨rfl, unhide B1⟩
  rw [Bool.true_and]
  cases r4
  case false =>
    go_enter Try.func30, Try.ntmps30
    go_wp2_with fail
    refine (unhide H0 _ ((Below.refl _ _).alloc (Nat.le_refl _) _)).mono ?_
    rintro e w1 ⟨rfl, b1⟩
    have B1 : Hid (Below w.heap.size w w1) := ((Below.refl _ _).alloc (Nat.le_refl _) _).trans (b1.mono (by simp))
    have x1 := ((unhide HX).below b1).cv
    clear b1
    go_wp2_with fail
    refine (unhide H1 _ (unhide B1)).mono ?_
    rintro e w2 ⟨rfl, h9⟩
    rw [h9]
    clear h9 w2
    go_wp2_with fail
    refine (unhide H2 _).mono ?_
    rintro e w2 ⟨rfl, h9⟩
    rw [h9]
    clear h9 w2
    go_wp2_with fail
    refine (unhide H3 _ (unhide B1)).mono ?_
    rintro e w2 ⟨rfl, h9⟩
    rw [h9]
    clear h9 w2
    go_wp2_with fail
    refine (unhide H4 _).mono ?_
    rintro e w2 ⟨rfl, h9⟩
    rw [h9]
    clear h9 w2
    go_wp2
    go_ret
    exact ⟨rfl, unhide B1⟩
  rw [Bool.true_and]
  all_goals
    go_enter Try.func30, Try.ntmps30
    go_wp2_with fail
    refine (unhide H0 _ ((Below.refl _ _).alloc (Nat.le_refl _) _)).mono ?_
    rintro e w1 ⟨rfl, b1⟩
    have B1 : Hid (Below w.heap.size w w1) := ((Below.refl _ _).alloc (Nat.le_refl _) _).trans (b1.mono (by simp))
    have x1 := ((unhide HX).below b1).cv
    clear b1
    go_wp2_with fail
    refine (unhide H1 _ (unhide B1)).mono ?_
    rintro e w2 ⟨rfl, h9⟩
    rw [h9]
    clear h9 w2
    go_wp2_with fail
    refine (unhide H2 _).mono ?_
    rintro e w2 ⟨rfl, h9⟩
    rw [h9]
    clear h9 w2
    go_wp2_with fail
    refine (unhide H3 _ (unhide B1)).mono ?_
    rintro e w2 ⟨rfl, h9⟩
    rw [h9]
    clear h9 w2
    go_wp2_with fail
    refine (unhide H4 _).mono ?_
    rintro e w2 ⟨rfl, h9⟩
    rw [h9]
    clear h9 w2
    go_wp2_with fail
    refine (unhide H5 _).mono ?_
    rintro e w2 ⟨rfl, h9⟩
    rw [h9]
    clear h9 w2
    go_wp2
    go_ret
    exact ⟨rfl, unhide B1⟩
set_option maxHeartbeats 4000000 in
theorem specGBl (D : BlD) (ta la ka : Option Addr) (tc lc kc : Nat) (w : World) (hs : smB D) (h : Bl w ta la ka D) :
    Calls Try.prog 26 #[blV D ta tc la lc ka kc] w fun e w' => e = .returned (.bool (gbB D)) ∧ Below w.heap.size w w' := by
  have H0 := hide (fun W (b : Below w.heap.size w W) => specGT ta tc D.T W hs.ok hs.t.2.1 (h.t.below b))
  have H1 := hide (fun W (b : Below w.heap.size w W) => specGL la D.L.length lc (tA D.L) W hs.l hs.lz (h.l.kept b))
  have H2 := hide (inB D.sh 1 20)
  have H3 := hide (inB D.lf 0 1000000)
  have H4 := hide (inB D.ve 1 4294967295)
  have H5 := hide (inB (D.K.length : Int) 1 2)
  rw [← Bool.decide_and] at H2 H3 H4
  have HX := hide (Bx.new w (blC D ta tc la lc ka kc) 35)
  have HR := hide (fun W (b : Below w.heap.size w W) => h.k.kept b)
  have HS := hide hs.kz
  have hk := hs.k
  unfold gbB
  clear h hs
  generalize gtB D.T = r0 at *
  generalize glB (tA D.L) D.L.length = r1 at *
  generalize decide (1 ≤ D.sh ∧ D.sh ≤ 20) = r2 at *
  generalize decide (0 ≤ D.lf ∧ D.lf ≤ 1000000) = r3 at *
  generalize decide (1 ≤ D.ve ∧ D.ve ≤ 4294967295) = r4 at *
  cases r0
  case false =>
    go_enter Try.func26, Try.ntmps26
    go_wp2_with fail
    refine (unhide H0 _ ((Below.refl _ _).alloc (Nat.le_refl _) _)).mono ?_
    rintro e w1 ⟨rfl, b1⟩
    have B1 : Hid (Below w.heap.size w w1) := ((Below.refl _ _).alloc (Nat.le_refl _) _).trans (b1.mono (by simp))
    have x1 := ((unhide HX).below b1).cv
    clear b1
    go_wp2
    go_ret
    exact ⟨rfl, unhide B1⟩
  rw [Bool.true_and]
  cases r1
  case false =>
    go_enter Try.func26, Try.ntmps26
    go_wp2_with fail
    refine (unhide H0 _ ((Below.refl _ _).alloc (Nat.le_refl _) _)).mono ?_
    rintro e w1 ⟨rfl, b1⟩
    have B1 : Hid (Below w.heap.size w w1) := ((Below.refl _ _).alloc (Nat.le_refl _) _).trans (b1.mono (by simp))
    have x1 := ((unhide HX).below b1).cv
    clear b1
    go_wp2_with fail
    refine (unhide H1 _ (unhide B1)).mono ?_
    rintro e w2 ⟨rfl, h9⟩
    rw [h9]
    clear h9 w2
    go_wp2
    go_ret
    exact ⟨rfl, unhide B1⟩
  rw [Bool.true_and]
  cases r2
  case false =>
    go_enter Try.func26, Try.ntmps26
    go_wp2_with fail
    refine (unhide H0 _ ((Below.refl _ _).alloc (Nat.le_refl _) _)).mono ?_
    rintro e w1 ⟨rfl, b1⟩
    have B1 : Hid (Below w.heap.size w w1) := ((Below.refl _ _).alloc (Nat.le_refl _) _).trans (b1.mono (by simp))
    have x1 := ((unhide HX).below b1).cv
    clear b1
    go_wp2_with fail
    refine (unhide H1 _ (unhide B1)).mono ?_
    rintro e w2 ⟨rfl, h9⟩
    rw [h9]
    clear h9 w2
    go_wp2_with fail
    refine (unhide H2 _).mono ?_
    rintro e w2 ⟨rfl, h9⟩
    rw [h9]
    clear h9 w2
    go_wp2
    go_ret
    exact ⟨rfl, unhide B1⟩
  rw [Bool.true_and]
  cases r3
  case false =>
    rw [Bool.false_and, Bool.and_false]
    go_enter Try.func26, Try.ntmps26
    go_wp2_with fail
    refine (unhide H0 _ ((Below.refl _ _).alloc (Nat.le_refl _) _)).mono ?_
    rintro e w1 ⟨rfl, b1⟩
    have B1 : Hid (Below w.heap.size w w1) := ((Below.refl _ _).alloc (Nat.le_refl _) _).trans (b1.mono (by simp))
    have x1 := ((unhide HX).below b1).cv
    clear b1
    go_wp2_with fail
    refine (unhide H1 _ (unhide B1)).mono ?_
    rintro e w2 ⟨rfl, h9⟩
    rw [h9]
    clear h9 w2
    go_wp2_with fail
    refine (unhide H2 _).mono ?_
    rintro e w2 ⟨rfl, h9⟩
    rw [h9]
    clear h9 w2
    go_wp2_with fail
    refine (unhide H3 _).mono ?_
    rintro e w2 ⟨rfl, h9⟩
    rw [h9]
    clear h9 w2
    go_wp2
    go_ret
    exact ⟨rfl, unhide B1⟩
  rw [Bool.true_and]
  cases r4
  case false =>
    rw [Bool.and_false]
    go_enter Try.func26, Try.ntmps26
    go_wp2_with fail
    refine (unhide H0 _ ((Below.refl _ _).alloc (Nat.le_refl _) _)).mono ?_
    rintro e w1 ⟨rfl, b1⟩
    have B1 : Hid (Below w.heap.size w w1) := ((Below.refl _ _).alloc (Nat.le_refl _) _).trans (b1.mono (by simp))
    have x1 := ((unhide HX).below b1).cv
    clear b1
    go_wp2_with fail
    refine (unhide H1 _ (unhide B1)).mono ?_
    rintro e w2 ⟨rfl, h9⟩
    rw [h9]
    clear h9 w2
    go_wp2_with fail
    refine (unhide H2 _).mono ?_
    rintro e w2 ⟨rfl, h9⟩
    rw [h9]
    clear h9 w2
    go_wp2_with fail
    refine (unhide H3 _).mono ?_
    rintro e w2 ⟨rfl, h9⟩
    rw [h9]
    clear h9 w2
    go_wp2_with fail
    refine (unhide H4 _).mono ?_
    rintro e w2 ⟨rfl, h9⟩
    rw [h9]
    clear h9 w2
    go_wp2
    go_ret
    exact ⟨rfl, unhide B1⟩
  rw [Bool.and_true]
  go_enter Try.func26, Try.ntmps26
  go_wp2_with fail
  refine (unhide H0 _ ((Below.refl _ _).alloc (Nat.le_refl _) _)).mono ?_
  rintro e w1 ⟨rfl, b1⟩
  have B1 : Hid (Below w.heap.size w w1) := ((Below.refl _ _).alloc (Nat.le_refl _) _).trans (b1.mono (by simp))
  have x1 := ((unhide HX).below b1).cv
  clear b1
  go_wp2_with fail
  refine (unhide H1 _ (unhide B1)).mono ?_
  rintro e w2 ⟨rfl, h9⟩
  rw [h9]
  clear h9 w2
  go_wp2_with fail
  refine (unhide H2 _).mono ?_
  rintro e w2 ⟨rfl, h9⟩
  rw [h9]
  clear h9 w2
  go_wp2_with fail
  refine (unhide H3 _).mono ?_
  rintro e w2 ⟨rfl, h9⟩
  rw [h9]
  clear h9 w2
  go_wp2_with fail
  refine (unhide H4 _).mono ?_
  rintro e w2 ⟨rfl, h9⟩
  rw [h9]
  clear h9 w2
  go_wp2
  go_loopw [36] (fun i wr => ∃ k : Nat, k ≤ D.K.length ∧ i = .int .i64 k ∧ k16 (tA D.K) k = true ∧ wr = w1) (fun i _ => D.K.length - (intOf i).toNat)
  case atStart => exact ⟨0, Nat.zero_le _, rfl, rfl, rfl⟩
  case round =>
    obtain ⟨k, hkl, rfl, hA, rfl⟩ := hrel
    by_cases hlt : k < D.K.length
    · rcases unhide HR _ (unhide B1) with h0 | ⟨b, o, e, h1⟩
      · omega
      subst e
      have hcf := h1.c k hlt
      have hsz := unhide HS k hlt
      have hnk : (k : Int) < (D.K.length : Int) := by omega
      by_cases c : (tA D.K k).size = 16
      · have hA2 : Hid (k16 (tA D.K) (k + 1) = true) := by show _ = _; rw [k16, hA, decide_eq_true c]; rfl
        clear h1 hA
        generalize tA D.K k = t at *
        have c2 : ((t.size : Int) != 16) = false := by simp; omega
        go_wp2
        exact ⟨⟨k + 1, by omega, by go_num, unhide hA2, by trivial⟩, by simp [intOf]; omega⟩
      · have hE := hide (k16_no (tA D.K) hlt c)
        clear h1 hA
        generalize tA D.K k = t at *
        have c2 : ((t.size : Int) != 16) = true := by simp; omega
        have hE2 : Hid (rtB (tA D.K) D.K.length D.re = false) := by
          show _ = _
          unfold rtB
          cases D.re with
          | true => show gkB _ _ = false; unfold gkB; rw [unhide hE, Bool.and_false]
          | false => exact decide_eq_false (by omega)
        go_wp2
        go_ret
        exact ⟨by rw [unhide hE2]; rfl, unhide B1⟩
    · obtain rfl : k = D.K.length := by omega
      have hE : Hid (rtB (tA D.K) D.K.length D.re = (D.re == (decide ((1 : Int) ≤ (D.K.length : Int)) && decide ((D.K.length : Int) ≤ 2)) && (D.re || decide ((D.K.length : Int) = 0)))) := by
        show _ = _
        unfold rtB
        cases D.re with
        | true =>
          show gkB _ _ = _
          unfold gkB
          rw [hA, Bool.and_true]
          by_cases c1 : 1 ≤ D.K.length <;> by_cases c2 : D.K.length ≤ 2 <;> simp [c1, c2] <;> omega
        | false =>
          show decide _ = _
          by_cases c1 : D.K.length = 0
          · simp [c1]
          · simp [c1]
      have HQ := hide (unhide H5)
      generalize hb5 : (decide ((1 : Int) ≤ (D.K.length : Int)) && decide ((D.K.length : Int) ≤ 2)) = b5 at *
      clear hA H0 H1 H2 H3 H4 H5
      simp only [blC] at x1
      obtain ⟨re, hre⟩ : ∃ re, D.re = re := ⟨_, rfl⟩
      rw [hre] at x1 hE
      have HRE := hide hre
      clear hre
      have c0 : decide ((D.K.length : Int) = 0) = decide ((D.K.length : Int) = 0) := rfl
      cases re <;> cases b5 <;>
      · simp only [Bool.true_beq, Bool.false_beq, Bool.not_true, Bool.true_and, Bool.false_and, Bool.true_or, Bool.false_or, beq_self_eq_true] at hE
        go_wp2_with fail
        go_quiet ((go_at_call 34; exact Calls.quiet_of_same (unhide HQ _)))
        all_goals
          go_wp2
          go_ret
          exact ⟨by rw [unhide HRE, unhide hE]; rfl, below_drewN (unhide B1) _⟩
end Go.Proofs.Ytbabipaipbjlbaa
