/-
  Contracts: FirstPacket of both sides.
-/
import Derived.Test.YtbabipaipbjlbaaBgd
import Derived.Test.YtbabipaipbjlbaaL2h
import Derived.Test.YtbabipaipbjlbaaCdgX
import Derived.Test.YtbabipaipbjlbaaWtnX
namespace Go.Proofs.Ytbabipaipbjlbaa
open Go.ChangeShapes Go.WideShapes Go.ChangeAt Go.RowKit Go.Deep
set_option linter.unusedVariables false
set_option maxRecDepth 100000

/-- whether a first packet is told -/
def fpB (D : BlD) (s : ByteArray) : Bool := gbB D && (decide (s.size ≤ 1500) && (hdR s D.sh.toNat).isSome)
/-- how long it is -/
def fpQ (D : BlD) (s : ByteArray) : Nat := match hdR s D.sh.toNat with | some x => x.q | none => 0
/-- the first packet -/
def fpW (D : BlD) (s : ByteArray) : Bool → ByteArray
  | true => s.extract 0 (fpQ D s)
  | false => ⟨#[]⟩
theorem gb_sh {D : BlD} (h : gbB D = true) : ∃ n : Nat, D.sh = (n : Int) ∧ D.sh.toNat = n ∧ n ≤ 20 := by
  unfold gbB at h
  simp only [Bool.and_eq_true, decide_eq_true_eq] at h
  obtain ⟨_, _, ⟨h1, h2⟩, _⟩ := h
  exact ⟨D.sh.toNat, by omega, rfl, by omega⟩
set_option maxHeartbeats 4000000 in
theorem implFp (D : BlD) (ta la ka : Option Addr) (tc lc kc : Nat) (s : ByteArray) (hl : s.size ≤ 1048576) (w : World) (hs : smB D) (h : Bl w ta la ka D) :
    Calls Try.prog 9 #[blV D ta tc la lc ka kc, .string s] w fun e w' => e = .returned (.tuple #[.string (fpW D s (fpB D s)), .bool (fpB D s)]) ∧ Below w.heap.size w w' := by
  have H0 := hide (fun W (b : Below w.heap.size w W) => implGBl D ta la ka tc lc kc W hs (h.below b))
  have HX := hide (Bx.new w (blC D ta tc la lc ka kc) 35)
  clear h hs
  cases eg : gbB D with
  | false =>
    have er : fpB D s = false := by unfold fpB; rw [eg]; rfl
    rw [er]
    rw [eg] at H0
    clear er eg
    go_enter Try.func9, Try.ntmps9
    go_wp2_with fail
    refine (unhide H0 _ ((Below.refl _ _).alloc (Nat.le_refl _) _)).mono ?_
    rintro e w1 ⟨rfl, b1⟩
    have B1 : Hid (Below w.heap.size w w1) := ((Below.refl _ _).alloc (Nat.le_refl _) _).trans (b1.mono (by simp))
    clear b1 H0 HX
    go_wp2
    go_ret2
    exact ⟨rfl, unhide B1⟩
  | true =>
    obtain ⟨sh, hsh, hst, hsl⟩ := gb_sh eg
    rw [eg] at H0
    have HW := hide (within_one s 1500 (by omega) hl)
    cases e2 : decide (s.size ≤ 1500) with
    | false =>
      have er : fpB D s = false := by unfold fpB; rw [eg, e2]; rfl
      rw [er]
      rw [e2] at HW
      clear er eg e2 hst hsl hsh
      go_enter Try.func9, Try.ntmps9
      go_wp2_with fail
      refine (unhide H0 _ ((Below.refl _ _).alloc (Nat.le_refl _) _)).mono ?_
      rintro e w1 ⟨rfl, b1⟩
      have B1 : Hid (Below w.heap.size w w1) := ((Below.refl _ _).alloc (Nat.le_refl _) _).trans (b1.mono (by simp))
      have hw1 := (unhide B1).size
      clear b1 H0 HX
      go_wp2_with fail
      refine (unhide HW _ _ _ (by simp)).mono ?_
      rintro e w2 ⟨rfl, h9⟩
      rw [h9]
      clear h9 w2
      go_wp2
      go_ret2
      exact ⟨rfl, (unhide B1).alloc hw1 _⟩
    | true =>
      rw [e2] at HW
      have hF : Hid (∀ W, Calls Try.prog 32 #[.string s, .int .i64 D.sh] W fun e w' => e = .returned (.tuple #[.string (fpW D s (fpB D s)), .bool (fpB D s)]) ∧ Below W.heap.size W w') := fun W => by
        cases hh : hdR s D.sh.toNat with
        | none =>
          have er : fpB D s = false := by unfold fpB; rw [eg, e2, hh]; rfl
          rw [er]
          rw [hst] at hh
          rw [hsh]
          exact pah_bad s sh W hl hsl hh
        | some x =>
          have er : fpB D s = true := by unfold fpB; rw [eg, e2, hh]; rfl
          have eq : fpQ D s = x.q := by unfold fpQ; rw [hh]
          rw [er, show fpW D s true = s.extract 0 x.q by rw [← eq]; rfl]
          rw [hst] at hh
          rw [hsh]
          exact pah_ok s sh x W hl hsl hh
      generalize fpW D s (fpB D s) = r at *
      generalize fpB D s = b at *
      clear eg e2 hst hsl hsh
      go_enter Try.func9, Try.ntmps9
      go_wp2_with fail
      refine (unhide H0 _ ((Below.refl _ _).alloc (Nat.le_refl _) _)).mono ?_
      rintro e w1 ⟨rfl, b1⟩
      have B1 : Hid (Below w.heap.size w w1) := ((Below.refl _ _).alloc (Nat.le_refl _) _).trans (b1.mono (by simp))
      have hw1 := (unhide B1).size
      have X1 := hide ((unhide HX).below b1)
      clear b1 H0 HX
      go_wp2_with fail
      refine (unhide HW _ _ _ (by simp)).mono ?_
      rintro e w2 ⟨rfl, h9⟩
      rw [h9]
      clear h9 w2
      have x2 := ((unhide X1).alloc (.cells #[.string s] 9)).cv
      go_wp2_with fail
      refine (unhide hF _).mono ?_
      rintro e w3 ⟨rfl, b3⟩
      have B3 := hide (((unhide B1).alloc hw1 _).trans (b3.mono (by simp; omega)))
      clear b3 x2
      go_wp2
      go_ret2
      exact ⟨rfl, unhide B3⟩
set_option maxHeartbeats 4000000 in
theorem specFp (D : BlD) (ta la ka : Option Addr) (tc lc kc : Nat) (s : ByteArray) (hl : s.size ≤ 1048576) (w : World) (hs : smB D) (h : Bl w ta la ka D) :
    Calls Try.prog 7 #[blV D ta tc la lc ka kc, .string s] w fun e w' => e = .returned (.tuple #[.string (fpW D s (fpB D s)), .bool (fpB D s)]) ∧ Below w.heap.size w w' := by
  have H0 := hide (fun W (b : Below w.heap.size w W) => specGBl D ta la ka tc lc kc W hs (h.below b))
  have HX := hide (Bx.new w (blC D ta tc la lc ka kc) 35)
  clear h hs
  cases eg : gbB D with
  | false =>
    have er : fpB D s = false := by unfold fpB; rw [eg]; rfl
    rw [er]
    rw [eg] at H0
    clear er eg
    go_enter Try.func7, Try.ntmps7
    go_wp2_with fail
    refine (unhide H0 _ ((Below.refl _ _).alloc (Nat.le_refl _) _)).mono ?_
    rintro e w1 ⟨rfl, b1⟩
    have B1 : Hid (Below w.heap.size w w1) := ((Below.refl _ _).alloc (Nat.le_refl _) _).trans (b1.mono (by simp))
    clear b1 H0 HX
    go_wp2
    go_ret2
    exact ⟨rfl, unhide B1⟩
  | true =>
    obtain ⟨sh, hsh, hst, hsl⟩ := gb_sh eg
    rw [eg] at H0
    by_cases e2 : s.size ≤ 1500
    · have hn : ¬ (1500 : Int) < s.size := by omega
      have HD := hide (fun W => specHd s sh W hl hsl)
      rw [← hsh] at HD
      cases hh : hdR s sh with
      | none =>
        have er : fpB D s = false := by unfold fpB; rw [eg, decide_eq_true e2, hst, hh]; rfl
        rw [er]
        rw [hh] at HD
        clear er eg e2 hst hsl hsh hh
        go_enter Try.func7, Try.ntmps7
        go_wp2_with fail
        refine (unhide H0 _ ((Below.refl _ _).alloc (Nat.le_refl _) _)).mono ?_
        rintro e w1 ⟨rfl, b1⟩
        have B1 : Hid (Below w.heap.size w w1) := ((Below.refl _ _).alloc (Nat.le_refl _) _).trans (b1.mono (by simp))
        have hw1 := (unhide B1).size
        have X1 := hide ((unhide HX).below b1)
        clear b1 H0 HX
        have x1 := (unhide X1).cv
        go_wp2_with fail
        refine (unhide HD _).mono ?_
        rintro e w3 ⟨c, hc, rfl, b3⟩
        have hc0 : (c != 0) = true := by simp [hc]
        have hc1 : (c == 0) = false := by simp [hc]
        have B3 := hide ((unhide B1).trans (b3.mono hw1))
        have hw3 := (unhide B3).size
        clear b3 x1 hc
        go_wp2
        go_ret2
        exact ⟨rfl, (unhide B3).alloc hw3 _⟩
      | some x =>
        have er : fpB D s = true := by unfold fpB; rw [eg, decide_eq_true e2, hst, hh]; rfl
        have eq : fpQ D s = x.q := by unfold fpQ; rw [hst, hh]
        have hq := hdR_q hh
        rw [er, show fpW D s true = s.extract 0 x.q by rw [← eq]; rfl]
        rw [hh] at HD
        clear er eq eg e2 hst hsl hsh hh
        go_enter Try.func7, Try.ntmps7
        go_wp2_with fail
        refine (unhide H0 _ ((Below.refl _ _).alloc (Nat.le_refl _) _)).mono ?_
        rintro e w1 ⟨rfl, b1⟩
        have B1 : Hid (Below w.heap.size w w1) := ((Below.refl _ _).alloc (Nat.le_refl _) _).trans (b1.mono (by simp))
        have hw1 := (unhide B1).size
        have X1 := hide ((unhide HX).below b1)
        clear b1 H0 HX
        have x1 := (unhide X1).cv
        go_wp2_with fail
        refine (unhide HD _).mono ?_
        rintro e w3 ⟨ra, rc, rfl, o3, b3⟩
        have B3 := hide ((unhide B1).trans (b3.mono hw1))
        have hw3 := (unhide B3).size
        clear b3 x1 o3
        go_wp2
        go_ret2
        exact ⟨rfl, (unhide B3).alloc hw3 _⟩
    · have hn : (1500 : Int) < s.size := by omega
      have er : fpB D s = false := by unfold fpB; rw [eg, decide_eq_false e2]; rfl
      rw [er]
      clear er eg e2 hst hsl hsh
      go_enter Try.func7, Try.ntmps7
      go_wp2_with fail
      refine (unhide H0 _ ((Below.refl _ _).alloc (Nat.le_refl _) _)).mono ?_
      rintro e w1 ⟨rfl, b1⟩
      have B1 : Hid (Below w.heap.size w w1) := ((Below.refl _ _).alloc (Nat.le_refl _) _).trans (b1.mono (by simp))
      clear b1 H0 HX
      go_wp2
      go_ret2
      exact ⟨rfl, unhide B1⟩
end Go.Proofs.Ytbabipaipbjlbaa
