/-
  Contracts: the place of an id among a config's servers (slices.BinarySearchFunc with the program's own closure).
-/
import Derived.Test.YthgogkimjhjepaaOwa
import Derived.Shelf.Spec.SearchS
namespace Go.Proofs.Ythgogkimjhjepaa
open Go.ChangeShapes Go.WideShapes Go.ChangeAt Go.RowKit Go.Deep
set_option linter.unusedVariables false
set_option maxRecDepth 100000

/-- how texts compare -/
def cpT (x y : ByteArray) : Int := Lib.compareBytes x.data.toList y.data.toList
set_option maxHeartbeats 1000000 in
theorem cmpA (i b x : ByteArray) (w : World) :
    Calls Try.prog 47 #[.agg #[.string i, .string b], .string x] w fun e w' => e = .returned (.int .i64 (cpT i x)) ∧ Below w.heap.size w w' := by
  have H : Hid (∀ W, Calls Try.prog 48 #[.string i, .string x] W fun e w' => e = .returned (.int .i64 (cpT i x)) ∧ w' = W) := fun W => Try.strings_Compare i x W
  generalize cpT i x = r at *
  go_enter Try.func47, Try.ntmps47
  go_wp2_with fail
  refine (unhide H _).mono ?_
  rintro e w1 ⟨rfl, e1⟩
  subst w1
  go_wp2
  go_ret
  exact ⟨rfl, (Below.refl _ _).alloc (Nat.le_refl _) _⟩
/-- whether server t lies ahead of the id -/
def plL (L : List AlD) (x : ByteArray) (t : Nat) : Bool := decide (cpT (aA L t).i x < 0)
/-- the place -/
def plP (L : List AlD) (x : ByteArray) : Nat := Lib.bsGo (plL L x) L.length 0 L.length
def plH (L : List AlD) (x : ByteArray) : Bool := decide (plP L x < L.length) && (cpT (aA L (plP L x)).i x == 0)
set_option maxHeartbeats 2000000 in
theorem bsF (a : Option Addr) (cap : Nat) (L : List AlD) (x : ByteArray) (w : World) (hN : L.length ≤ 1048576) (h : Aa w a L) :
    Calls Try.prog 46 #[.slice a L.length cap, .string x, .func (.func 47) #[] #[]] w fun e w' => e = .returned (.tuple #[.int .i64 (plP L x : Nat), .bool (plH L x)]) ∧ Below w.heap.size w w' := by
  have HR := hide h
  clear h
  have HC : Hid (∀ t W, Calls Try.prog 47 #[.agg #[.string (aA L t).i, .string (aA L t).b], .string x] W fun e w' => e = .returned (.int .i64 (cpT (aA L t).i x)) ∧ Below W.heap.size W w') := fun t W => cmpA _ _ _ W
  have HP : Hid (plP L x = Lib.bsGo (plL L x) L.length 0 L.length) := rfl
  have HL : Hid (∀ t, plL L x t = decide (cpT (aA L t).i x < 0)) := fun t => rfl
  have HH : Hid (plH L x = (decide (plP L x < L.length) && (cpT (aA L (plP L x)).i x == 0))) := rfl
  generalize plP L x = P at *
  generalize plH L x = Hb at *
  generalize plL L x = less at *
  go_enter Try.func46, Try.ntmps46
  go_wp2
  go_loopw [9, 10] (fun lv hv wr => ∃ lo hi f : Nat, lv = .int .i64 lo ∧ hv = .int .i64 hi ∧ lo ≤ hi ∧ hi ≤ L.length ∧ hi - lo ≤ f ∧ Hid (P = Lib.bsGo less f lo hi) ∧ Below w.heap.size w wr) (fun lv hv _ => (intOf hv).toNat - (intOf lv).toNat)
  case atStart => exact ⟨0, L.length, L.length, rfl, rfl, by omega, by omega, by omega, HP, Below.refl _ _⟩
  case round =>
    obtain ⟨lo, hi, f, rfl, rfl, hlh, hhi, hf, hP, hbel⟩ := hrel
    by_cases hlt : lo < hi
    · obtain ⟨f, rfl⟩ : ∃ f', f = f' + 1 := ⟨f - 1, by omega⟩
      obtain ⟨m, hm⟩ : ∃ m, m = (lo + hi) / 2 := ⟨_, rfl⟩
      have hml : m < L.length := by omega
      rcases (unhide HR).below hbel with h0 | ⟨b, o, rfl, hel⟩
      · rw [h0] at hml; exact absurd hml (Nat.not_lt_zero _)
      have c0 := hel.ci m hml
      have c1 := hel.cb m hml
      have hmI : (m : Int) < (L.length : Int) := by omega
      have hlI : (lo : Int) < (hi : Int) := by omega
      have hdv : ((lo : Int) + (hi : Int)) / 2 = (m : Int) := by omega
      have hPe : Hid (P = if less m = true then Lib.bsGo less f (m + 1) hi else Lib.bsGo less f lo m) := by
        have e := unhide hP
        rw [Lib.bsGo, if_pos hlt, ← hm] at e
        exact e
      have PC := hide (unhide HC m)
      have PL := hide (unhide HL m)
      have HB := hide hbel
      have HM := hide hm
      clear hel hbel hm hP
      by_cases c : cpT (aA L m).i x < 0
      · have hP2 : Hid (P = Lib.bsGo less f (m + 1) hi) := by
          have e := unhide hPe
          rw [if_pos (by rw [unhide PL]; exact decide_eq_true c)] at e
          exact e
        clear hPe PL
        generalize cpT (aA L m).i x = r at *
        generalize aA L m = D at *
        go_wp2_with fail
        refine (unhide PC _).mono ?_
        rintro e w2 ⟨rfl, b2⟩
        have B2 := hide ((unhide HB).trans (b2.mono (unhide HB).size))
        clear b2
        go_wp2
        have hm := unhide HM
        exact ⟨⟨m + 1, hi, f, by go_num, rfl, by omega, hhi, by omega, hP2, unhide B2⟩, by simp [intOf]; omega⟩
      · have hP2 : Hid (P = Lib.bsGo less f lo m) := by
          have e := unhide hPe
          rw [if_neg (by rw [unhide PL, decide_eq_false c]; exact Bool.false_ne_true)] at e
          exact e
        clear hPe PL
        generalize cpT (aA L m).i x = r at *
        generalize aA L m = D at *
        go_wp2_with fail
        refine (unhide PC _).mono ?_
        rintro e w2 ⟨rfl, b2⟩
        have B2 := hide ((unhide HB).trans (b2.mono (unhide HB).size))
        clear b2
        go_wp2
        have hm := unhide HM
        exact ⟨⟨lo, m, f, rfl, rfl, by omega, by omega, by omega, hP2, unhide B2⟩, by simp [intOf]; omega⟩
    · obtain rfl : lo = hi := by omega
      have hPl : P = lo := by
        have e := unhide hP
        cases f with
        | zero => rw [Lib.bsGo] at e; exact e
        | succ f => rw [Lib.bsGo, if_neg (Nat.lt_irrefl _)] at e; exact e
      clear hP HP
      subst hPl
      have hnI : ¬ (P : Int) < (P : Int) := by omega
      by_cases hPL : P < L.length
      · have hPI : (P : Int) < (L.length : Int) := by omega
        rcases (unhide HR).below hbel with h0 | ⟨b, o, rfl, hel⟩
        · rw [h0] at hPL; exact absurd hPL (Nat.not_lt_zero _)
        have c0 := hel.ci P hPL
        have c1 := hel.cb P hPL
        have PC := hide (unhide HC P)
        have hHe : Hid (Hb = (cpT (aA L P).i x == 0)) := by
          have e := unhide HH
          rw [decide_eq_true hPL, Bool.true_and] at e
          exact e
        have HB := hide hbel
        clear hel hbel HH HC HL
        generalize cpT (aA L P).i x = r at *
        generalize aA L P = D at *
        go_wp2_with fail
        refine (unhide PC _).mono ?_
        rintro e w2 ⟨rfl, b2⟩
        have B2 := hide ((unhide HB).trans (b2.mono (unhide HB).size))
        clear b2
        go_wp2
        go_ret2
        exact ⟨by rw [unhide hHe]; rfl, unhide B2⟩
      · have hPI : ¬ (P : Int) < (L.length : Int) := by omega
        have hHe : Hid (Hb = false) := by
          have e := unhide HH
          rw [decide_eq_false hPL, Bool.false_and] at e
          exact e
        have HB := hide hbel
        clear hbel HH HC HL
        go_wp2
        go_ret2
        exact ⟨by rw [unhide hHe]; rfl, unhide HB⟩
set_option maxHeartbeats 1000000 in
theorem plcOf (a : Option Addr) (cap : Nat) (L : List AlD) (x : ByteArray) (w : World) (hN : L.length ≤ 1048576) (h : Aa w a L) :
    Calls Try.prog 30 #[.slice a L.length cap, .string x] w fun e w' => e = .returned (.tuple #[.int .i64 (plP L x : Nat), .bool (plH L x)]) ∧ Below w.heap.size w w' := by
  have H := hide (bsF a cap L x w hN h)
  clear h
  generalize plP L x = P at *
  generalize plH L x = b at *
  go_enter Try.func30, Try.ntmps30
  go_wp2_with fail
  refine (unhide H).mono ?_
  rintro e w1 ⟨rfl, b1⟩
  have B1 := hide b1
  clear b1
  go_wp2
  go_ret2
  exact ⟨rfl, unhide B1⟩
end Go.Proofs.Ythgogkimjhjepaa
