/-
  Contract: JoinRanges of the program.
-/
import Derived.Test.YthjciigcipblpaaJnd
import Derived.Test.YthjciigcipblpaaGoodRangesI
namespace Go.Proofs.Ythjciigcipblpaa.Rc
open Go.ChangeShapes Go.WideShapes Go.ChangeAt Go.RowKit Go.Deep
set_option linter.unusedVariables false
set_option maxRecDepth 100000

/-- what is answered -/
def JRQ (A B : List RangeD) (W : World) (e : Ending) (w' : World) : Prop := ∃ (a9 : Option Addr) (c9 : Nat), e = .returned (.tuple #[.slice a9 (jnL A B (jnB A B)).length c9, .bool (jnB A B)]) ∧ Ri rangeK W.heap.size w'.heap.size w' a9 (jnL A B (jnB A B)) ∧ Below W.heap.size W w'
theorem JRQ.no {A B : List RangeD} {W w' : World} (h : jnB A B = false) (b : Below W.heap.size W w') : JRQ A B W (.returned (.tuple #[.slice none 0 0, .bool false])) w' := ⟨none, 0, by rw [h]; rfl, by rw [h]; exact Or.inl rfl, b⟩
theorem JRQ.yes {A B : List RangeD} {W w' : World} {a : Option Addr} {c : Nat} (h : jnB A B = true) (hr : Ri rangeK W.heap.size w'.heap.size w' a (jnG A B)) (b : Below W.heap.size W w') : JRQ A B W (.returned (.tuple #[.slice a (jnG A B).length c, .bool true])) w' := ⟨a, c, by rw [h]; rfl, by rw [h]; exact hr, b⟩
set_option maxHeartbeats 8000000 in
theorem implJRw (A B : List RangeD) (hA : A.length ≤ 1048576) (hB : B.length ≤ 1048576) (oA : rgO A) (oB : rgO B) (W : World) (a : Option Addr) (c : Nat) (a' : Option Addr) (c' : Nat) (h : Rd rangeK W a A) (h' : Rd rangeK W a' B) :
    Calls Try.prog 10 #[.slice a A.length c, .slice a' B.length c'] W (JRQ A B W) := by
  have H0 := hide (implGR A hA oA W a c h)
  have H1 := hide (fun W1 (b : Below W.heap.size W W1) => implGR B hB oB W1 a' c' (h'.below b))
  cases e0 : grB A with
  | false =>
    have HE : Hid (jnB A B = false) := by show _ = _; unfold jnB; rw [e0]; rfl
    rw [e0] at H0
    clear e0 h h'
    go_enter Try.func10, Try.ntmps10
    go_wp2_with fail
    refine (unhide H0).mono ?_
    rintro e w1 ⟨rfl, b1⟩
    have B1 := hide b1
    clear b1
    go_wp2
    go_ret2
    exact JRQ.no (unhide HE) (unhide B1)
  | true =>
    rw [e0] at H0
    cases e1 : grB B with
    | false =>
      have HE : Hid (jnB A B = false) := by show _ = _; unfold jnB; rw [e0, e1]; rfl
      rw [e1] at H1
      clear e0 e1 h h'
      go_enter Try.func10, Try.ntmps10
      go_wp2_with fail
      refine (unhide H0).mono ?_
      rintro e w1 ⟨rfl, b1⟩
      have B1 := hide b1
      clear b1
      go_wp2_with fail
      refine (unhide H1 _ (unhide B1)).mono ?_
      rintro e w2 ⟨rfl, b2⟩
      have B2 := hide ((unhide B1).trans (b2.mono (unhide B1).size))
      clear b2
      go_wp2
      go_ret2
      exact JRQ.no (unhide HE) (unhide B2)
    | true =>
      have lA := gr_len e0
      have lB := gr_len e1
      have er : Hid (jnB A B = decide ((jnG A B).length ≤ 20)) := by show _ = _; unfold jnB; rw [e0, e1]; rfl
      have HJ := hide (fun W1 a1 c1 a2 c2 h1 h2 hr1 hr2 => joinedP A B (by omega) (gr_can e0) (gr_can e1) (gr_mem e0) (gr_mem e1) W1 a1 c1 a2 c2 h1 h2 hr1 hr2)
      rw [e1] at H1
      have HA := hide (fun W1 (b : Below W.heap.size W W1) => listRange a c A W1 hA (h.below b))
      have HB := hide (fun W1 (b : Below W.heap.size W W1) => listRange a' c' B W1 hB (h'.below b))
      clear e0 e1 h h' oA oB
      go_enter Try.func10, Try.ntmps10
      go_wp2_with fail
      refine (unhide H0).mono ?_
      rintro e w1 ⟨rfl, b1⟩
      have B1 := hide b1
      clear b1
      go_wp2_with fail
      refine (unhide H1 _ (unhide B1)).mono ?_
      rintro e w2 ⟨rfl, b2⟩
      have B2 := hide ((unhide B1).trans (b2.mono (unhide B1).size))
      clear b2 H0 H1 B1
      go_wp2_with fail
      refine (unhide HA _ (unhide B2)).mono ?_
      rintro e w3 ⟨v3, rfl, o3, b3⟩
      have B3 := hide ((unhide B2).trans (b3.mono (unhide B2).size))
      obtain ⟨a3, c3, rfl, hc3, i3⟩ := o3.form
      have R3 := hide i3.rd
      clear b3 o3 i3
      go_wp2_with fail
      refine (unhide HB _ (unhide B3)).mono ?_
      rintro e w4 ⟨v4, rfl, o4, b4⟩
      have B4 := hide ((unhide B3).trans (b4.mono (unhide B3).size))
      obtain ⟨a4, c4, rfl, hc4, i4⟩ := o4.form
      have HJ4 := hide (unhide HJ w4 a3 c3 a4 c4 hc3 hc4 ((unhide R3).below b4) i4.rd)
      clear b4 o4 i4 R3 HJ HA HB hc3 hc4
      go_wp2_with fail
      refine (unhide HJ4).mono ?_
      rintro e w5 ⟨v5, rfl, o5, b5⟩
      have B5 := hide ((unhide B4).trans (b5.mono (unhide B4).size))
      obtain ⟨a5, c5, rfl, hc5, i5⟩ := o5.form
      have hb4 := (unhide B4).size
      have I5 := hide (i5.mono (lb' := W.heap.size) (ls' := w5.heap.size + 1) (by omega) (by omega))
      clear b5 o5 i5 HJ4 hc5 hb4
      obtain ⟨V, hV⟩ : ∃ V, V = w5.alloc (.cells #[.slice a5 (jnG A B).length c5] 61) := ⟨_, rfl⟩
      have XV := (show Bx V w5.heap.size [.slice a5 (jnG A B).length c5] by rw [hV]; exact Bx.new w5 _ _)
      have hAl : Below w5.heap.size w5 V := by rw [hV]; exact (Below.refl _ _).alloc (Nat.le_refl _) _
      have BV := hide ((unhide B5).trans (hAl.mono (unhide B5).size))
      have hz : V.heap.size = w5.heap.size + 1 := by rw [hV]; simp
      have IV : Hid (Ri rangeK W.heap.size V.heap.size V a5 (jnG A B)) := by show Ri _ _ _ _ _ _; rw [hz]; exact (unhide I5).below hAl
      have HV := hide hV
      have x0 := XV.cv
      have x0l := XV.lt
      clear hV hAl hz I5 B5 B4 B3 B2 XV
      go_upto_region 4 with fail
      rw [← unhide HV]
      clear HV
      cases er2 : decide ((jnG A B).length ≤ 20) with
      | true =>
        have h20 := of_decide_eq_true er2
        have g9 : ¬ (20 : Int) < ((jnG A B).length : Int) := by omega
        have HE : Hid (jnB A B = true) := (unhide er).trans er2
        clear er er2 h20
        obtain ⟨n, hN⟩ : ∃ n, (jnG A B).length = n := ⟨_, rfl⟩
        have FIN : Hid (JRQ A B W (.returned (.tuple #[.slice a5 n c5, .bool true])) V) := by rw [← hN]; exact JRQ.yes (unhide HE) (unhide IV) (unhide BV)
        rw [hN] at g9 x0 ⊢
        clear hN HE IV BV
        go_wp2
        go_ret2
        exact unhide FIN
      | false =>
        have h20 := of_decide_eq_false er2
        have g9 : (20 : Int) < ((jnG A B).length : Int) := by omega
        have HE : Hid (jnB A B = false) := (unhide er).trans er2
        clear er er2 h20
        have FIN : Hid (JRQ A B W (.returned (.tuple #[.slice none 0 0, .bool false])) V) := JRQ.no (unhide HE) (unhide BV)
        generalize (jnG A B).length = n at *
        clear HE IV BV
        go_wp2
        go_ret2
        exact unhide FIN
theorem implJR (A B : List RangeD) (hA : A.length ≤ 1048576) (hB : B.length ≤ 1048576) (oA : rgO A) (oB : rgO B) (W : World) (a : Option Addr) (c : Nat) (a' : Option Addr) (c' : Nat) (h : Rd rangeK W a A) (h' : Rd rangeK W a' B) :
    Calls Try.prog 10 #[.slice a A.length c, .slice a' B.length c'] W fun e w' => ∃ (a9 : Option Addr) (c9 : Nat), e = .returned (.tuple #[.slice a9 (jnL A B (jnB A B)).length c9, .bool (jnB A B)]) ∧ Ri rangeK W.heap.size w'.heap.size w' a9 (jnL A B (jnB A B)) ∧ Below W.heap.size W w' := implJRw A B hA hB oA oB W a c a' c' h h'
end Go.Proofs.Ythjciigcipblpaa.Rc
