/-
  Contract: PutNumber of the program.
-/
import Derived.Test.YthjciigcipblpaaJnd
import Derived.Test.YthjciigcipblpaaCutr
import Derived.Test.YthjciigcipblpaaIrt
import Derived.Test.YthjciigcipblpaaGoodRangesI
namespace Go.Proofs.Ythjciigcipblpaa.Rc
open Go.ChangeShapes Go.WideShapes Go.ChangeAt Go.RowKit Go.Deep
set_option linter.unusedVariables false
set_option maxRecDepth 100000

/-- what is answered -/
def PNQ (L : List RangeD) (n : Int) (W : World) (e : Ending) (w' : World) : Prop := ∃ (a' : Option Addr) (c' : Nat), e = .returned (.tuple #[.slice a' (pnL L n (pnB L n)).length c', .bool (pnB L n)]) ∧ Ri rangeK W.heap.size w'.heap.size w' a' (pnL L n (pnB L n)) ∧ Below W.heap.size W w'
theorem PNQ.no {L : List RangeD} {n : Int} {W w' : World} (h : pnB L n = false) (b : Below W.heap.size W w') : PNQ L n W (.returned (.tuple #[.slice none 0 0, .bool false])) w' := ⟨none, 0, by rw [h]; rfl, by rw [h]; exact Or.inl rfl, b⟩
theorem PNQ.yes {L : List RangeD} {n : Int} {W w' : World} {a : Option Addr} {c : Nat} (h : pnB L n = true) (hr : Ri rangeK W.heap.size w'.heap.size w' a ((jnG L [⟨n, n⟩]).take 20)) (b : Below W.heap.size W w') : PNQ L n W (.returned (.tuple #[.slice a ((jnG L [⟨n, n⟩]).take 20).length c, .bool true])) w' := ⟨a, c, by rw [h]; rfl, by rw [h]; exact hr, b⟩
set_option maxHeartbeats 8000000 in
theorem implPNw (L : List RangeD) (n : Int) (hn : L.length ≤ 1048576) (ho : rgO L) (W : World) (a : Option Addr) (cap : Nat) (h : Rd rangeK W a L) :
    Calls Try.prog 6 #[.slice a L.length cap, .int .i64 n] W (PNQ L n W) := by
  have H0 := hide (implGR L hn ho W a cap h)
  have H1 : Hid (∀ W1, Calls Try.prog 24 #[.int .i64 0, .int .i64 n, .int .i64 4611686018427387903] W1 fun e w' => e = .returned (.bool (knB n)) ∧ w' = W1) := fun W1 => btw 0 n 4611686018427387903 W1
  cases e0 : grB L with
  | false =>
    have HE : Hid (pnB L n = false) := by show _ = _; unfold pnB; rw [e0]; rfl
    rw [e0] at H0
    clear e0 h
    go_enter Try.func6, Try.ntmps6
    go_wp2_with fail
    refine (unhide H0).mono ?_
    rintro e w1 ⟨rfl, b1⟩
    have B1 := hide b1
    clear b1
    go_wp2
    go_ret2
    exact PNQ.no (unhide HE) (unhide B1)
  | true =>
    rw [e0] at H0
    cases e1 : knB n with
    | false =>
      have HE : Hid (pnB L n = false) := by show _ = _; unfold pnB; rw [e0, e1]; rfl
      rw [e1] at H1
      clear e0 e1 h
      go_enter Try.func6, Try.ntmps6
      go_wp2_with fail
      refine (unhide H0).mono ?_
      rintro e w1 ⟨rfl, b1⟩
      have B1 := hide b1
      clear b1
      go_wp2_with (go_at_call 24; refine (unhide H1 _).mono ?_; rintro e w9 ⟨rfl, h9⟩; rw [h9]; clear h9 w9)
      go_ret2
      exact PNQ.no (unhide HE) (unhide B1)
    | true =>
      have HE : Hid (pnB L n = true) := by show _ = _; unfold pnB; rw [e0, e1]; rfl
      have kn : 0 ≤ n ∧ n ≤ 4611686018427387903 := by have h9 := e1; unfold knB at h9; simpa using h9
      have lL := gr_len e0
      have c1 : Can [(⟨n, n⟩ : RangeD)] := ⟨Int.le_refl _, fun q hq => (by cases hq), trivial⟩
      have HJ := hide (fun W1 a1 c1' a2 c2 h1 h2 hr1 hr2 => joinedP L [⟨n, n⟩] (by simp; omega) (gr_can e0) c1 (gr_mem e0) (fun r hr => by simp at hr; rw [hr]; exact ⟨kn, kn⟩) W1 a1 c1' a2 c2 h1 h2 hr1 hr2)
      have jl := jnG_len [(⟨n, n⟩ : RangeD)] L
      rw [e1] at H1
      have HA := hide (fun W1 (b : Below W.heap.size W W1) => listRange a cap L W1 hn (h.below b))
      have HB := hide (fun W1 (x : Rd rangeK W1 (some ⟨W1.heap.size - 1, 0, none⟩) [(⟨n, n⟩ : RangeD)]) => listRange (some ⟨W1.heap.size - 1, 0, none⟩) 1 [⟨n, n⟩] W1 (by simp) x)
      have FIN : Hid (∀ (a9 : Option Addr) (c9 : Nat) w', Ri rangeK W.heap.size w'.heap.size w' a9 ((jnG L [⟨n, n⟩]).take 20) → Below W.heap.size W w' → PNQ L n W (.returned (.tuple #[.slice a9 ((jnG L [⟨n, n⟩]).take 20).length c9, .bool true])) w') := fun a9 c9 w' h1 h2 => PNQ.yes (unhide HE) h1 h2
      generalize jnG L [⟨n, n⟩] = R at *
      have hR : R.length ≤ 21 := by simp at jl; omega
      clear e0 e1 h ho jl lL c1
      go_enter Try.func6, Try.ntmps6
      go_wp2_with fail
      refine (unhide H0).mono ?_
      rintro e w1 ⟨rfl, b1⟩
      have B1 := hide b1
      clear b1
      go_wp2_with (go_at_call 24; refine (unhide H1 _).mono ?_; rintro e w9 ⟨rfl, h9⟩; rw [h9]; clear h9 w9)
      refine (unhide HA _ (unhide B1)).mono ?_
      rintro e w3 ⟨v3, rfl, o3, b3⟩
      have B3 := hide ((unhide B1).trans (b3.mono (unhide B1).size))
      obtain ⟨a3, c3, rfl, hc3, i3⟩ := o3.form
      have R3 := hide i3.rd
      clear b3 o3 i3 B1 H0 H1 HA
      obtain ⟨V3, hV3⟩ : ∃ V, V = w3.alloc (.cells #[.int .i64 n, .int .i64 n] 65) := ⟨_, rfl⟩
      have hA3 : Below w3.heap.size w3 V3 := by rw [hV3]; exact (Below.refl _ _).alloc (Nat.le_refl _) _
      have X3 := (show Bx V3 w3.heap.size (rangeC ⟨n, n⟩) by rw [hV3]; exact Bx.new w3 _ _)
      have RV : Rd rangeK V3 (some ⟨w3.heap.size, 0, none⟩) [(⟨n, n⟩ : RangeD)] := Or.inr ⟨_, _, rfl, X3.lt, fun q hq => by
        have hq2 : q < 2 := hq
        rw [Nat.zero_add, X3.cv q]
        have h9 : q = 0 ∨ q = 1 := by omega
        rcases h9 with rfl | rfl <;> rfl⟩
      have H3 := hide (listRange (some ⟨w3.heap.size, 0, none⟩) 1 [⟨n, n⟩] V3 (by simp) RV)
      have R3' := hide ((unhide R3).below hA3)
      have B3' := hide ((unhide B3).trans (hA3.mono (unhide B3).size))
      have HV3 := hide hV3
      clear hV3 hA3 X3 RV R3 B3 HB
      go_wp2_with fail
      rw [← unhide HV3]
      clear HV3
      refine (unhide H3).mono ?_
      rintro e w4 ⟨v4, rfl, o4, b4⟩
      have B4 := hide ((unhide B3').trans (b4.mono (unhide B3').size))
      obtain ⟨a4, c4, rfl, hc4, i4⟩ := o4.form
      have HJ4 := hide (unhide HJ w4 a3 c3 a4 c4 hc3 hc4 ((unhide R3').below b4) i4.rd)
      clear b4 o4 i4 R3' HJ hc3 hc4 H3 B3'
      go_wp2_with fail
      refine (unhide HJ4).mono ?_
      rintro e w5 ⟨v5, rfl, o5, b5⟩
      have B5 := hide ((unhide B4).trans (b5.mono (unhide B4).size))
      obtain ⟨a5, c5, rfl, hc5, i5⟩ := o5.form
      have hb4 := (unhide B4).size
      have I5 := hide (i5.mono (lb' := W.heap.size) (ls' := w5.heap.size) (by omega) (by omega))
      clear b5 o5 i5 HJ4 hb4
      obtain ⟨V, hV⟩ : ∃ V, V = w5.alloc (.cells #[.slice a5 R.length c5] 61) := ⟨_, rfl⟩
      have XV := (show Bx V w5.heap.size [.slice a5 R.length c5] by rw [hV]; exact Bx.new w5 _ _)
      have hAl : Below w5.heap.size w5 V := by rw [hV]; exact (Below.refl _ _).alloc (Nat.le_refl _) _
      have BV := hide ((unhide B5).trans (hAl.mono (unhide B5).size))
      have HC := hide (cutR w5.heap.size W.heap.size w5.heap.size c5 a5 R V hR hc5 XV (Or.inr (Nat.le_refl _)) ((unhide I5).below hAl))
      have hzV : w5.heap.size < V.heap.size := XV.lt
      have hW5 : W.heap.size ≤ w5.heap.size := (unhide B5).size
      have HV := hide hV
      clear hV hAl I5 B5 B4 XV hc5 hR
      go_upto_region 4 with fail
      rw [← unhide HV]
      clear HV
      go_wp2_with fail
      refine (unhide HC).mono ?_
      rintro e w6 ⟨rfl, x6, r6, k6⟩
      have x := x6.cv
      have xl := x6.lt
      have F6 := hide (unhide FIN a5 c5 w6 (r6.mono (Nat.le_refl _) (by have := k6.size; omega)) ((unhide BV).trans (k6.below (unhide BV).size (fun q hq => by omega))))
      clear x6 r6 k6 HC FIN BV
      generalize R.take 20 = T at *
      go_wp2
      go_ret2
      exact unhide F6
theorem implPN (L : List RangeD) (n : Int) (hn : L.length ≤ 1048576) (ho : rgO L) (hi : okI n) (W : World) (a : Option Addr) (cap : Nat) (h : Rd rangeK W a L) :
    Calls Try.prog 6 #[.slice a L.length cap, .int .i64 n] W fun e w' => ∃ (a' : Option Addr) (c' : Nat), e = .returned (.tuple #[.slice a' (pnL L n (pnB L n)).length c', .bool (pnB L n)]) ∧ Ri rangeK W.heap.size w'.heap.size w' a' (pnL L n (pnB L n)) ∧ Below W.heap.size W w' := implPNw L n hn ho W a cap h
end Go.Proofs.Ythjciigcipblpaa.Rc
