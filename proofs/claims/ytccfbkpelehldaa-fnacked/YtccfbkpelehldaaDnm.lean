/-
  Contracts: ranges that the model draws.
-/
import Derived.Test.YtccfbkpelehldaaRnq
import Derived.Test.YtccfbkpelehldaaRci
import Derived.Test.YtccfbkpelehldaaDkx
import Derived.Deep.DeepCutAuto
namespace Go.Proofs.Ytccfbkpelehldaa.Rc
open Go.ChangeShapes Go.WideShapes Go.ChangeAt Go.RowKit Go.Deep
set_option linter.unusedVariables false
set_option maxRecDepth 100000

/-- what PutNumber of the model leaves: a row of the call's own, with its room where nothing was cut off -/
def PNO (L : List RangeD) (n : Int) (W : World) (e : Ending) (w' : World) : Prop :=
  ∃ (a' : Option Addr) (c' : Nat), e = .returned (.tuple #[.slice a' (pnL L n (pnB L n)).length c', .bool (pnB L n)]) ∧ (L.length ≤ 19 → Ro rangeK 53 W.heap.size w' (.slice a' (pnL L n (pnB L n)).length c') (pnL L n (pnB L n))) ∧ Ri rangeK W.heap.size w'.heap.size w' a' (pnL L n (pnB L n)) ∧ Below W.heap.size W w'
theorem PNO.no {L : List RangeD} {n : Int} {W w' : World} (h : pnB L n = false) (b : Below W.heap.size W w') : PNO L n W (.returned (.tuple #[.slice none 0 0, .bool false])) w' :=
  ⟨none, 0, by rw [h]; rfl, by rw [h]; exact fun _ => Ro.nil rangeK 53 W.heap.size w', by rw [h]; exact Or.inl rfl, b⟩
set_option maxHeartbeats 4000000 in
theorem specPNo (L : List RangeD) (n : Int) (hn : L.length ≤ 1048576) (ho : rgO L) (W : World) (a : Option Addr) (cap : Nat) (h : Rd rangeK W a L) :
    Calls Try.prog 37 #[.slice a L.length cap, .int .i64 n] W fun e w' => PNO L n W e w' := by
  have H0 := hide (specGR a cap L W hn ho h)
  have H1 := hide (specKn n)
  cases e0 : grB L with
  | false =>
    have er : pnB L n = false := by unfold pnB; rw [e0]; rfl
    have FIN : Hid (∀ w', Below W.heap.size W w' → PNO L n W (.returned (.tuple #[.slice none 0 0, .bool false])) w') := fun w' b => PNO.no er b
    rw [e0] at H0
    clear er e0 h
    go_enter Try.func37, Try.ntmps37
    go_wp2_with fail
    refine (unhide H0).mono ?_
    rintro e w1 ⟨rfl, b1⟩
    have B1 := hide (unhide FIN _ b1)
    clear b1 FIN
    go_wp2
    go_ret2
    exact unhide B1
  | true =>
    rw [e0] at H0
    cases e1 : knB n with
    | false =>
      have er : pnB L n = false := by unfold pnB; rw [e0, e1]; rfl
      have FIN : Hid (∀ w', Below W.heap.size W w' → PNO L n W (.returned (.tuple #[.slice none 0 0, .bool false])) w') := fun w' b => PNO.no er b
      rw [e1] at H1
      clear er e0 e1 h
      go_enter Try.func37, Try.ntmps37
      go_wp2_with fail
      refine (unhide H0).mono ?_
      rintro e w1 ⟨rfl, b1⟩
      have B1 := hide (unhide FIN _ b1)
      clear b1 FIN
      go_wp2_with (go_at_call 46; refine (unhide H1 _).mono ?_; rintro e w9 ⟨rfl, h9⟩; rw [h9]; clear h9 w9)
      go_ret2
      exact unhide B1
    | true =>
      have er : pnB L n = true := by unfold pnB; rw [e0, e1]; rfl
      rw [e1] at H1
      have kn : 0 ≤ n ∧ n ≤ 4611686018427387903 := by unfold knB at e1; simpa using e1
      have l20 : L.length ≤ 20 := by unfold grB at e0; rw [Bool.and_eq_true, decide_eq_true_eq] at e0; exact e0.1
      have H2 := hide (fun W1 (b : Below W.heap.size W W1) => specPu a cap L ⟨n, n⟩ W1 (by omega) (gr_bd e0) ⟨kn, kn⟩ (h.below b))
      have hlen := putG_len L ⟨n, n⟩ false
      have FIN : Hid (∀ (a' : Option Addr) (c' : Nat) (w' : World), (L.length ≤ 19 → Ro rangeK 53 W.heap.size w' (.slice a' ((putG L ⟨n, n⟩ false).take 20).length c') ((putG L ⟨n, n⟩ false).take 20)) → Ri rangeK W.heap.size w'.heap.size w' a' ((putG L ⟨n, n⟩ false).take 20) → Below W.heap.size W w' → PNO L n W (.returned (.tuple #[.slice a' ((putG L ⟨n, n⟩ false).take 20).length c', .bool true])) w') := by
        intro a' c' w' h1 h2 h3
        refine ⟨a', c', ?_, ?_, ?_, h3⟩
        · rw [er]; rfl
        · rw [er]; exact h1
        · rw [er]; exact h2
      have LL : L.length ≤ 19 → (putG L ⟨n, n⟩ false).length ≤ 20 := fun h => by omega
      generalize putG L ⟨n, n⟩ false = R at *
      clear er e0 e1 h ho
      go_enter Try.func37, Try.ntmps37
      go_wp2_with fail
      refine (unhide H0).mono ?_
      rintro e w1 ⟨rfl, b1⟩
      have B1 := hide b1
      clear b1
      go_wp2_with (go_at_call 46; refine (unhide H1 _).mono ?_; rintro e w9 ⟨rfl, h9⟩; rw [h9]; clear h9 w9)
      refine (unhide H2 _ (unhide B1)).mono ?_
      rintro e w2 ⟨v, rfl, o2, b2⟩
      have O2 := hide (o2.mono (unhide B1).size)
      obtain ⟨a2, c2, rfl, hc2, i2⟩ := o2.form
      have B2 := hide ((unhide B1).trans (b2.mono (unhide B1).size))
      have I2 := hide (i2.mono (unhide B1).size (Nat.le_refl _))
      clear b2 o2 i2 H0 H1 H2 B1
      by_cases h20 : R.length ≤ 20
      · have e9 : Hid (R.take 20 = R) := List.take_of_length_le h20
        have g9 : ¬ (20 : Int) < (R.length : Int) := by omega
        have F : Hid (PNO L n W (.returned (.tuple #[.slice a2 R.length c2, .bool true])) w2) := by
          have := unhide FIN a2 c2 w2
          rw [unhide e9] at this
          exact this (fun _ => unhide O2) (unhide I2) (unhide B2)
        clear h20 hlen LL FIN
        go_wp2
        go_ret2
        exact unhide F
      · have e9 : (R.take 20).length = 20 := by rw [List.length_take]; omega
        have g9 : (20 : Int) < (R.length : Int) := by omega
        have g8 : (20 : Int) ≤ (c2 : Int) := by omega
        have F : Hid (PNO L n W (.returned (.tuple #[.slice a2 20 c2, .bool true])) w2) := by
          have := unhide FIN a2 c2 w2
          rw [e9] at this
          exact this (fun h => absurd (LL h) h20) ((unhide I2).take 20) (unhide B2)
        clear h20 hlen LL FIN e9
        go_wp2
        go_ret2
        exact unhide F
theorem pn_len {L : List RangeD} {n : Int} {j : Nat} (h : L.length ≤ j) : (pnL L n (pnB L n)).length ≤ j + 1 := by
  cases e : pnB L n with
  | false => exact Nat.zero_le _
  | true =>
    show ((putG L ⟨n, n⟩ false).take 20).length ≤ j + 1
    have := putG_len L ⟨n, n⟩ false
    rw [List.length_take]
    omega
/-- ranges that were drawn -/
def NBQ (cb : Nat) (a : Option Addr) (N cap P : Nat) (w : World) (e : Ending) (w' : World) : Prop :=
  ∃ (a' : Option Addr) (c' : Nat) (L : List RangeD), e = .returned (.slice a' L.length c') ∧ L.length ≤ 20 ∧ (∀ r ∈ L, bdR r) ∧ Ri rangeK w.heap.size w'.heap.size w' a' L ∧ Cu w' cb a N cap (P + 22) ∧ Kx cb w w'
set_option maxHeartbeats 8000000 in
theorem numbers_any (cb : Nat) (a : Option Addr) (N cap P : Nat) (w : World) (hN : N ≤ 1048576) (hP : P ≤ 400000) (h : Cu w cb a N cap P) :
    Calls Try.prog 11 #[.pointer (some ⟨cb, 0, none⟩)] w fun e w' => NBQ cb a N cap P w e w' := by
  have hcb := h.lt
  have H00 := hide h
  clear h
  go_enter Try.func11, Try.ntmps11
  go_wp2_with fail
  refine (pickN cb a N cap P 8 _ hN (by omega) (by omega) (by omega) (unhide H00)).mono ?_
  rintro e w1 ⟨n1, rfl, q1, u1, k1⟩
  have U1 := hide u1
  have K1 := hide k1
  have O1 := hide (Ro.nil rangeK 53 w.heap.size w1)
  clear u1 k1
  go_wp2_with fail
  go_loopw [3, 4] (fun v3 nv wr => ∃ (j n : Nat) (L : List RangeD), n + j ≤ 7 ∧ nv = .int .i64 n ∧ L.length ≤ j ∧ Hid (∀ r ∈ L, bdR r) ∧ Hid (Ro rangeK 53 w.heap.size wr v3 L) ∧ Hid (Cu wr cb a N cap (P + 2 + 2 * j)) ∧ Hid (Kx cb w wr)) (fun _ nv _ => (intOf nv).toNat)
  case atStart => exact ⟨0, n1, [], by omega, rfl, Nat.zero_le _, (fun r hr => by cases hr), O1, U1, K1⟩
  case round =>
    obtain ⟨j, n, L, hj, rfl, hL, hB, hO, hU, hK⟩ := hrel
    clear U1 K1 O1
    have sK := (unhide hK).size
    obtain ⟨a3, c3, rfl, hc3, _⟩ := (unhide hO).form
    by_cases hn0 : 0 < n
    · have hn1 : (0 : Int) < (n : Int) := by omega
      go_wp2_with fail
      refine (pickN cb a N cap (P + 2 + 2 * j) 30 _ hN (by omega) (by omega) (by omega) (unhide hU)).mono ?_
      rintro e w2 ⟨r2, rfl, q2, u2, k2⟩
      have O2 := hide ((unhide hO).kq (kx_kq k2) (fun q hq => by omega))
      have K2 := hide ((unhide hK).trans k2)
      have s2 := (unhide K2).size
      have U2 := hide u2
      have S2 := hide (specPNo L r2 (by omega) (mem_rgO (unhide hB)) w2 a3 c3 (by obtain ⟨a9, c9, e9, _, i9⟩ := (unhide O2).form; simp only [Value.slice.injEq] at e9; obtain ⟨rfl, _, rfl⟩ := e9; exact i9.rd))
      clear u2 k2 hO hU hK
      go_wp2_with fail
      refine (unhide S2).mono ?_
      rintro e w4 ⟨a4, c4, rfl, o4, _, b4⟩
      have O4 := hide ((o4 (by omega)).mono s2)
      have U4 := hide ((unhide U2).same b4)
      have K4 := hide ((unhide K2).trans (Kx.of b4))
      have hL4 := pn_len (n := (r2 : Int)) hL
      have B4 := hide (pn_bd (L := L) (n := (r2 : Int)))
      generalize pnL L r2 (pnB L r2) = L4 at *
      generalize pnB L r2 = b5 at *
      clear o4 b4 O2 U2 K2 S2
      obtain ⟨n, rfl⟩ : ∃ n', n = n' + 1 := ⟨n - 1, by omega⟩
      go_wp2
      exact ⟨⟨j + 1, n, L4, by omega, by go_num, hL4, B4, O4, (unhide U4).mono (by omega), K4⟩, by simp [intOf]⟩
    · obtain rfl : n = 0 := by omega
      have U5 := hide ((unhide hU).mono (Q := P + 16) (by omega))
      clear hU
      go_wp2_with fail
      refine (pickN cb a N cap (P + 16) 30 _ hN (by omega) (by omega) (by omega) (unhide U5)).mono ?_
      rintro e w2 ⟨r2, rfl, q2, u2, k2⟩
      have O2 := hide ((unhide hO).kq (kx_kq k2) (fun q hq => by omega))
      have K2 := hide ((unhide hK).trans k2)
      have s2 := (unhide K2).size
      have U2 := hide u2
      clear u2 k2 hO hK U5
      by_cases h0 : r2 = 0
      · subst h0
        go_wp2_with fail
        refine (pickN cb a N cap (P + 16 + 2) 9 _ hN (by omega) (by omega) (by omega) (unhide U2)).mono ?_
        rintro e w3 ⟨r3, rfl, q3, u3, k3⟩
        have O3 := hide ((unhide O2).kq (kx_kq k3) (fun q hq => by omega))
        have K3 := hide ((unhide K2).trans k3)
        have s3 := (unhide K3).size
        have U3 := hide u3
        clear u3 k3 O2 K2 U2
        go_wp2_with fail
        refine (pickN cb a N cap (P + 16 + 2 + 2) 9 _ hN (by omega) (by omega) (by omega) (unhide U3)).mono ?_
        rintro e w4 ⟨r4, rfl, q4, u4, k4⟩
        have O4 := hide ((unhide O3).kq (kx_kq k4) (fun q hq => by omega))
        have K4 := hide ((unhide K3).trans k4)
        have s4 := (unhide K4).size
        have U4 := hide u4
        clear u4 k4 O3 K3 U3
        obtain ⟨v9, w9, run, o9, b9, _⟩ := pushRange w4 w.heap.size _ L ⟨r3, r4⟩ (unhide O4) (by omega) s4
        have RUN := hide run
        obtain ⟨a9, c9, rfl, _, i9⟩ := o9.form
        have FIN : Hid (NBQ cb a N cap P w (.returned (.slice a9 (L ++ [(⟨r3, r4⟩ : RangeD)]).length c9)) w9) := by
          refine ⟨a9, c9, _, rfl, by simp; omega, ?_, i9, (cu_bel (unhide H00) (unhide U4) b9 (Nat.le_refl _)).mono (by omega), kx_bel (unhide K4) b9 (Nat.le_refl _)⟩
          intro r hr
          rcases List.mem_append.1 hr with h | h
          · exact unhide hB r h
          · rw [List.mem_singleton.1 h]; unfold bdR; dsimp only; omega
        generalize (L ++ [(⟨r3, r4⟩ : RangeD)]).length = l9 at *
        clear run o9 b9 i9 O4 K4 U4
        go_wp2_with (at_builtin; refine wpl_app rfl _ _ 28 rfl _ _ _ _ rfl rfl (unhide RUN) ?_)
        go_ret
        exact unhide FIN
      · have h0' : ((r2 : Int) == 0) = false := beq_eq_false_iff_ne.2 (by omega)
        by_cases h1 : r2 = 1
        · subst h1
          have I2 : Hid (Ri rangeK w.heap.size w2.heap.size w2 a3 L) := by
            obtain ⟨a9, c9, e9, _, i9⟩ := (unhide O2).form
            simp only [Value.slice.injEq] at e9
            obtain ⟨rfl, _, rfl⟩ := e9
            exact i9
          clear O2 h0
          go_wp2_with fail
          go_loopw [3, 5] (fun v3 kv wr => ∃ (k : Nat) (a' : Option Addr) (c' : Nat) (L' : List RangeD), k ≤ 21 ∧ kv = .int .i64 k ∧ v3 = .slice a' L'.length c' ∧ L'.length ≤ 20 ∧ Hid (∀ r ∈ L', bdR r) ∧ Hid (Ri rangeK w.heap.size wr.heap.size wr a' L') ∧ Hid (Cu wr cb a N cap (P + 18)) ∧ Hid (Kx cb w wr)) (fun _ kv _ => 21 - (intOf kv).toNat)
          case atStart => exact ⟨0, a3, c3, L, by omega, rfl, rfl, by omega, hB, I2, U2, K2⟩
          case round =>
            obtain ⟨k, a5, c5, L5, hk, rfl, rfl, hL5, hB5, hI5, hU5, hK5⟩ := hrel
            clear U2 K2 I2 hB
            have s5 := (unhide hK5).size
            by_cases hlt : k < 21
            · have hk1 : (k : Int) < 21 := by omega
              have e1 : IntKind.i64.wrap (1000 - 3 * (k : Int)) = ((1000 - 3 * k : Nat) : Int) := by rw [IntKind.wrap_i64]; omega
              have e2 : IntKind.i64.wrap (3 * (k : Int)) = 3 * (k : Int) := by rw [IntKind.wrap_i64]; omega
              have S5 := hide (specPNo L5 ((1000 - 3 * k : Nat) : Int) (by omega) (mem_rgO (unhide hB5)) wr a5 c5 (unhide hI5).rd)
              generalize (1000 - 3 * k : Nat) = z at *
              go_wp2_with fail
              refine (unhide S5).mono ?_
              rintro e w6 ⟨a6, c6, rfl, _, i6, b6⟩
              have I6 := hide (i6.mono s5 (Nat.le_refl _))
              have U6 := hide ((unhide hU5).same b6)
              have K6 := hide ((unhide hK5).trans (Kx.of b6))
              have hL6 := pnL_len L5 z (pnB L5 z)
              have B6 := hide (pn_bd (L := L5) (n := (z : Int)))
              generalize pnL L5 z (pnB L5 z) = L6 at *
              generalize pnB L5 z = b7 at *
              clear i6 b6 hI5 hU5 hK5 S5
              go_wp2
              exact ⟨⟨k + 1, a6, c6, L6, by omega, by go_num, rfl, hL6, B6, I6, U6, K6⟩, by simp [intOf]; omega⟩
            · obtain rfl : k = 21 := by omega
              have FIN : Hid (NBQ cb a N cap P w (.returned (.slice a5 L5.length c5)) wr) := ⟨a5, c5, L5, rfl, hL5, unhide hB5, unhide hI5, (unhide hU5).mono (by omega), unhide hK5⟩
              generalize L5.length = l5 at *
              go_wp2
              go_ret
              exact unhide FIN
        · have h1' : ((r2 : Int) == 1) = false := beq_eq_false_iff_ne.2 (by omega)
          have FIN : Hid (NBQ cb a N cap P w (.returned (.slice a3 L.length c3)) w2) := by
            obtain ⟨a9, c9, e9, _, i9⟩ := (unhide O2).form
            simp only [Value.slice.injEq] at e9
            obtain ⟨rfl, _, rfl⟩ := e9
            exact ⟨a3, c3, L, rfl, by omega, unhide hB, i9, (unhide U2).mono (by omega), unhide K2⟩
          clear O2 K2 U2 h0 h1
          generalize L.length = l9 at *
          go_wp2
          go_ret
          exact unhide FIN
end Go.Proofs.Ytccfbkpelehldaa.Rc
