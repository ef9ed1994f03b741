/-
  The law on ranges, walked.
-/
import Derived.Test.YthjciigcipblpaaDnm
import Derived.Test.YthjciigcipblpaaRsm
import Derived.Test.YthjciigcipblpaaPutNumberI
import Derived.Test.YthjciigcipblpaaJoinRangesI
import Derived.Test.YthjciigcipblpaaGoodRangesI
import Derived.Test.YthjciigcipblpaaHasNumberI
namespace Go.Proofs.Ythjciigcipblpaa.fnRanges
open Go.ChangeShapes Go.WideShapes Go.ChangeAt Go.RowKit Go.Deep Rc
set_option linter.unusedVariables false
set_option maxRecDepth 100000

theorem i_ok {n : Int} (h : -1 ≤ n ∧ n ≤ 4611686018427387904) : okI n := by unfold okI; omega
theorem k_ok {k : Nat} (h : k < 45) : okI (k : Int) := by unfold okI; omega
set_option maxHeartbeats 8000000 in
theorem walk_small (a0 : Option Addr) (n0 c0 : Nat) (a1 : Option Addr) (n1 c1 : Nat) (w : World) (h : n0 + n1 ≤ 1048576) (hC0 : Cd w a0 n0) (hC1 : Cd w a1 n1) :
    Calls Try.prog 3 #[.slice a0 n0 c0, .slice a1 n1 c1] w fun e w' => e = .returned (.bool true) ∧ Below w.heap.size w w' := by
  have g0 : ¬ (1048576 : Int) < (n0 : Int) + (n1 : Int) := by omega
  have HC0 := hide hC0
  have HC1 := hide hC1
  clear hC0 hC1
  go_enter Try.func3, Try.ntmps3
  go_wp2_with fail
  refine (drawPN_any a0 n0 c0 _ (by omega) (unhide HC0)).mono ?_
  rintro e w1 ⟨aL, cL, L, n, rfl, hL, hB, hn, iL, b1⟩
  have RL1 := hide iL.rd
  have B1 := hide b1
  have P1 := hide (fun W h => implPN L n (by omega) (mem_rgO hB) (i_ok hn) W aL cL h)
  have P2 := hide (fun W h => specPN L n (by omega) (mem_rgO hB) W aL cL h)
  have PL := hide (fun (k : Int) W h => specHN L k (by omega) (mem_rgO hB) W aL cL h)
  have HX1 : Hid (pnB L n = true → grB (pnL L n (pnB L n)) = true) := fun h => pn_good h
  have HX2 : Hid (pnB L n = true → L.length < 20 → ∀ k : Int, hnB (pnL L n (pnB L n)) k = (hnB L k || decide (k = n))) := fun h hl k => pn_has h hl k
  have HX3 : Hid ((pnL L n (pnB L n)).length ≤ 20) := pnL_len L n _
  have HX4 := hide (mem_rgO (pn_bd (L := L) (n := n)))
  obtain ⟨l, hl⟩ : ∃ l, L.length = l := ⟨_, rfl⟩
  generalize pnL L n (pnB L n) = X at *
  generalize pnB L n = ok at *
  rw [hl] at P1 P2 PL HX2 hL ⊢
  clear iL b1 hB HC0 hn hl
  go_wp2_with fail
  refine (unhide P1 _ (unhide RL1)).mono ?_
  rintro e w2 ⟨aX, cX, rfl, iX, b2⟩
  have RL2 := hide ((unhide RL1).below b2)
  have RX2 := hide iX.rd
  have B2 := hide ((unhide B1).trans (b2.mono (unhide B1).size))
  clear P1 RL1 B1 iX b2
  obtain ⟨x, hx⟩ : ∃ x, X.length = x := ⟨_, rfl⟩
  have PS := hide (fun W aW cW h h' => sameR_yes aX aW cX cW X W (by have := unhide HX3; omega) h h')
  have PG := hide (fun W h => implGR X (by have := unhide HX3; omega) (unhide HX4) W aX cX h)
  have PX := hide (fun (k : Int) hk W h => implHN X k (by have := unhide HX3; omega) (unhide HX4) hk W aX cX h)
  rw [hx] at P2 PS PG PX ⊢
  clear hx HX3 HX4
  go_wp2_with fail
  refine (unhide P2 _ (unhide RL2)).mono ?_
  rintro e w3 ⟨aW, cW, rfl, rW, b3⟩
  have RL3 := hide ((unhide RL2).below b3)
  have RX3 := hide ((unhide RX2).below b3)
  have RW3 := hide rW
  have B3 := hide ((unhide B2).trans (b3.mono (unhide B2).size))
  clear P2 RL2 RX2 B2 rW b3
  go_wp2_with fail
  refine (unhide PS _ aW cW (unhide RX3) (unhide RW3)).mono ?_
  rintro e w4 ⟨rfl, b4⟩
  have RL4 := hide ((unhide RL3).below b4)
  have RX4 := hide ((unhide RX3).below b4)
  have B4 := hide ((unhide B3).trans (b4.mono (unhide B3).size))
  have HC4 := hide ((unhide HC1).below (unhide B4))
  clear PS RL3 RX3 RW3 B3 b4 HC1
  go_wp2_with fail
  refine (drawJR_any a1 n1 c1 _ (by omega) (unhide HC4)).mono ?_
  rintro e w5 ⟨aP, cP, P, aQ, cQ, Q, rfl, ⟨hP, bP, rP⟩, ⟨hQ, bQ, rQ⟩, b5⟩
  have RL5 := hide ((unhide RL4).below b5)
  have RX5 := hide ((unhide RX4).below b5)
  have RP5 := hide rP
  have RQ5 := hide rQ
  have B5 := hide ((unhide B4).trans (b5.mono (unhide B4).size))
  have J1 := hide (fun W h h' => implJR P Q (by omega) (by omega) (mem_rgO bP) (mem_rgO bQ) W aP cP aQ cQ h h')
  have J2 := hide (fun W h h' => specJR P Q (by omega) (by omega) (mem_rgO bP) (mem_rgO bQ) W aP cP aQ cQ h h')
  have PP := hide (fun (k : Int) W h => specHN P k (by omega) (mem_rgO bP) W aP cP h)
  have PQ := hide (fun (k : Int) W h => specHN Q k (by omega) (mem_rgO bQ) W aQ cQ h)
  unfold JRP at J2
  have HJ1 : Hid (jnB P Q = true → grB (jnL P Q (jnB P Q)) = true) := fun h => jn_good h
  have HJ2 : Hid (jnB P Q = true → ∀ k : Int, hnB (jnL P Q (jnB P Q)) k = (hnB P k || hnB Q k)) := fun h k => jn_has h k
  have HJ3 : Hid ((jnL P Q (jnB P Q)).length ≤ 20) := jnL_len P Q
  have HJ4 := hide (mem_rgO (jn_bd (A := P) (B := Q)))
  generalize jnL P Q (jnB P Q) = J at *
  generalize jnB P Q = is at *
  obtain ⟨p, hp⟩ : ∃ l, P.length = l := ⟨_, rfl⟩
  obtain ⟨q, hq⟩ : ∃ l, Q.length = l := ⟨_, rfl⟩
  rw [hp, hq] at J1 J2
  rw [hp] at PP
  rw [hq] at PQ
  rw [hp, hq]
  clear RL4 RX4 B4 HC4 b5 rP rQ bP bQ hP hQ hp hq
  go_wp2_with fail
  refine (unhide J1 _ (unhide RP5) (unhide RQ5)).mono ?_
  rintro e w6 ⟨aJ, cJ, rfl, iJ, b6⟩
  have RL6 := hide ((unhide RL5).below b6)
  have RX6 := hide ((unhide RX5).below b6)
  have RP6 := hide ((unhide RP5).below b6)
  have RQ6 := hide ((unhide RQ5).below b6)
  have RJ6 := hide iJ.rd
  have B6 := hide ((unhide B5).trans (b6.mono (unhide B5).size))
  obtain ⟨j, hj⟩ : ∃ l, J.length = l := ⟨_, rfl⟩
  have PH := hide (fun W h => implGR J (by have := unhide HJ3; omega) (unhide HJ4) W aJ cJ h)
  have PJ := hide (fun (k : Int) hk W h => implHN J k (by have := unhide HJ3; omega) (unhide HJ4) hk W aJ cJ h)
  rw [hj] at PH PJ J2 ⊢
  clear hj HJ3 HJ4 J1 RL5 RX5 RP5 RQ5 B5 iJ b6
  go_wp2_with fail
  refine (unhide J2 _ (unhide RP6) (unhide RQ6)).mono ?_
  rintro e w7 ⟨aV, cV, rfl, _, b7⟩
  have RL7 := hide ((unhide RL6).below b7)
  have RX7 := hide ((unhide RX6).below b7)
  have RP7 := hide ((unhide RP6).below b7)
  have RQ7 := hide ((unhide RQ6).below b7)
  have RJ7 := hide ((unhide RJ6).below b7)
  have B7 := hide ((unhide B6).trans (b7.mono (unhide B6).size))
  clear J2 RL6 RX6 RP6 RQ6 RJ6 B6 b7
  go_upto_region 11 with fail
  go_cut [95] (fun s95 wx => s95 = .bool false ∧ Hid (Below w7.heap.size w7 wx))
  case first =>
    cases ok with
    | false =>
      cases is with
      | false =>
        go_wp2
        go_meet
        exact ⟨rfl, Below.refl _ _⟩
      | true =>
        rw [unhide HJ1 rfl] at PH
        go_wp2_with fail
        refine (unhide PH _ (unhide RJ7)).mono ?_
        rintro e w8 ⟨rfl, b8⟩
        have B8 := hide b8
        clear b8
        go_wp2
        go_meet
        exact ⟨rfl, B8⟩
    | true =>
      rw [unhide HX1 rfl] at PG
      cases is with
      | false =>
        go_wp2_with fail
        refine (unhide PG _ (unhide RX7)).mono ?_
        rintro e w8 ⟨rfl, b8⟩
        have B8 := hide b8
        clear b8
        go_wp2
        go_meet
        exact ⟨rfl, B8⟩
      | true =>
        rw [unhide HJ1 rfl] at PH
        go_wp2_with fail
        refine (unhide PG _ (unhide RX7)).mono ?_
        rintro e w8 ⟨rfl, b8⟩
        have B8 := hide b8
        have RJ8 := hide ((unhide RJ7).below b8)
        clear b8
        go_wp2_with fail
        refine (unhide PH _ (unhide RJ8)).mono ?_
        rintro e w9 ⟨rfl, b9⟩
        have B9 := hide ((unhide B8).trans (b9.mono (unhide B8).size))
        clear b9 B8 RJ8
        go_wp2
        go_meet
        exact ⟨rfl, B9⟩
  case rest =>
  obtain ⟨w8, hw8⟩ : ∃ V, V = wc := ⟨_, rfl⟩
  obtain ⟨rfl, hcut⟩ := hcut
  have b8 := unhide hcut
  rw [← hw8] at b8 ⊢
  clear hw8 hcut
  have RL8 := hide ((unhide RL7).below b8)
  have RX8 := hide ((unhide RX7).below b8)
  have RP8 := hide ((unhide RP7).below b8)
  have RQ8 := hide ((unhide RQ7).below b8)
  have RJ8 := hide ((unhide RJ7).below b8)
  have B8 := hide ((unhide B7).trans (b8.mono (unhide B7).size))
  clear b8 RL7 RX7 RP7 RQ7 RJ7 B7 PG PH
  go_wp2_with fail
  go_loopw [17] (fun kv wr => ∃ k : Nat, k ≤ 45 ∧ kv = .int .i64 k ∧ Hid (Below w8.heap.size w8 wr)) (fun kv _ => 45 - (intOf kv).toNat)
  case atStart => exact ⟨0, by omega, rfl, Below.refl _ _⟩
  case round =>
    obtain ⟨k, hk, rfl, hK⟩ := hrel
    by_cases hlt : k < 45
    · have hk1 : (k : Int) < 45 := by omega
      have PLk := hide (unhide PL (k : Int))
      have PXk := hide (unhide PX (k : Int) (k_ok hlt))
      have PPk := hide (unhide PP (k : Int))
      have PQk := hide (unhide PQ (k : Int))
      have PJk := hide (unhide PJ (k : Int) (k_ok hlt))
      have HXk : Hid (ok = true → l < 20 → hnB X k = (hnB L k || decide ((k : Int) = n))) := fun h1 h2 => unhide HX2 h1 h2 k
      have HJk : Hid (is = true → hnB J k = (hnB P k || hnB Q k)) := fun h1 => unhide HJ2 h1 k
      generalize hnB X k = bx at *
      generalize hnB L k = bl at *
      generalize hnB J k = bj at *
      generalize hnB P k = bp at *
      generalize hnB Q k = bq at *
      clear PL PX PP PQ PJ HX2 HJ2
      go_upto_region 16 with fail
      go_cut [105] (fun s105 wx => (∃ r : Bool, s105 = .bool r ∧ Hid (r = (ok && decide (l < 20)))) ∧ wx = wr)
      case first =>
        cases ok with
        | false =>
          go_wp2
          go_meet
          exact ⟨⟨false, rfl, rfl⟩, rfl⟩
        | true =>
          by_cases hl : l < 20
          · have hl1 : (l : Int) < 20 := by omega
            have e9 : Hid (true = (true && decide (l < 20))) := by show _ = _; rw [decide_eq_true hl]; rfl
            go_wp2
            go_meet
            exact ⟨⟨true, rfl, e9⟩, rfl⟩
          · have hl1 : ¬ (l : Int) < 20 := by omega
            have e9 : Hid (false = (true && decide (l < 20))) := by show _ = _; rw [decide_eq_false hl]; rfl
            go_wp2
            go_meet
            exact ⟨⟨false, rfl, e9⟩, rfl⟩
      case rest =>
      obtain ⟨⟨r9, rfl, hr9⟩, rfl⟩ := hcut
      go_upto_if 105 with fail
      go_cut [] (fun wx => Hid (Below w8.heap.size w8 wx))
      case first =>
        clear PPk PQk PJk HJk
        cases r9 with
        | true =>
          obtain ⟨rfl, hl⟩ : ok = true ∧ l < 20 := by
            have := (unhide hr9).symm
            rw [Bool.and_eq_true, decide_eq_true_eq] at this
            exact this
          clear hr9
          have hl1 : (l : Int) < 20 := by omega
          have e1 := unhide HXk rfl hl
          rw [unhide HX1 rfl] at PXk
          subst e1
          clear HXk
          go_wp2_with fail
          refine (unhide PLk _ ((unhide RL8).below (unhide hK))).mono ?_
          rintro e wa ⟨rfl, ba⟩
          have Ba := hide ((unhide hK).trans (ba.mono (unhide hK).size))
          clear ba PLk
          go_wp2_with fail
          refine (unhide PXk _ ((unhide RX8).below (unhide Ba))).mono ?_
          rintro e wb ⟨rfl, bb⟩
          have Bb := hide ((unhide Ba).trans (bb.mono (unhide Ba).size))
          clear bb PXk Ba
          by_cases hkn : (k : Int) = n
          · have d1 : decide ((k : Int) = n) = true := decide_eq_true hkn
            have d2 : ((k : Int) == n) = true := beq_iff_eq.2 hkn
            rw [d1]
            clear hkn
            cases bl with
            | true =>
              go_wp2
              go_meet
              exact Bb
            | false =>
              go_wp2
              go_meet
              exact Bb
          · have d1 : decide ((k : Int) = n) = false := decide_eq_false hkn
            have d2 : ((k : Int) == n) = false := beq_eq_false_iff_ne.2 hkn
            rw [d1]
            clear hkn
            cases bl with
            | true =>
              go_wp2
              go_meet
              exact Bb
            | false =>
              go_wp2
              go_meet
              exact Bb
        | false =>
          clear PLk PXk HXk hr9
          go_wp2
          go_meet
          exact hK
      case rest =>
      have hKK := hcut
      clear hcut PLk PXk HXk
      obtain ⟨wd, hwd⟩ : ∃ V, V = wc := ⟨_, rfl⟩
      rw [← hwd] at hKK ⊢
      clear hwd
      cases is with
      | false =>
        go_wp2
        exact ⟨⟨k + 1, by omega, by go_num, hKK⟩, by simp [intOf]; omega⟩
      | true =>
        have e1 := unhide HJk rfl
        rw [unhide HJ1 rfl] at PJk
        subst e1
        clear HJk
        go_wp2_with fail
        refine (unhide PPk _ ((unhide RP8).below (unhide hKK))).mono ?_
        rintro e wa ⟨rfl, ba⟩
        have Ba := hide ((unhide hKK).trans (ba.mono (unhide hKK).size))
        clear ba PPk
        go_wp2_with fail
        refine (unhide PQk _ ((unhide RQ8).below (unhide Ba))).mono ?_
        rintro e wb ⟨rfl, bb⟩
        have Bb := hide ((unhide Ba).trans (bb.mono (unhide Ba).size))
        clear bb PQk Ba
        go_wp2_with fail
        refine (unhide PJk _ ((unhide RJ8).below (unhide Bb))).mono ?_
        rintro e we ⟨rfl, be⟩
        have Be := hide ((unhide Bb).trans (be.mono (unhide Bb).size))
        clear be PJk Bb
        cases bp with
        | true =>
          go_wp2
          exact ⟨⟨k + 1, by omega, by go_num, Be⟩, by simp [intOf]; omega⟩
        | false =>
          cases bq with
          | true =>
            go_wp2
            exact ⟨⟨k + 1, by omega, by go_num, Be⟩, by simp [intOf]; omega⟩
          | false =>
            go_wp2
            exact ⟨⟨k + 1, by omega, by go_num, Be⟩, by simp [intOf]; omega⟩
    · obtain rfl : k = 45 := by omega
      have FIN := hide ((unhide B8).trans ((unhide hK).mono (unhide B8).size))
      go_wp2
      go_ret
      exact ⟨rfl, unhide FIN⟩
theorem walk (a0 : Option Addr) (n0 c0 : Nat) (a1 : Option Addr) (n1 c1 : Nat) (w : World) (hN0 : n0 ≤ 140737488355328) (hN1 : n1 ≤ 140737488355328) (hC0 : Cd w a0 n0) (hC1 : Cd w a1 n1) :
    Calls Try.prog 3 #[.slice a0 n0 c0, .slice a1 n1 c1] w fun e w' => e = .returned (.bool true) ∧ Below w.heap.size w w' := by
  by_cases h : (1048576 : Int) < (n0 : Int) + (n1 : Int)
  · clear hC0 hC1
    go_enter Try.func3, Try.ntmps3
    go_wp2
    go_ret
    exact ⟨rfl, Below.refl _ _⟩
  · exact walk_small a0 n0 c0 a1 n1 c1 w (by omega) hC0 hC1
end Go.Proofs.Ythjciigcipblpaa.fnRanges
