/-
  Contracts: the datagrams that the model draws.
-/
import Derived.Test.YtbabipaipbjlbaaDrx
import Derived.Test.YtbabipaipbjlbaaSlcX
import Derived.Test.YtbabipaipbjlbaaLre
namespace Go.Proofs.Ytbabipaipbjlbaa.Dr
open Go.ChangeShapes Go.WideShapes Go.ChangeAt Go.RowKit
set_option linter.unusedVariables false
set_option maxRecDepth 100000

theorem pick_pos (cb : Nat) (a : Option Addr) (N cap P n : Nat) (w : World) (hN : N ≤ 1048576) (hP : P ≤ 900000) (h0 : 0 < n) (h1 : n ≤ 60000) (h : Cu w cb a N cap P) :
    Calls Try.prog 44 #[.pointer (some ⟨cb, 0, none⟩), .int .i64 n] w fun e w' => ∃ r : Nat, e = .returned (.int .i64 r) ∧ r < n ∧ Cu w' cb a N cap (P + 2) ∧ Kx cb w w' := by
  by_cases e : n = 1
  · subst e
    have HU := hide h
    clear h
    go_enter Try.func44, Try.ntmps44
    go_wp2
    go_ret
    exact ⟨0, rfl, by omega, (unhide HU).mono (by omega), Kx.refl _ _⟩
  · refine (pick_any cb a N cap P n w hN hP (by omega) (by omega) h).mono ?_
    rintro e w' ⟨r, rfl, h2, h3, u, k⟩
    obtain ⟨m, rfl⟩ := Int.eq_ofNat_of_zero_le h2
    exact ⟨m, rfl, by omega, u, k⟩
set_option maxHeartbeats 4000000 in
theorem spoilt_any (cb : Nat) (a : Option Addr) (N cap P : Nat) (t u : ByteArray) (w : World) (hN : N ≤ 1048576) (hP : P ≤ 100000) (ht : t.size ≤ 50000) (hu : u.size = 5) (h : Cu w cb a N cap P) :
    Calls Try.prog 91 #[.pointer (some ⟨cb, 0, none⟩), .string t, .string u] w fun e w' => ∃ x : ByteArray, e = .returned (.string x) ∧ x.size ≤ t.size + 2 ∧ Cu w' cb a N cap (P + 100) ∧ Kx cb w w' := by
  have HU := hide h
  clear h
  go_enter Try.func91, Try.ntmps91
  go_wp2_with fail
  refine (pick_pos cb a N cap P 3 _ hN (by omega) (by omega) (by omega) (unhide HU)).mono ?_
  rintro e w1 ⟨k0, rfl, hk0, u1, k1⟩
  have U1 := hide u1
  have K1 := hide k1
  clear u1 k1 HU
  go_wp2_with fail
  go_loopw [1, 7] (fun sv nv wr => ∃ (k : Nat) (x : ByteArray), k ≤ 2 ∧ nv = .int .i64 k ∧ sv = .string x ∧ x.size + k ≤ t.size + 2 ∧ Cu wr cb a N cap (P + 2 + 10 * (2 - k)) ∧ Kx cb w wr) (fun _ nv _ => (intOf nv).toNat)
  case atStart => exact ⟨k0, t, by omega, rfl, rfl, by omega, (unhide U1).mono (by omega), unhide K1⟩
  case round =>
    obtain ⟨k, x, hk, rfl, rfl, hx, ur, kr⟩ := hrel
    have UR := hide ur
    have KR := hide kr
    clear ur kr U1 K1
    by_cases hk1 : k = 0
    · subst hk1
      go_wp2
      go_ret
      exact ⟨x, rfl, by omega, (unhide UR).mono (by omega), unhide KR⟩
    have hkp : (0 : Int) < (k : Int) := by omega
    by_cases hz : x.size = 0
    · have hz' : ¬ (0 : Int) < (x.size : Int) := by omega
      go_wp2
      go_ret
      exact ⟨x, rfl, by omega, (unhide UR).mono (by omega), unhide KR⟩
    have hz' : (0 : Int) < (x.size : Int) := by omega
    go_wp2_with fail
    refine (pick_pos cb a N cap (P + 2 + 10 * (2 - k)) x.size _ hN (by omega) (by omega) (by omega) (unhide UR)).mono ?_
    rintro e w2 ⟨i, rfl, hi, u2, k2⟩
    have U2 := hide u2
    have K2 := hide ((unhide KR).trans k2)
    clear u2 k2 UR KR
    go_wp2_with fail
    have HP5 := hide (pick_pos cb a N cap (P + 2 + 10 * (2 - k) + 2) 5 w2 hN (by omega) (by omega) (by omega) (unhide U2))
    refine (unhide HP5).mono ?_
    rintro e w3 ⟨r5, rfl, h5, u3, k3⟩
    have hr5 : r5 < u.size := by omega
    have hr5' : (r5 : Int) < 5 := by omega
    have bb := (Below.refl w3.heap.size w3).alloc (Nat.le_refl _) (.cells #[.int .u8 (u[r5].toNat : Nat)] 5)
    have hA : Ar (w3.alloc (.cells #[.int .u8 (u[r5].toNat : Nat)] 5)) w3.heap.size 0 1 (fun _ => u[r5].toNat) := by
      have h9 := Ar.new w3 1 (fun _ => u[r5].toNat) 5
      rw [us_def] at h9
      exact h9
    have hst := ar_string hA (fun i _ => UInt8.toNat_lt _) 1
    have hz1 : (bq 1 fun _ => u[r5].toNat).size = 1 := bq_size _ _
    have U4 := hide (u3.same bb)
    have K4 := hide (((unhide K2).trans k3).trans (Kx.of bb))
    generalize (bq 1 fun _ => u[r5].toNat) = c1 at *
    clear u3 k3 U2 K2 HP5 hA bb
    go_wp2_with fail
    generalize w3.alloc (.cells #[.int .u8 (u[r5].toNat : Nat)] 5) = W4 at *
    refine (pick_pos cb a N cap (P + 2 + 10 * (2 - k) + 2 + 2) 3 _ hN (by omega) (by omega) (by omega) (unhide U4)).mono ?_
    rintro e w5 ⟨r3, rfl, h3, u5, k5⟩
    have U5 := hide u5
    have K5 := hide ((unhide K4).trans k5)
    clear u5 k5 U4 K4 hst
    have i0 : (0 : Int) ≤ (i : Int) := by omega
    have i1 : (i : Int) ≤ (x.size : Int) := by omega
    have i2 : IntKind.i64.wrap (i : Int) = (i : Int) := wraps_i64 _ (by omega) (by omega)
    have i3 : ((i : Int)).toNat = i := Int.toNat_natCast _
    have i4 : IntKind.i64.wrap ((i : Int) + 1) = ((i + 1 : Nat) : Int) := by rw [wraps_i64 _ (by omega) (by omega)]; omega
    have i5 : ((i + 1 : Nat) : Int) ≤ (x.size : Int) := by omega
    have i6 : (0 : Int) ≤ ((i + 1 : Nat) : Int) := by omega
    have z1 : (x.extract 0 i).size = i := by rw [ByteArray.size_extract]; omega
    have z2 : (x.extract i x.size).size = x.size - i := by rw [ByteArray.size_extract]; omega
    have z3 : (x.extract (i + 1) x.size).size = x.size - (i + 1) := by rw [ByteArray.size_extract]; omega
    have ad1 := fun W : World => run_string_add_sum (P := Try.prog) (w := W) (x.extract 0 i) c1 (by omega)
    have ad2 := fun W : World => run_string_add_sum (P := Try.prog) (w := W) (x.extract 0 i ++ c1) (x.extract i x.size) (by rw [ByteArray.size_append]; omega)
    have ad3 := fun W : World => run_string_add_sum (P := Try.prog) (w := W) (x.extract 0 i ++ c1) (x.extract (i + 1) x.size) (by rw [ByteArray.size_append]; omega)
    have ad4 := fun W : World => run_string_add_sum (P := Try.prog) (w := W) (x.extract 0 i) (x.extract (i + 1) x.size) (by omega)
    by_cases e0 : r3 = 0
    · subst e0
      go_wp2_with fail
      go_quiet (fail)
      all_goals
        have U6 := hide ((unhide U5).same (bdr w5 nq))
        have K6 := hide ((unhide K5).trans (Kx.of (bdr w5 nq)))
        have hy : (x.extract 0 i ++ c1 ++ x.extract i x.size).size + (k - 1) ≤ t.size + 2 := by simp only [ByteArray.size_append]; omega
        generalize w5.drewN nq = W6 at *
        generalize x.extract 0 i ++ c1 ++ x.extract i x.size = y at *
        clear U5 K5 ad1 ad2 ad3 ad4 z1 z2 z3
        go_wp2
        exact ⟨⟨k - 1, y, by omega, by go_num, rfl, hy, (unhide U6).mono (by omega), unhide K6⟩, by simp [intOf]; omega⟩
    · have g0 : ((r3 : Int) == 0) = false := by simp; omega
      by_cases e1 : r3 = 1
      · subst e1
        go_wp2_with fail
        go_quiet (fail)
        all_goals
          have U6 := hide ((unhide U5).same (bdr w5 nq))
          have K6 := hide ((unhide K5).trans (Kx.of (bdr w5 nq)))
          have hy : (x.extract 0 i ++ c1 ++ x.extract (i + 1) x.size).size + (k - 1) ≤ t.size + 2 := by simp only [ByteArray.size_append]; omega
          generalize w5.drewN nq = W6 at *
          generalize x.extract 0 i ++ c1 ++ x.extract (i + 1) x.size = y at *
          clear U5 K5 ad1 ad2 ad3 ad4 z1 z2 z3
          go_wp2
          exact ⟨⟨k - 1, y, by omega, by go_num, rfl, hy, (unhide U6).mono (by omega), unhide K6⟩, by simp [intOf]; omega⟩
      · have g1 : ((r3 : Int) == 1) = false := by simp; omega
        go_wp2_with fail
        go_quiet (fail)
        all_goals
          have U6 := hide ((unhide U5).same (bdr w5 nq))
          have K6 := hide ((unhide K5).trans (Kx.of (bdr w5 nq)))
          have hy : (x.extract 0 i ++ x.extract (i + 1) x.size).size + (k - 1) ≤ t.size + 2 := by simp only [ByteArray.size_append]; omega
          generalize w5.drewN nq = W6 at *
          generalize x.extract 0 i ++ x.extract (i + 1) x.size = y at *
          clear U5 K5 ad1 ad2 ad3 ad4 z1 z2 z3
          go_wp2
          exact ⟨⟨k - 1, y, by omega, by go_num, rfl, hy, (unhide U6).mono (by omega), unhide K6⟩, by simp [intOf]; omega⟩
set_option maxHeartbeats 4000000 in
theorem datagram_any (cb : Nat) (a : Option Addr) (N cap P : Nat) (w : World) (hN : N ≤ 1048576) (hP : P ≤ 50000) (h : Cu w cb a N cap P) :
    Calls Try.prog 66 #[.pointer (some ⟨cb, 0, none⟩)] w fun e w' => ∃ (x : ByteArray) (k : Nat), e = .returned (.tuple #[.string x, .int .i64 k]) ∧ x.size ≤ 9000 ∧ k ≤ 20 ∧ Cu w' cb a N cap (P + 5000) ∧ Kx cb w w' := by
  have HU := hide h
  have hcl := h.lt
  clear h
  go_enter Try.func66, Try.ntmps66
  go_wp2_with fail
  refine (pick_pos cb a N cap P 9 _ hN (by omega) (by omega) (by omega) (unhide HU)).mono ?_
  rintro e w1 ⟨s0, rfl, hs0, u1, k1⟩
  have U1 := hide u1
  have K1 := hide k1
  clear u1 k1
  go_wp2_with fail
  refine (pick_pos cb a N cap (P + 2) 3 _ hN (by omega) (by omega) (by omega) (unhide U1)).mono ?_
  rintro e w2 ⟨m, rfl, hm, u2, k2⟩
  have U2 := hide u2
  have K2 := hide ((unhide K1).trans k2)
  clear u2 k2 U1 K1
  have em : (1 : Int) + (m : Int) = ((1 + m : Nat) : Int) := by omega
  obtain ⟨q, h9⟩ : ∃ q : Nat, q = 1 + m := ⟨_, rfl⟩
  have hq : q ≤ 3 := by omega
  rw [← h9] at em
  clear h9 hm
  go_wp2_with fail
  go_loopw [4, 5, 6] (fun s4 s5 s6 wr => ∃ (x : ByteArray) (j k : Nat), k ≤ 3 ∧ s4 = .string x ∧ x.size ≤ 2000 * (3 - k) ∧ s5 = .int .i64 j ∧ j ≤ 2000 ∧ s6 = .int .i64 k ∧ Cu wr cb a N cap (P + 4 + 1000 * (3 - k)) ∧ Kx cb w wr) (fun _ _ s6 _ => (intOf s6).toNat)
  case atStart => exact ⟨⟨#[]⟩, s0, q, hq, rfl, by show 0 ≤ _; omega, rfl, by omega, rfl, (unhide U2).mono (by omega), unhide K2⟩
  case round =>
    obtain ⟨x, j, k, hk, rfl, hx, rfl, hj, rfl, ur, kr⟩ := hrel
    have UR := hide ur
    have KR := hide kr
    clear ur kr U2 K2
    by_cases hk0 : k = 0
    · subst hk0
      go_wp2_with fail
      refine (one_any cb a N cap (P + 4004) 5 _ hN (by omega) (by omega) (by omega) ((unhide UR).mono (by omega))).mono ?_
      rintro e w6 ⟨rb, rfl, u6, k6⟩
      have U6 := hide u6
      have K6 := hide ((unhide KR).trans k6)
      clear u6 k6 UR KR
      cases rb with
      | true =>
        go_wp2_with fail
        refine (spoilt_any cb a N cap (P + 4004 + 2) x _ _ hN (by omega) (by omega) rfl (unhide U6)).mono ?_
        rintro e w7 ⟨ys, rfl, hys, u7, k7⟩
        have U7 := hide u7
        have K7 := hide ((unhide K6).trans k7)
        clear u7 k7 U6 K6
        by_cases h20 : (20 : Int) < (j : Nat)
        · go_wp2
          go_ret2
          exact ⟨ys, 4, rfl, by omega, by omega, (unhide U7).mono (by omega), unhide K7⟩
        · go_wp2
          go_ret2
          exact ⟨ys, j, rfl, by omega, by omega, (unhide U7).mono (by omega), unhide K7⟩
      | false =>
        by_cases h20 : (20 : Int) < (j : Nat)
        · go_wp2
          go_ret2
          exact ⟨x, 4, rfl, by omega, by omega, (unhide U6).mono (by omega), unhide K6⟩
        · go_wp2
          go_ret2
          exact ⟨x, j, rfl, by omega, by omega, (unhide U6).mono (by omega), unhide K6⟩
    have hkp : (0 : Int) < (k : Int) := by omega
    go_wp2_with fail
    refine (header_any cb a N cap (P + 4 + 1000 * (3 - k)) _ hN (by omega) (unhide UR)).mono ?_
    rintro e w3 ⟨f, bi, ve, d, s, t, p, b, n, c, V, rfl, z1, z2, z3, z4, z5, hV, o3, u3, k3⟩
    have bb := (Below.refl w3.heap.size w3).alloc (Nat.le_refl _) (.cells #[.int .i64 f, .int .i64 bi, .int .i64 ve, .string d, .string s, .string t, .string p, .slice b n c] 49)
    have I3 := (oi_ia o3 hV).below bb
    obtain ⟨B, r, hB, HB⟩ := specHB_w f bi ve d s t p n V (by omega) (by omega) (by omega) (by omega) (by omega) b c _ I3
    have HB := hide HB
    have U3 := hide (u3.same bb)
    have K3 := hide (((unhide KR).trans k3).trans (Kx.of bb))
    have ad := fun W : World => run_string_add_sum (P := Try.prog) (w := W) x B (by omega)
    have hsum : (x ++ B).size ≤ 2000 * (3 - (k - 1)) := by rw [ByteArray.size_append]; omega
    have hW : w3.heap.size < (w3.alloc (.cells #[.int .i64 f, .int .i64 bi, .int .i64 ve, .string d, .string s, .string t, .string p, .slice b n c] 49)).heap.size := by simp
    have H3 := Hh.new w3 49 (.int .i64 f) (.int .i64 bi) (.int .i64 ve) (.string d) (.string s) (.string t) (.string p) (.slice b n c)
    generalize x ++ B = y at *
    clear UR KR u3 k3 o3 hV I3 bb
    obtain ⟨j2, hj2, hcase⟩ : ∃ j2 : Nat, j2 ≤ 2000 ∧ ((f = 5 ∧ j2 = d.size) ∨ (¬ f = 5 ∧ j2 = j)) := by
      by_cases e5 : f = 5
      · exact ⟨d.size, z1, Or.inl ⟨e5, rfl⟩⟩
      · exact ⟨j, hj, Or.inr ⟨e5, rfl⟩⟩
    have key : ∀ (b5 : Bool), (f == 5) = b5 → True := fun _ _ => trivial
    clear key
    rcases hcase with ⟨rfl, rfl⟩ | ⟨e5, rfl⟩
    · go_wp2_with fail
      refine (unhide HB).mono ?_
      rintro e w4 ⟨rfl, b4⟩
      have H4 := H3.below b4
      have U4 := hide ((unhide U3).same b4)
      have K4 := hide ((unhide K3).trans (Kx.of b4))
      obtain ⟨y0, y1, y2, y3, y4, y5, y6, y7, y8, yf⟩ := id H4
      clear b4 U3 K3 H3 HB
      cases r with
      | true =>
        go_wp2_with fail
        refine (one_any cb a N cap (P + 4004) 5 _ hN (by omega) (by omega) (by omega) ((unhide U4).mono (by omega))).mono ?_
        rintro e w6 ⟨rb, rfl, u6, k6⟩
        have U6 := hide u6
        have K6 := hide ((unhide K4).trans k6)
        clear u6 k6 U4 K4
        cases rb with
        | true =>
          go_wp2_with fail
          refine (spoilt_any cb a N cap (P + 4004 + 2) y _ _ hN (by omega) (by omega) rfl (unhide U6)).mono ?_
          rintro e w7 ⟨ys, rfl, hys, u7, k7⟩
          have U7 := hide u7
          have K7 := hide ((unhide K6).trans k7)
          clear u7 k7 U6 K6
          by_cases h20 : (20 : Int) < (d.size : Nat)
          · go_wp2
            go_ret2
            exact ⟨ys, 4, rfl, by omega, by omega, (unhide U7).mono (by omega), unhide K7⟩
          · go_wp2
            go_ret2
            exact ⟨ys, d.size, rfl, by omega, by omega, (unhide U7).mono (by omega), unhide K7⟩
        | false =>
          by_cases h20 : (20 : Int) < (d.size : Nat)
          · go_wp2
            go_ret2
            exact ⟨y, 4, rfl, by omega, by omega, (unhide U6).mono (by omega), unhide K6⟩
          · go_wp2
            go_ret2
            exact ⟨y, d.size, rfl, by omega, by omega, (unhide U6).mono (by omega), unhide K6⟩
      | false =>
        go_wp2_with fail
        refine (one_any cb a N cap (P + 4004) 5 _ hN (by omega) (by omega) (by omega) ((unhide U4).mono (by omega))).mono ?_
        rintro e w6 ⟨rb, rfl, u6, k6⟩
        have U6 := hide u6
        have K6 := hide ((unhide K4).trans k6)
        clear u6 k6 U4 K4
        cases rb with
        | true =>
          go_wp2_with fail
          refine (spoilt_any cb a N cap (P + 4004 + 2) x _ _ hN (by omega) (by omega) rfl (unhide U6)).mono ?_
          rintro e w7 ⟨ys, rfl, hys, u7, k7⟩
          have U7 := hide u7
          have K7 := hide ((unhide K6).trans k7)
          clear u7 k7 U6 K6
          by_cases h20 : (20 : Int) < (d.size : Nat)
          · go_wp2
            go_ret2
            exact ⟨ys, 4, rfl, by omega, by omega, (unhide U7).mono (by omega), unhide K7⟩
          · go_wp2
            go_ret2
            exact ⟨ys, d.size, rfl, by omega, by omega, (unhide U7).mono (by omega), unhide K7⟩
        | false =>
          by_cases h20 : (20 : Int) < (d.size : Nat)
          · go_wp2
            go_ret2
            exact ⟨x, 4, rfl, by omega, by omega, (unhide U6).mono (by omega), unhide K6⟩
          · go_wp2
            go_ret2
            exact ⟨x, d.size, rfl, by omega, by omega, (unhide U6).mono (by omega), unhide K6⟩
    · have e5' : (f == 5) = false := by simp [e5]
      go_wp2_with fail
      refine (unhide HB).mono ?_
      rintro e w4 ⟨rfl, b4⟩
      have H4 := H3.below b4
      have U4 := hide ((unhide U3).same b4)
      have K4 := hide ((unhide K3).trans (Kx.of b4))
      obtain ⟨y0, y1, y2, y3, y4, y5, y6, y7, y8, yf⟩ := id H4
      clear b4 U3 K3 H3 HB e5
      by_cases f3 : 3 ≤ f
      · cases r with
        | true =>
          go_wp2_with fail
          refine (one_any cb a N cap (P + 4004) 5 _ hN (by omega) (by omega) (by omega) ((unhide U4).mono (by omega))).mono ?_
          rintro e w6 ⟨rb, rfl, u6, k6⟩
          have U6 := hide u6
          have K6 := hide ((unhide K4).trans k6)
          clear u6 k6 U4 K4
          cases rb with
          | true =>
            go_wp2_with fail
            refine (spoilt_any cb a N cap (P + 4004 + 2) y _ _ hN (by omega) (by omega) rfl (unhide U6)).mono ?_
            rintro e w7 ⟨ys, rfl, hys, u7, k7⟩
            have U7 := hide u7
            have K7 := hide ((unhide K6).trans k7)
            clear u7 k7 U6 K6
            by_cases h20 : (20 : Int) < (j2 : Nat)
            · go_wp2
              go_ret2
              exact ⟨ys, 4, rfl, by omega, by omega, (unhide U7).mono (by omega), unhide K7⟩
            · go_wp2
              go_ret2
              exact ⟨ys, j2, rfl, by omega, by omega, (unhide U7).mono (by omega), unhide K7⟩
          | false =>
            by_cases h20 : (20 : Int) < (j2 : Nat)
            · go_wp2
              go_ret2
              exact ⟨y, 4, rfl, by omega, by omega, (unhide U6).mono (by omega), unhide K6⟩
            · go_wp2
              go_ret2
              exact ⟨y, j2, rfl, by omega, by omega, (unhide U6).mono (by omega), unhide K6⟩
        | false =>
          go_wp2_with fail
          refine (one_any cb a N cap (P + 4004) 5 _ hN (by omega) (by omega) (by omega) ((unhide U4).mono (by omega))).mono ?_
          rintro e w6 ⟨rb, rfl, u6, k6⟩
          have U6 := hide u6
          have K6 := hide ((unhide K4).trans k6)
          clear u6 k6 U4 K4
          cases rb with
          | true =>
            go_wp2_with fail
            refine (spoilt_any cb a N cap (P + 4004 + 2) x _ _ hN (by omega) (by omega) rfl (unhide U6)).mono ?_
            rintro e w7 ⟨ys, rfl, hys, u7, k7⟩
            have U7 := hide u7
            have K7 := hide ((unhide K6).trans k7)
            clear u7 k7 U6 K6
            by_cases h20 : (20 : Int) < (j2 : Nat)
            · go_wp2
              go_ret2
              exact ⟨ys, 4, rfl, by omega, by omega, (unhide U7).mono (by omega), unhide K7⟩
            · go_wp2
              go_ret2
              exact ⟨ys, j2, rfl, by omega, by omega, (unhide U7).mono (by omega), unhide K7⟩
          | false =>
            by_cases h20 : (20 : Int) < (j2 : Nat)
            · go_wp2
              go_ret2
              exact ⟨x, 4, rfl, by omega, by omega, (unhide U6).mono (by omega), unhide K6⟩
            · go_wp2
              go_ret2
              exact ⟨x, j2, rfl, by omega, by omega, (unhide U6).mono (by omega), unhide K6⟩
      · cases r with
        | true =>
          go_wp2
          exact ⟨⟨y, j2, k - 1, by omega, rfl, hsum, rfl, hj2, by go_num, (unhide U4).mono (by omega), unhide K4⟩, by simp [intOf]; omega⟩
        | false =>
          go_wp2
          exact ⟨⟨x, j2, k - 1, by omega, rfl, by omega, rfl, hj2, by go_num, (unhide U4).mono (by omega), unhide K4⟩, by simp [intOf]; omega⟩
set_option maxHeartbeats 1000000 in
theorem drawRH_any (a : Option Addr) (N cap : Nat) (w : World) (hN : N ≤ 1048576) (h : Cd w a N) :
    Calls Try.prog 38 #[.slice a N cap] w fun e w' => ∃ (x : ByteArray) (k : Int), e = .returned (.tuple #[.string x, .int .i64 k]) ∧ x.size ≤ 9000 ∧ -1 ≤ k ∧ k ≤ 21 ∧ Below w.heap.size w w' := by
  have U0 := hide (cu_first cap 77 h)
  have hl := (unhide U0).lt
  clear h
  go_enter Try.func38, Try.ntmps38
  go_wp2_with fail
  refine (datagram_any w.heap.size a N cap 0 _ hN (by omega) (unhide U0)).mono ?_
  rintro e w1 ⟨x, k, rfl, hx, hk, u1, k1⟩
  have U1 := hide u1
  have K1 := hide k1
  clear u1 k1 U0
  go_wp2_with fail
  refine (one_any w.heap.size a N cap (0 + 5000) 30 _ hN (by omega) (by omega) (by omega) (unhide U1)).mono ?_
  rintro e w2 ⟨rb, rfl, u2, k2⟩
  have U2 := hide u2
  have K2 := hide ((unhide K1).trans k2)
  clear u2 k2 U1 K1
  cases rb with
  | true =>
    go_wp2_with fail
    have hx2 := lit_cells w2 [-1, 20, 21] 3 (fun x => -1 ≤ x ∧ x ≤ 21) (by decide)
    have b1 := (Below.refl w2.heap.size w2).alloc (Nat.le_refl _) (.cells #[.int .i64 (-1), .int .i64 20, .int .i64 21] 3)
    have hl1 : w2.heap.size < (w2.alloc (.cells #[.int .i64 (-1), .int .i64 20, .int .i64 21] 3)).heap.size := by simp
    have hlc : w2.heap.size ≠ w.heap.size := by have := (unhide U2).lt; omega
    change ∀ i, i < 3 → ∃ x : Int, (-1 ≤ x ∧ x ≤ 21) ∧ (w2.alloc (.cells #[.int .i64 (-1), .int .i64 20, .int .i64 21] 3)).cell? ⟨w2.heap.size, i, none⟩ = some (.int .i64 x) at hx2
    have U3 := hide ((unhide U2).same b1)
    have K3 := hide ((unhide K2).trans (Kx.of b1))
    generalize w2.alloc (.cells #[.int .i64 (-1), .int .i64 20, .int .i64 21] 3) = WX at *
    refine (among_any w.heap.size a N cap (0 + 5000 + 2) w2.heap.size 3 3 (fun x => -1 ≤ x ∧ x ≤ 21) _ hN (by omega) (by omega) (by omega) hl1 hlc hx2 (unhide U3)).mono ?_
    rintro e w4 ⟨rv, rfl, hrv, u4, k4⟩
    have K4 := hide ((unhide K3).trans k4)
    clear u4 k4
    go_wp2
    go_ret2
    exact ⟨x, rv, rfl, hx, hrv.1, hrv.2, (unhide K4).draw⟩
  | false =>
    go_wp2
    go_ret2
    exact ⟨x, k, rfl, hx, by omega, by omega, (unhide K2).draw⟩
theorem drawCD_any (a : Option Addr) (N cap : Nat) (w : World) (hN : N ≤ 1048576) (h : Cd w a N) :
    Calls Try.prog 16 #[.slice a N cap] w fun e w' => ∃ (x : ByteArray) (k : Int), e = .returned (.tuple #[.string x, .int .i64 k]) ∧ x.size ≤ 9000 ∧ -1 ≤ k ∧ k ≤ 21 ∧ Below w.heap.size w w' := by
  have HD := hide (drawRH_any a N cap w hN h)
  clear h
  go_enter Try.func16, Try.ntmps16
  go_wp2_with fail
  refine (unhide HD).mono ?_
  rintro e w1 ⟨x, k, rfl, hx, h1, h2, b1⟩
  have B1 := hide b1
  clear b1
  go_wp2
  go_ret2
  exact ⟨x, k, rfl, hx, h1, h2, unhide B1⟩
end Go.Proofs.Ytbabipaipbjlbaa.Dr
