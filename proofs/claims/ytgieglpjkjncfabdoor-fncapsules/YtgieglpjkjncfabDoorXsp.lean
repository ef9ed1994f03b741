/-
  A text that is spoilt (a copy beside the reading texts).
-/
import Derived.Test.YtgieglpjkjncfabDoorXdh
namespace Go.Proofs.YtgieglpjkjncfabDoor.Dr
open Go.ChangeShapes Go.WideShapes Go.ChangeAt Go.RowKit
set_option linter.unusedVariables false
set_option maxRecDepth 100000

theorem pick_pos (cb : Nat) (a : Option Addr) (N cap P n : Nat) (w : World) (hN : N ≤ 1048576) (hP : P ≤ 900000) (h0 : 0 < n) (h1 : n ≤ 60000) (h : Cu w cb a N cap P) :
    Calls Tryd.prog 25 #[.pointer (some ⟨cb, 0, none⟩), .int .i64 n] w fun e w' => ∃ r : Nat, e = .returned (.int .i64 r) ∧ r < n ∧ Cu w' cb a N cap (P + 2) ∧ Kx cb w w' := by
  by_cases e : n = 1
  · subst e
    have HU := hide h
    clear h
    go_enter Tryd.func25, Tryd.ntmps25
    go_wp2
    go_ret
    exact ⟨0, rfl, by omega, (unhide HU).mono (by omega), Kx.refl _ _⟩
  · refine (pick_any cb a N cap P n w hN hP (by omega) (by omega) h).mono ?_
    rintro e w' ⟨r, rfl, h2, h3, u, k⟩
    obtain ⟨m, rfl⟩ := Int.eq_ofNat_of_zero_le h2
    exact ⟨m, rfl, by omega, u, k⟩
set_option maxHeartbeats 4000000 in
theorem spoilt_any (cb : Nat) (a : Option Addr) (N cap P : Nat) (t u : ByteArray) (w : World) (hN : N ≤ 1048576) (hP : P ≤ 100000) (ht : t.size ≤ 50000) (hu : u.size = 5) (h : Cu w cb a N cap P) :
    Calls Tryd.prog 45 #[.pointer (some ⟨cb, 0, none⟩), .string t, .string u] w fun e w' => ∃ x : ByteArray, e = .returned (.string x) ∧ x.size ≤ t.size + 2 ∧ Cu w' cb a N cap (P + 100) ∧ Kx cb w w' := by
  have HU := hide h
  clear h
  go_enter Tryd.func45, Tryd.ntmps45
  go_wp2_with fail
  refine (pick_pos cb a N cap P 3 _ hN (by omega) (by omega) (by omega) (unhide HU)).mono ?_
  rintro e w1 ⟨k0, rfl, hk0, u1, k1⟩
  have U1 := hide u1
  have K1 := hide k1
  clear u1 k1 HU
  go_wp2_with fail
  go_loopw [1, 7] (fun sv nv wr => ∃ (k : Nat) (x : ByteArray), k ≤ 2 ∧ nv = .int .i64 k ∧ sv = .string x ∧ x.size + k ≤ t.size + 2 ∧ Cu wr cb a N cap (P + 2 + 10 * (2 - k)) ∧ Kx cb w wr) (fun _ nv _ => (intOf nv).toNat)
  case atStart => exact ⟨k0, t, by omega, rfl, rfl, by omega, (unhide U1).mono (by omega), unhide K1⟩
  case round =>
    obtain ⟨k, x, hk, rfl, rfl, hx, ur, kr⟩ := hrel
    have UR := hide ur
    have KR := hide kr
    clear ur kr U1 K1
    by_cases hk1 : k = 0
    · subst hk1
      go_wp2
      go_ret
      exact ⟨x, rfl, by omega, (unhide UR).mono (by omega), unhide KR⟩
    have hkp : (0 : Int) < (k : Int) := by omega
    by_cases hz : x.size = 0
    · have hz' : ¬ (0 : Int) < (x.size : Int) := by omega
      go_wp2
      go_ret
      exact ⟨x, rfl, by omega, (unhide UR).mono (by omega), unhide KR⟩
    have hz' : (0 : Int) < (x.size : Int) := by omega
    go_wp2_with fail
    refine (pick_pos cb a N cap (P + 2 + 10 * (2 - k)) x.size _ hN (by omega) (by omega) (by omega) (unhide UR)).mono ?_
    rintro e w2 ⟨i, rfl, hi, u2, k2⟩
    have U2 := hide u2
    have K2 := hide ((unhide KR).trans k2)
    clear u2 k2 UR KR
    go_wp2_with fail
    have HP5 := hide (pick_pos cb a N cap (P + 2 + 10 * (2 - k) + 2) 5 w2 hN (by omega) (by omega) (by omega) (unhide U2))
    refine (unhide HP5).mono ?_
    rintro e w3 ⟨r5, rfl, h5, u3, k3⟩
    have hr5 : r5 < u.size := by omega
    have hr5' : (r5 : Int) < 5 := by omega
    have bb := (Below.refl w3.heap.size w3).alloc (Nat.le_refl _) (.cells #[.int .u8 (u[r5].toNat : Nat)] 5)
    have hA : Ar (w3.alloc (.cells #[.int .u8 (u[r5].toNat : Nat)] 5)) w3.heap.size 0 1 (fun _ => u[r5].toNat) := by
      have h9 := Ar.new w3 1 (fun _ => u[r5].toNat) 5
      rw [us_def] at h9
      exact h9
    have hst := ar_string hA (fun i _ => UInt8.toNat_lt _) 1
    have hz1 : (bq 1 fun _ => u[r5].toNat).size = 1 := bq_size _ _
    have U4 := hide (u3.same bb)
    have K4 := hide (((unhide K2).trans k3).trans (Kx.of bb))
    generalize (bq 1 fun _ => u[r5].toNat) = c1 at *
    clear u3 k3 U2 K2 HP5 hA bb
    go_wp2_with fail
    generalize w3.alloc (.cells #[.int .u8 (u[r5].toNat : Nat)] 5) = W4 at *
    refine (pick_pos cb a N cap (P + 2 + 10 * (2 - k) + 2 + 2) 3 _ hN (by omega) (by omega) (by omega) (unhide U4)).mono ?_
    rintro e w5 ⟨r3, rfl, h3, u5, k5⟩
    have U5 := hide u5
    have K5 := hide ((unhide K4).trans k5)
    clear u5 k5 U4 K4 hst
    have i0 : (0 : Int) ≤ (i : Int) := by omega
    have i1 : (i : Int) ≤ (x.size : Int) := by omega
    have i2 : IntKind.i64.wrap (i : Int) = (i : Int) := wraps_i64 _ (by omega) (by omega)
    have i3 : ((i : Int)).toNat = i := Int.toNat_natCast _
    have i4 : IntKind.i64.wrap ((i : Int) + 1) = ((i + 1 : Nat) : Int) := by rw [wraps_i64 _ (by omega) (by omega)]; omega
    have i5 : ((i + 1 : Nat) : Int) ≤ (x.size : Int) := by omega
    have i6 : (0 : Int) ≤ ((i + 1 : Nat) : Int) := by omega
    have z1 : (x.extract 0 i).size = i := by rw [ByteArray.size_extract]; omega
    have z2 : (x.extract i x.size).size = x.size - i := by rw [ByteArray.size_extract]; omega
    have z3 : (x.extract (i + 1) x.size).size = x.size - (i + 1) := by rw [ByteArray.size_extract]; omega
    have ad1 := fun W : World => run_string_add_sum (P := Tryd.prog) (w := W) (x.extract 0 i) c1 (by omega)
    have ad2 := fun W : World => run_string_add_sum (P := Tryd.prog) (w := W) (x.extract 0 i ++ c1) (x.extract i x.size) (by rw [ByteArray.size_append]; omega)
    have ad3 := fun W : World => run_string_add_sum (P := Tryd.prog) (w := W) (x.extract 0 i ++ c1) (x.extract (i + 1) x.size) (by rw [ByteArray.size_append]; omega)
    have ad4 := fun W : World => run_string_add_sum (P := Tryd.prog) (w := W) (x.extract 0 i) (x.extract (i + 1) x.size) (by omega)
    by_cases e0 : r3 = 0
    · subst e0
      go_wp2_with fail
      go_quiet (fail)
      all_goals
        have U6 := hide ((unhide U5).same (bdr w5 nq))
        have K6 := hide ((unhide K5).trans (Kx.of (bdr w5 nq)))
        have hy : (x.extract 0 i ++ c1 ++ x.extract i x.size).size + (k - 1) ≤ t.size + 2 := by simp only [ByteArray.size_append]; omega
        generalize w5.drewN nq = W6 at *
        generalize x.extract 0 i ++ c1 ++ x.extract i x.size = y at *
        clear U5 K5 ad1 ad2 ad3 ad4 z1 z2 z3
        go_wp2
        exact ⟨⟨k - 1, y, by omega, by go_num, rfl, hy, (unhide U6).mono (by omega), unhide K6⟩, by simp [intOf]; omega⟩
    · have g0 : ((r3 : Int) == 0) = false := by simp; omega
      by_cases e1 : r3 = 1
      · subst e1
        go_wp2_with fail
        go_quiet (fail)
        all_goals
          have U6 := hide ((unhide U5).same (bdr w5 nq))
          have K6 := hide ((unhide K5).trans (Kx.of (bdr w5 nq)))
          have hy : (x.extract 0 i ++ c1 ++ x.extract (i + 1) x.size).size + (k - 1) ≤ t.size + 2 := by simp only [ByteArray.size_append]; omega
          generalize w5.drewN nq = W6 at *
          generalize x.extract 0 i ++ c1 ++ x.extract (i + 1) x.size = y at *
          clear U5 K5 ad1 ad2 ad3 ad4 z1 z2 z3
          go_wp2
          exact ⟨⟨k - 1, y, by omega, by go_num, rfl, hy, (unhide U6).mono (by omega), unhide K6⟩, by simp [intOf]; omega⟩
      · have g1 : ((r3 : Int) == 1) = false := by simp; omega
        go_wp2_with fail
        go_quiet (fail)
        all_goals
          have U6 := hide ((unhide U5).same (bdr w5 nq))
          have K6 := hide ((unhide K5).trans (Kx.of (bdr w5 nq)))
          have hy : (x.extract 0 i ++ x.extract (i + 1) x.size).size + (k - 1) ≤ t.size + 2 := by simp only [ByteArray.size_append]; omega
          generalize w5.drewN nq = W6 at *
          generalize x.extract 0 i ++ x.extract (i + 1) x.size = y at *
          clear U5 K5 ad1 ad2 ad3 ad4 z1 z2 z3
          go_wp2
          exact ⟨⟨k - 1, y, by omega, by go_num, rfl, hy, (unhide U6).mono (by omega), unhide K6⟩, by simp [intOf]; omega⟩
end Go.Proofs.YtgieglpjkjncfabDoor.Dr
