/-
  The law on numbers that are drawn, walked.
-/
import Derived.Test.YtiefmgljdibnnaaDrm
import Derived.Test.YtiefmgljdibnnaaL6n
import Derived.Test.YtiefmgljdibnnaaL6p
import Derived.Test.YtiefmgljdibnnaaLbi
import Derived.Deep.DeepCutAuto
namespace Go.Proofs.Ytiefmgljdibnnaa.fnNumbers
open Go.ChangeShapes Go.WideShapes Go.ChangeAt Go.RowKit
set_option linter.unusedVariables false
set_option maxRecDepth 100000

theorem nb_low (m k : Nat) (h0 : 1 ≤ k) (h4 : k ≤ 4) : nbW (loW m k) k = m % 256 ^ k := by
  have ha : ∀ i, i < k → at8 (loW m k) i = nB m (k - 1 - i) := fun i hi => at8_bq k (fun i => nB m (k - 1 - i)) i hi (nB_lt _ _)
  rcases four k h0 h4 with rfl | rfl | rfl | rfl
  · show 0 * 256 + at8 (loW m 1) 0 = _
    rw [ha 0 (by omega)]
    unfold nB
    omega
  · show (0 * 256 + at8 (loW m 2) 0) * 256 + at8 (loW m 2) 1 = _
    rw [ha 0 (by omega), ha 1 (by omega)]
    unfold nB
    omega
  · show ((0 * 256 + at8 (loW m 3) 0) * 256 + at8 (loW m 3) 1) * 256 + at8 (loW m 3) 2 = _
    rw [ha 0 (by omega), ha 1 (by omega), ha 2 (by omega)]
    unfold nB
    omega
  · show (((0 * 256 + at8 (loW m 4) 0) * 256 + at8 (loW m 4) 1) * 256 + at8 (loW m 4) 2) * 256 + at8 (loW m 4) 3 = _
    rw [ha 0 (by omega), ha 1 (by omega), ha 2 (by omega), ha 3 (by omega)]
    unfold nB
    omega
/-- the number comes back -/
theorem nr_back (next m W : Nat) (hW : W = 256 ∨ W = 65536 ∨ W = 16777216 ∨ W = 4294967296) (h0 : next ≤ m) (h1 : m - next + 1 < W / 2) (h2 : m ≤ 4611686018427387903) : nrF next (m % W) W = m := by
  rw [nrF_def]
  rcases hW with rfl | rfl | rfl | rfl
  · by_cases e : next / 256 = m / 256
    · rw [if_neg (by omega), if_neg (by omega)]
      omega
    · rw [if_pos (by omega)]
      omega
  · by_cases e : next / 65536 = m / 65536
    · rw [if_neg (by omega), if_neg (by omega)]
      omega
    · rw [if_pos (by omega)]
      omega
  · by_cases e : next / 16777216 = m / 16777216
    · rw [if_neg (by omega), if_neg (by omega)]
      omega
    · rw [if_pos (by omega)]
      omega
  · by_cases e : next / 4294967296 = m / 4294967296
    · rw [if_neg (by omega), if_neg (by omega)]
      omega
    · rw [if_pos (by omega)]
      omega
theorem no_back (l n acked : Int) (h0 : 0 ≤ n) (h1 : n ≤ 4611686018427387903) (h2 : -1 ≤ acked) (h3 : acked ≤ l) (h4 : l < n) (h5 : ¬ szF (n - acked) = 0) : noF l ((n.toNat % 256 ^ szF (n - acked) : Nat) : Int) ((szF (n - acked) : Nat) : Int) = n.toNat := by
  unfold noF
  simp only [Int.toNat_natCast]
  have hc := szF_cases (n - acked)
  have hW : 256 ^ szF (n - acked) = 256 ∨ 256 ^ szF (n - acked) = 65536 ∨ 256 ^ szF (n - acked) = 16777216 ∨ 256 ^ szF (n - acked) = 4294967296 := by
    rcases hc with ⟨_, e⟩ | ⟨_, _, e⟩ | ⟨_, _, e⟩ | ⟨_, _, e⟩ | ⟨_, e⟩
    · rw [e]; decide
    · rw [e]; decide
    · rw [e]; decide
    · rw [e]; decide
    · exact absurd e h5
  refine nr_back _ _ _ hW (by omega) ?_ (by omega)
  rcases hc with ⟨g, e⟩ | ⟨_, g, e⟩ | ⟨_, g, e⟩ | ⟨_, g, e⟩ | ⟨_, e⟩
  · rw [e]; show _ < 256 / 2; omega
  · rw [e]; show _ < 65536 / 2; omega
  · rw [e]; show _ < 16777216 / 2; omega
  · rw [e]; show _ < 4294967296 / 2; omega
  · exact absurd e h5
set_option maxHeartbeats 2000000 in
theorem walk_in (a : Option Addr) (N cap : Nat) (b : Option Addr) (M cap2 : Nat) (w : World) (hN : N + M ≤ 1048576) (hC : Cd w a N) (hC2 : Cd w b M) :
    Calls Try.prog 5 #[.slice a N cap, .slice b M cap2] w fun e w' => e = .returned (.bool true) ∧ Below w.heap.size w w' := by
  have HCD := hide hC
  have HCE := hide hC2
  clear hC hC2
  go_enter Try.func5, Try.ntmps5
  go_wp2_with fail
  refine (drawNumberBytes_any a N cap _ (by omega) (unhide HCD)).mono ?_
  rintro e w1 ⟨n, k, rfl, hn0, hn1, hk0, hk1, b1⟩
  have B1 := hide b1
  have C1 := hide ((unhide HCE).below b1)
  clear b1 HCD HCE
  have wn : (Lit.int .i64 n).wf = true := by simp [Lit.wf, IntKind.min, IntKind.max, IntKind.signed, IntKind.bits]; omega
  have wk : (Lit.int .i64 k).wf = true := by simp [Lit.wf, IntKind.min, IntKind.max, IntKind.signed, IntKind.bits]; omega
  have HH : ∃ (s : ByteArray) (ok : Bool), (∀ W : World, Calls Try.prog 7 #[.int .i64 n, .int .i64 k] W fun e w' => e = .returned (.tuple #[.string s, .bool ok]) ∧ Below W.heap.size W w') ∧
      (∀ W : World, Calls Try.prog 6 #[.int .i64 n, .int .i64 k] W fun e w' => e = .returned (.tuple #[.string s, .bool ok]) ∧ Below W.heap.size W w') ∧
      (ok = true → s = loW n.toNat (szF (n - k)) ∧ -1 ≤ k ∧ k < n ∧ ¬ szF (n - k) = 0) := by
    by_cases h : 0 ≤ n ∧ n ≤ 4611686018427387903 ∧ -1 ≤ k ∧ k < n ∧ ¬ szF (n - k) = 0
    · exact ⟨_, true, implNB_ok n k h, specNB_ok n k h, fun _ => ⟨rfl, h.2.2⟩⟩
    · exact ⟨_, false, implNB_no n k h wn wk, specNB_no n k h wn wk, fun h => by cases h⟩
  obtain ⟨s, ok, HI, HS, HO⟩ := HH
  have H1 := hide HI
  have H2 := hide HS
  have H3 := hide HO
  clear HI HS HO wn wk
  go_wp2_with fail
  refine (unhide H1 _).mono ?_
  rintro e w2 ⟨rfl, b2⟩
  have B2 := hide ((unhide B1).trans (b2.mono (unhide B1).size))
  have C2 := hide ((unhide C1).below b2)
  clear b2 B1 C1
  go_wp2_with fail
  refine (unhide H2 _).mono ?_
  rintro e w3 ⟨rfl, b3⟩
  have B3 := hide ((unhide B2).trans (b3.mono (unhide B2).size))
  have C3 := hide ((unhide C2).below b3)
  clear b3 B2 C2
  go_upto_if 54 with fail
  go_cut [] (fun wx => Below w.heap.size w wx ∧ Cd wx b M)
  case first =>
    cases ok with
    | true =>
      obtain ⟨hs, h2, h3, h4⟩ := unhide H3 rfl
      have HB := hide (fun l (ha : k ≤ l) (hb : l < n) => no_back l n k hn0 hn1 h2 ha hb h4)
      have hz := szF_cases (n - k)
      obtain ⟨z, ez⟩ : ∃ z : Nat, szF (n - k) = z := ⟨_, rfl⟩
      rw [ez] at hs h4 hz HB
      have z1 : 1 ≤ z := by omega
      have z4 : z ≤ 4 := by omega
      have hsz : s.size = z := by rw [hs]; exact loW_size _ _
      have EN := hide (nb_low n.toNat z z1 z4)
      rw [← hs] at EN
      clear hs ez hz h4 H3 H1 H2
      go_wp2_with fail
      go_loopw [11, 12] (fun lv iv wr => ∃ i : Nat, i ≤ z ∧ iv = .int .i64 i ∧ lv = .int .i64 (nbW s i : Nat) ∧ wr = w3) (fun _ iv _ => z - (intOf iv).toNat)
      case atStart => exact ⟨0, by omega, rfl, rfl, rfl⟩
      case round =>
        obtain ⟨i, hi, rfl, rfl, hww⟩ := hrel
        rw [hww]
        clear hww
        by_cases hlt : i < z
        · have hn := nbW_lt s i
          have h4 : 256 ^ i ≤ 256 ^ 4 := Nat.pow_le_pow_right (by omega) (by omega)
          have HS : Hid (nbW s (i + 1) = nbW s i * 256 + at8 s i) := rfl
          have hb : nbW s i < 4294967296 := by omega
          have ha := at8_lt s i
          have EO := hide (orI (nbW s i) (at8 s i) (by omega) ha)
          have ea := at8_in s i (by omega)
          rw [ea] at EO HS
          clear h4 hn ha ea
          have W8 : Hid (wrap64 ((s[i]'(by omega)).toNat : Int) = ((s[i]'(by omega)).toNat : Int)) := by
            have := UInt8.toNat_lt (s[i]'(by omega))
            exact (show wrap64 ((s[i]'(by omega)).toNat : Int) = ((s[i]'(by omega)).toNat : Int) by unfold wrap64; omega)
          generalize nbW s i = x at *
          go_wp2
          exact ⟨⟨i + 1, by omega, by go_num, by rw [unhide HS, ← unhide EO, unhide W8], by first | trivial | rfl⟩, by simp [intOf]; omega⟩
        · obtain rfl : i = z := by omega
          have hlow : nbW s i < 4294967296 := by
            have hn := nbW_lt s i
            have h4 : 256 ^ i ≤ 256 ^ 4 := Nat.pow_le_pow_right (by omega) (by omega)
            omega
          rw [unhide EN]
          rw [unhide EN] at hlow
          go_wp2_with fail
          refine (numberOf_any b M cap2 _ (by omega) (unhide C3)).mono ?_
          rintro e w5 ⟨r, rfl, hr, b5⟩
          have B5 := hide ((unhide B3).trans (b5.mono (unhide B3).size))
          have C5 := hide ((unhide C3).below b5)
          clear b5
          have q0 : 0 ≤ (r : Int) % (n - k) := Int.emod_nonneg _ (by omega)
          have q1 : (r : Int) % (n - k) < n - k := Int.emod_lt_of_pos _ (by omega)
          obtain ⟨q, hq⟩ : ∃ q : Int, (r : Int) % (n - k) = q := ⟨_, rfl⟩
          rw [hq] at q0 q1
          have hd : n - k ≠ 0 := by omega
          have hlow2 : ((n.toNat % 256 ^ i : Nat) : Int) < ((256 ^ i : Nat) : Int) := by
            have := Nat.mod_lt n.toNat (Nat.pow_pos (n := i) (show 0 < 256 by omega))
            omega
          have HN : Hid (∀ W : World, Calls Try.prog 9 #[.int .i64 (k + q), .int .i64 ((n.toNat % 256 ^ i : Nat) : Int), .int .i64 (i : Int)] W fun e w' => e = .returned (.tuple #[.int .i64 n, .bool true]) ∧ Below W.heap.size W w') := fun W => by
            have h9 := implNO_ok (k + q) ((n.toNat % 256 ^ i : Nat) : Int) (i : Int) ⟨by omega, by omega, by omega, by omega, by omega, by rw [Int.toNat_natCast]; exact hlow2⟩ W
            rw [unhide HB (k + q) (by omega) (by omega), show ((n.toNat : Nat) : Int) = n by omega] at h9
            exact h9
          generalize n.toNat % 256 ^ i = low at *
          clear hlow hlow2 HB EN
          go_wp2_with fail
          refine (unhide HN _).mono ?_
          rintro e w6 ⟨rfl, b6⟩
          have B6 := hide ((unhide B5).trans (b6.mono (unhide B5).size))
          have C6 := hide ((unhide C5).below b6)
          clear b6
          go_wp2_with fail
          go_meet
          exact ⟨unhide B6, unhide C6⟩
    | false =>
      go_wp2_with fail
      go_meet
      exact ⟨unhide B3, unhide C3⟩
  case rest =>
  obtain ⟨hb, hc⟩ := hcut
  have B4 := hide hb
  have C4 := hide hc
  clear hb hc B3 C3
  go_wp2_with fail
  refine (drawNumberOf_any b M cap2 _ (by omega) (unhide C4)).mono ?_
  rintro e w5 ⟨l, x, z, rfl, hl0, hl1, hx0, hx1, hz0, hz1, b5⟩
  have B5 := hide ((unhide B4).trans (b5.mono (unhide B4).size))
  clear b5 B4 C4
  have wl : (Lit.int .i64 l).wf = true := by simp [Lit.wf, IntKind.min, IntKind.max, IntKind.signed, IntKind.bits]; omega
  have wx : (Lit.int .i64 x).wf = true := by simp [Lit.wf, IntKind.min, IntKind.max, IntKind.signed, IntKind.bits]; omega
  have wz : (Lit.int .i64 z).wf = true := by simp [Lit.wf, IntKind.min, IntKind.max, IntKind.signed, IntKind.bits]; omega
  have HH : ∃ (y : Int) (ok : Bool), (∀ W : World, Calls Try.prog 9 #[.int .i64 l, .int .i64 x, .int .i64 z] W fun e w' => e = .returned (.tuple #[.int .i64 y, .bool ok]) ∧ Below W.heap.size W w') ∧
      (∀ W : World, Calls Try.prog 8 #[.int .i64 l, .int .i64 x, .int .i64 z] W fun e w' => e = .returned (.tuple #[.int .i64 y, .bool ok]) ∧ Below W.heap.size W w') := by
    by_cases h : 1 ≤ z ∧ z ≤ 4 ∧ -1 ≤ l ∧ l < 4611686018427387903 ∧ 0 ≤ x ∧ x < ((256 ^ z.toNat : Nat) : Int)
    · exact ⟨_, true, implNO_ok l x z h, specNO_ok l x z h⟩
    · exact ⟨_, false, implNO_no l x z h wl wx wz, specNO_no l x z h wl wx wz⟩
  obtain ⟨y, ok2, HI, HS⟩ := HH
  have G1 := hide HI
  have G2 := hide HS
  clear HI HS wl wx wz
  go_wp2_with fail
  refine (unhide G1 _).mono ?_
  rintro e w6 ⟨rfl, b6⟩
  have B6 := hide ((unhide B5).trans (b6.mono (unhide B5).size))
  clear b6 B5
  go_wp2_with fail
  refine (unhide G2 _).mono ?_
  rintro e w7 ⟨rfl, b7⟩
  have B7 := hide ((unhide B6).trans (b7.mono (unhide B6).size))
  clear b7 B6
  go_wp2
  go_ret
  exact ⟨by simp, unhide B7⟩
theorem walk (a : Option Addr) (N cap : Nat) (b : Option Addr) (M cap2 : Nat) (w : World) (hN : N ≤ 140737488355328) (hM : M ≤ 140737488355328) (hC : Cd w a N) (hC2 : Cd w b M) :
    Calls Try.prog 5 #[.slice a N cap, .slice b M cap2] w fun e w' => e = .returned (.bool true) ∧ Below w.heap.size w w' := by
  by_cases hl : (1048576 : Int) < (N : Int) + (M : Int)
  · go_enter Try.func5, Try.ntmps5
    go_wp2
    go_ret
    exact ⟨rfl, Below.refl _ _⟩
  · exact walk_in a N cap b M cap2 w (by omega) hC hC2
end Go.Proofs.Ytiefmgljdibnnaa.fnNumbers
