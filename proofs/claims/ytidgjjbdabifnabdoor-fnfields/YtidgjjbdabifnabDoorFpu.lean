/-
  Contract: TakePrefix of the program.
-/
import Derived.Test.YtidgjjbdabifnabDoorFpt
namespace Go.Proofs.YtidgjjbdabifnabDoor.Rc
open Go.ChangeShapes Go.WideShapes Go.ChangeAt Go.RowKit Go.Deep
set_option linter.unusedVariables false
set_option maxRecDepth 100000

theorem ext_at (s : ByteArray) (M j : Nat) (hM : M ≤ s.size) (h : j < (s.extract 1 M).size) : (s.extract 1 M)[j].toNat = by0 s (j + 1) := by
  have h1 : j + 1 < s.size := by rw [ByteArray.size_extract] at h; omega
  rw [← by0_at s (j + 1) h1]
  congr 1
  rw [ByteArray.getElem_extract]
  congr 1
  omega
theorem ext_size (s : ByteArray) (M : Nat) (h : (if (6 : Int) < (s.size : Int) then (6 : Int) else (s.size : Int)) = (M : Int)) (hp : 0 < s.size) : M ≤ s.size ∧ (s.extract 1 M).size = M - 1 ∧ 1 ≤ M ∧ ∀ j, j < M - 1 ↔ (j < 5 ∧ j + 1 < s.size) := by
  split at h
  · refine ⟨by omega, by rw [ByteArray.size_extract]; omega, by omega, fun j => by omega⟩
  · refine ⟨by omega, by rw [ByteArray.size_extract]; omega, by omega, fun j => by omega⟩
set_option maxHeartbeats 4000000 in
theorem implTPx (s : ByteArray) (b : Int) (w : World) (hz : s.size ≤ maxLen) : Calls Tryd.prog 58 #[.string s, .int .i64 b] w fun e w' => e = .returned (trip (tpA s b)) ∧ Below w.heap.size w w' := by
  unfold maxLen at hz
  have H2 := hide (fun w => implGPx b w)
  by_cases hb : 3 ≤ b ∧ b ≤ 8
  · obtain ⟨b', rfl⟩ := Int.eq_ofNat_of_zero_le (show 0 ≤ b by omega)
    have hb1 : decide ((3 : Int) ≤ (b' : Int)) = true := decide_eq_true hb.1
    have hb2 : decide ((b' : Int) ≤ 8) = true := decide_eq_true hb.2
    rw [hb1, hb2] at H2
    have h0 : 3 ≤ b' := by omega
    have h1 : b' ≤ 8 := by omega
    clear hb1 hb2 hb
    by_cases hs : s.size = 0
    · have hl : s.data.toList = [] := List.length_eq_zero_iff.1 (by rw [Array.length_toList]; exact hs)
      rw [tpA_nil hl]
      clear hl
      go_enter Tryd.func58, Tryd.ntmps58
      go_wp2_with (go_at_call 60; refine (unhide H2 _).mono ?_; rintro e w1 ⟨rfl, h9⟩; rw [h9]; clear h9 w1)
      go_ret3
      exact ⟨rfl, Below.refl _ _⟩
    have hp : 0 < s.size := by omega
    have HMI := hide (fun w => implMI b' h0 h1 w)
    have hmm := mI_cases b' h0 h1
    have hc0 := by0_lt s 0
    have ha1 := pand (by0 s 0) b' (by omega) (by omega)
    have ha2 := pandNot (by0 s 0) b' (by omega) h1
    rw [mI_pos] at ha1
    have hA := tpA_one (s := s) (b := b') h0 h1 hp
    have hM := tpA_more (s := s) (b := b') h0 h1 hp
    obtain ⟨m, hm⟩ : ∃ m, mI b' = m := ⟨_, rfl⟩
    rw [hm] at hmm ha1 ha2 hA hM HMI
    have hsb := by0_at s 0 hp
    obtain ⟨c0, hc⟩ : ∃ c0, by0 s 0 % (m + 1) = c0 := ⟨_, rfl⟩
    obtain ⟨hi, hh⟩ : ∃ hi, by0 s 0 - c0 = hi := ⟨_, rfl⟩
    rw [hc] at ha1 ha2 hA hM
    rw [hh] at ha2 hA hM
    have hmb : m ≤ 255 := by
      rcases hmm with ⟨_, h⟩ | ⟨_, h⟩ | ⟨_, h⟩ | ⟨_, h⟩ | ⟨_, h⟩ | ⟨_, h⟩ <;> omega
    have hc0b : c0 < m + 1 := by rw [← hc]; exact Nat.mod_lt _ (by omega)
    clear hmm
    have hsz : ¬ (s.size : Int) = 0 := by omega
    go_enter Tryd.func58, Tryd.ntmps58
    go_upto_region 4 with (first | (go_at_call 60; refine (unhide H2 _).mono ?_; rintro e w1 ⟨rfl, h9⟩; rw [h9]; clear h9 w1) | (go_at_call 52; refine (unhide HMI _).mono ?_; rintro e w1 ⟨rfl, h9⟩; rw [h9]; clear h9 w1))
    go_cut [8, 9] (fun x y wx => x = .int .i64 (c0 : Int) ∧ y = .int .i64 (hi : Int) ∧ Below w.heap.size w wx)
    case first =>
      have HB := hide (fun n => below_drewN (Below.refl w.heap.size w) n)
      go_quiet (fail)
      go_wp2
      go_meet
      exact ⟨rfl, rfl, unhide HB _⟩
    obtain ⟨rfl, rfl, hbel⟩ := hcut
    have HB := hide hbel
    clear hbel
    by_cases hlt : c0 < m
    · have HA := hide (hA hlt)
      have hlt2 : (c0 : Int) < (m : Int) := by omega
      clear hA hM hc hh
      go_wp2_with fail
      go_ret3
      exact ⟨by rw [unhide HA]; rfl, unhide HB⟩
    · have HM := hide (hM hlt)
      have hlt2 : ¬ (c0 : Int) < (m : Int) := by omega
      have hcm : c0 = m := by omega
      clear hA hM hc hh hlt
      obtain ⟨R, hR⟩ : ∃ R, tkG (rest5 s 0) m 0 = R := ⟨_, rfl⟩
      rw [hR] at HM
      have HR := hide hR
      clear hR
      go_upto_region 8 with fail
      obtain ⟨M, hMM⟩ : ∃ M : Nat, (if (6 : Int) < (s.size : Int) then (6 : Int) else (s.size : Int)) = (M : Int) := by
        split
        · exact ⟨6, rfl⟩
        · exact ⟨s.size, rfl⟩
      rw [hMM, Int.toNat_natCast]
      obtain ⟨hM1, hM2, hM3, hM4⟩ := ext_size s M hMM hp
      have hTa := ext_at s M
      obtain ⟨T, hT⟩ : ∃ T, s.extract 1 M = T := ⟨_, rfl⟩
      rw [hT] at hM2 ⊢
      have hTb : ∀ j (h : j < T.size), T[j].toNat = by0 s (j + 1) := by
        subst hT
        exact fun j h => hTa j hM1 h
      rw [← hM2] at hM4
      have HTB := hide hTb
      have HM4 := hide hM4
      have hT5 : T.size < 6 := by
        have : M ≤ 6 := by split at hMM <;> omega
        omega
      have HM2 := hide hM2
      clear hTa hTb hT hM1 hM2 hM4 hMM hM3
      go_wp2_with fail
      go_loopw [8, 44] (fun x y wr => ∃ (n j : Nat), x = .int .i64 (n : Int) ∧ y = .int .i64 (j : Int) ∧ j ≤ T.size ∧ n ≤ 1000000000 ∧ Hid (tkG (rest5 s j) n j = R) ∧ wr = wc) (fun _ y _ => T.size - (intOf y).toNat)
      case atStart => exact ⟨m, 0, rfl, rfl, by omega, by omega, HR, rfl⟩
      case round =>
        obtain ⟨n, j, rfl, rfl, hj5, hn, HT, rfl⟩ := hrel
        by_cases hj : j < T.size
        · obtain ⟨hjl, hq⟩ := ((unhide HM4) j).1 hj
          have hjs : j = 0 ∨ j = 1 ∨ j = 2 ∨ j = 3 ∨ j = 4 := by omega
          have hT1 := tkG_none (s := s) (n := n) hjl hq
          have hT2 := tkG_stop (s := s) (n := n) hjl hq
          have hT3 := tkG_on (s := s) (n := n) hjl hq
          have hsq := (unhide HTB) j hj
          have hd8 := by0_lt s (j + 1)
          have had := and7b ⟨by0 s (j + 1), hd8⟩
          dsimp only at had
          clear hjl
          rcases hjs with rfl | rfl | rfl | rfl | rfl
          · simp only [Nat.zero_add] at *
            go_upto_region 12 with fail
            have hN : (n : Int) + (by0 s 1 : Int) % 128 = ((n + by0 s 1 % 128 * 128 ^ 0 : Nat) : Int) := by omega
            rw [hN]
            obtain ⟨N, hNN⟩ : ∃ N, n + by0 s 1 % 128 * 128 ^ 0 = N := ⟨_, rfl⟩
            rw [hNN] at hT1 hT2 hT3 ⊢
            clear hN hNN
            by_cases hbig : 1000000000 < N
            · have HR2 := hide ((hT1 hbig).symm.trans (unhide HT))
              have hbi : (1000000000 : Int) < (N : Int) := by omega
              clear hT1 hT2 hT3 HT hbig
              go_wp2_with fail
              go_ret3
              exact ⟨by rw [unhide HM, ← unhide HR2]; rfl, unhide HB⟩
            · have hbi : ¬ (1000000000 : Int) < (N : Int) := by omega
              by_cases hcc : by0 s 1 < 128
              · have HR2 := hide ((hT2 hbig hcc).symm.trans (unhide HT))
                have hci : (by0 s 1 : Int) < 128 := by omega
                clear hT1 hT2 hT3 HT hbig hcc
                go_wp2_with fail
                go_ret3
                exact ⟨by rw [unhide HM, ← unhide HR2]; rfl, unhide HB⟩
              · have HR2 := (hT3 hbig hcc).symm.trans (unhide HT)
                have HR3 := hide HR2
                have hci : ¬ (by0 s 1 : Int) < 128 := by omega
                have HN := hide (show N ≤ 1000000000 by omega)
                clear hT1 hT2 hT3 HT hbig hcc HR2
                go_wp2_with fail
                exact ⟨⟨N, 1, rfl, rfl, by omega, unhide HN, HR3, trivial⟩, by simp [intOf]; omega⟩
          · simp only [Nat.reduceAdd] at *
            go_upto_region 12 with fail
            have hN : (n : Int) + (by0 s 2 : Int) % 128 * 128 = ((n + by0 s 2 % 128 * 128 ^ 1 : Nat) : Int) := by omega
            rw [hN]
            obtain ⟨N, hNN⟩ : ∃ N, n + by0 s 2 % 128 * 128 ^ 1 = N := ⟨_, rfl⟩
            rw [hNN] at hT1 hT2 hT3 ⊢
            clear hN hNN
            by_cases hbig : 1000000000 < N
            · have HR2 := hide ((hT1 hbig).symm.trans (unhide HT))
              have hbi : (1000000000 : Int) < (N : Int) := by omega
              clear hT1 hT2 hT3 HT hbig
              go_wp2_with fail
              go_ret3
              exact ⟨by rw [unhide HM, ← unhide HR2]; rfl, unhide HB⟩
            · have hbi : ¬ (1000000000 : Int) < (N : Int) := by omega
              by_cases hcc : by0 s 2 < 128
              · have HR2 := hide ((hT2 hbig hcc).symm.trans (unhide HT))
                have hci : (by0 s 2 : Int) < 128 := by omega
                clear hT1 hT2 hT3 HT hbig hcc
                go_wp2_with fail
                go_ret3
                exact ⟨by rw [unhide HM, ← unhide HR2]; rfl, unhide HB⟩
              · have HR2 := (hT3 hbig hcc).symm.trans (unhide HT)
                have HR3 := hide HR2
                have hci : ¬ (by0 s 2 : Int) < 128 := by omega
                have HN := hide (show N ≤ 1000000000 by omega)
                clear hT1 hT2 hT3 HT hbig hcc HR2
                go_wp2_with fail
                exact ⟨⟨N, 2, rfl, rfl, by omega, unhide HN, HR3, trivial⟩, by simp [intOf]; omega⟩
          · simp only [Nat.reduceAdd] at *
            go_upto_region 12 with fail
            have hN : (n : Int) + (by0 s 3 : Int) % 128 * 16384 = ((n + by0 s 3 % 128 * 128 ^ 2 : Nat) : Int) := by omega
            rw [hN]
            obtain ⟨N, hNN⟩ : ∃ N, n + by0 s 3 % 128 * 128 ^ 2 = N := ⟨_, rfl⟩
            rw [hNN] at hT1 hT2 hT3 ⊢
            clear hN hNN
            by_cases hbig : 1000000000 < N
            · have HR2 := hide ((hT1 hbig).symm.trans (unhide HT))
              have hbi : (1000000000 : Int) < (N : Int) := by omega
              clear hT1 hT2 hT3 HT hbig
              go_wp2_with fail
              go_ret3
              exact ⟨by rw [unhide HM, ← unhide HR2]; rfl, unhide HB⟩
            · have hbi : ¬ (1000000000 : Int) < (N : Int) := by omega
              by_cases hcc : by0 s 3 < 128
              · have HR2 := hide ((hT2 hbig hcc).symm.trans (unhide HT))
                have hci : (by0 s 3 : Int) < 128 := by omega
                clear hT1 hT2 hT3 HT hbig hcc
                go_wp2_with fail
                go_ret3
                exact ⟨by rw [unhide HM, ← unhide HR2]; rfl, unhide HB⟩
              · have HR2 := (hT3 hbig hcc).symm.trans (unhide HT)
                have HR3 := hide HR2
                have hci : ¬ (by0 s 3 : Int) < 128 := by omega
                have HN := hide (show N ≤ 1000000000 by omega)
                clear hT1 hT2 hT3 HT hbig hcc HR2
                go_wp2_with fail
                exact ⟨⟨N, 3, rfl, rfl, by omega, unhide HN, HR3, trivial⟩, by simp [intOf]; omega⟩
          · simp only [Nat.reduceAdd] at *
            go_upto_region 12 with fail
            have hN : (n : Int) + (by0 s 4 : Int) % 128 * 2097152 = ((n + by0 s 4 % 128 * 128 ^ 3 : Nat) : Int) := by omega
            rw [hN]
            obtain ⟨N, hNN⟩ : ∃ N, n + by0 s 4 % 128 * 128 ^ 3 = N := ⟨_, rfl⟩
            rw [hNN] at hT1 hT2 hT3 ⊢
            clear hN hNN
            by_cases hbig : 1000000000 < N
            · have HR2 := hide ((hT1 hbig).symm.trans (unhide HT))
              have hbi : (1000000000 : Int) < (N : Int) := by omega
              clear hT1 hT2 hT3 HT hbig
              go_wp2_with fail
              go_ret3
              exact ⟨by rw [unhide HM, ← unhide HR2]; rfl, unhide HB⟩
            · have hbi : ¬ (1000000000 : Int) < (N : Int) := by omega
              by_cases hcc : by0 s 4 < 128
              · have HR2 := hide ((hT2 hbig hcc).symm.trans (unhide HT))
                have hci : (by0 s 4 : Int) < 128 := by omega
                clear hT1 hT2 hT3 HT hbig hcc
                go_wp2_with fail
                go_ret3
                exact ⟨by rw [unhide HM, ← unhide HR2]; rfl, unhide HB⟩
              · have HR2 := (hT3 hbig hcc).symm.trans (unhide HT)
                have HR3 := hide HR2
                have hci : ¬ (by0 s 4 : Int) < 128 := by omega
                have HN := hide (show N ≤ 1000000000 by omega)
                clear hT1 hT2 hT3 HT hbig hcc HR2
                go_wp2_with fail
                exact ⟨⟨N, 4, rfl, rfl, by omega, unhide HN, HR3, trivial⟩, by simp [intOf]; omega⟩
          · simp only [Nat.reduceAdd] at *
            go_upto_region 12 with fail
            have hN : (n : Int) + (by0 s 5 : Int) % 128 * 268435456 = ((n + by0 s 5 % 128 * 128 ^ 4 : Nat) : Int) := by omega
            rw [hN]
            obtain ⟨N, hNN⟩ : ∃ N, n + by0 s 5 % 128 * 128 ^ 4 = N := ⟨_, rfl⟩
            rw [hNN] at hT1 hT2 hT3 ⊢
            clear hN hNN
            by_cases hbig : 1000000000 < N
            · have HR2 := hide ((hT1 hbig).symm.trans (unhide HT))
              have hbi : (1000000000 : Int) < (N : Int) := by omega
              clear hT1 hT2 hT3 HT hbig
              go_wp2_with fail
              go_ret3
              exact ⟨by rw [unhide HM, ← unhide HR2]; rfl, unhide HB⟩
            · have hbi : ¬ (1000000000 : Int) < (N : Int) := by omega
              by_cases hcc : by0 s 5 < 128
              · have HR2 := hide ((hT2 hbig hcc).symm.trans (unhide HT))
                have hci : (by0 s 5 : Int) < 128 := by omega
                clear hT1 hT2 hT3 HT hbig hcc
                go_wp2_with fail
                go_ret3
                exact ⟨by rw [unhide HM, ← unhide HR2]; rfl, unhide HB⟩
              · have HR2 := (hT3 hbig hcc).symm.trans (unhide HT)
                have HR3 := hide HR2
                have hci : ¬ (by0 s 5 : Int) < 128 := by omega
                have HN := hide (show N ≤ 1000000000 by omega)
                clear hT1 hT2 hT3 HT hbig hcc HR2
                go_wp2_with fail
                exact ⟨⟨N, 5, rfl, rfl, by omega, unhide HN, HR3, trivial⟩, by simp [intOf]; omega⟩
        · have hE := (tkG_end (s := s) (n := n) (fun h => hj (((unhide HM4) j).2 h))).symm.trans (unhide HT)
          have HE := hide hE
          have hq : ¬ ((j : Int) < (T.size : Int)) := by omega
          clear hE hj
          go_wp2_with fail
          go_ret3
          exact ⟨by rw [unhide HM, ← unhide HE]; rfl, unhide HB⟩
  · rw [tpA_no hb]
    have hd : (decide (3 ≤ b) && decide (b ≤ 8)) = false := by
      rw [← Bool.not_eq_true]
      simp only [Bool.and_eq_true, decide_eq_true_eq]
      exact hb
    rw [hd] at H2
    clear hd hb
    go_enter Tryd.func58, Tryd.ntmps58
    go_wp2_with (go_at_call 60; refine (unhide H2 _).mono ?_; rintro e w1 ⟨rfl, h9⟩; rw [h9]; clear h9 w1)
    go_ret3
    exact ⟨rfl, Below.refl _ _⟩
end Go.Proofs.YtidgjjbdabifnabDoor.Rc
