/-
  Contracts: a number with what stands above it is taken off, by both sides.
-/
import Derived.Test.YtidgjjbdabifnabDoorFpb
import Derived.Test.YtidgjjbdabifnabDoorFpf
namespace Go.Proofs.YtidgjjbdabifnabDoor.Rc
open Go.ChangeShapes Go.WideShapes Go.ChangeAt Go.RowKit Go.Deep
set_option linter.unusedVariables false
set_option maxRecDepth 100000

theorem andHighP (a j : Nat) (hj : j ≤ 64) (ha : a < 2 ^ 64) : a &&& (2 ^ 64 - 2 ^ j) = a / 2 ^ j * 2 ^ j := by
  have e : 2 ^ 64 - 2 ^ j = (2 ^ (64 - j) - 1) <<< j := by
    rw [Nat.shiftLeft_eq, Nat.sub_mul, ← Nat.pow_add, Nat.one_mul, show 64 - j + j = 64 by omega]
  have e2 : a / 2 ^ j * 2 ^ j = (a >>> j) <<< j := by rw [Nat.shiftLeft_eq, Nat.shiftRight_eq_div_pow]
  rw [e, e2]
  apply Nat.eq_of_testBit_eq
  intro i
  rw [Nat.testBit_and, Nat.testBit_shiftLeft, Nat.testBit_shiftLeft, Nat.testBit_shiftRight, Nat.testBit_two_pow_sub_one]
  by_cases h : j ≤ i
  · rw [show j + (i - j) = i by omega]
    by_cases h2 : i < 64
    · have h3 : i - j < 64 - j := by omega
      simp [h, h3]
    · have h4 : a.testBit i = false := Nat.testBit_lt_two_pow (Nat.lt_of_lt_of_le ha (Nat.pow_le_pow_right (by omega) (by omega)))
      simp [h4]
  · simp [h]
theorem andNotP (n j : Nat) (hn : n < 9223372036854775808) (hj : j ≤ 32) : bits .andNot .i64 (n : Int) ((2 ^ j - 1 : Nat) : Int) = ((n / 2 ^ j * 2 ^ j : Nat) : Int) := by
  have h1 : 2 ^ j ≤ 2 ^ 32 := Nat.pow_le_pow_right (by omega) hj
  have h0 : 0 < 2 ^ j := Nat.two_pow_pos j
  show IntKind.i64.wrap ((BitVec.ofInt 64 (n : Int) &&& ~~~BitVec.ofInt 64 ((2 ^ j - 1 : Nat) : Int)).toNat : Int) = _
  have q1 : (BitVec.ofInt 64 (n : Int)).toNat = n := by rw [BitVec.toNat_ofInt]; omega
  have q2 : (BitVec.ofInt 64 ((2 ^ j - 1 : Nat) : Int)).toNat = 2 ^ j - 1 := by rw [BitVec.toNat_ofInt]; omega
  rw [BitVec.toNat_and, BitVec.toNat_not, q1, q2, show 2 ^ 64 - 1 - (2 ^ j - 1) = 2 ^ 64 - 2 ^ j by omega, andHighP n j (by omega) (by omega)]
  have h9 := Nat.div_mul_le_self n (2 ^ j)
  exact wraps_i64 _ (by omega) (by omega)

theorem pandNot (c b : Nat) (hc : c ≤ 255) (hb : b ≤ 8) : bits .andNot .i64 (c : Int) (mI b : Nat) = ((c - c % (mI b + 1) : Nat) : Int) := by
  have e := mI_pos b
  have hd := Nat.div_add_mod c (2 ^ b)
  rw [Nat.mul_comm] at hd
  have h9 := andNotP c b (by omega) (by omega)
  rw [e] at hd h9
  rw [show mI b + 1 - 1 = mI b by omega] at h9
  rw [h9]
  congr 1
  omega
theorem and7b : ∀ x : Fin 256, bits .and .u8 ((x : Nat) : Int) 127 = ((x : Nat) % 128 : Nat) := by decide +kernel
/-- what TakePrefix answers -/
def tpA (s : ByteArray) (b : Int) : Nat × Nat × Nat := if 3 ≤ b ∧ b ≤ 8 then (match tkP s.data.toList b.toNat with | some t => t | none => (0, 0, 0)) else (0, 0, 0)
abbrev trip (t : Nat × Nat × Nat) : Value := .tuple #[.int .i64 t.1, .int .i64 t.2.1, .int .i64 t.2.2]
theorem tpA_no {s : ByteArray} {b : Int} (h : ¬ (3 ≤ b ∧ b ≤ 8)) : tpA s b = (0, 0, 0) := if_neg h
theorem tpA_nil {s : ByteArray} {b : Int} (h : s.data.toList = []) : tpA s b = (0, 0, 0) := by
  unfold tpA
  rw [h]
  split <;> rfl
theorem list0 (s : ByteArray) (h : 0 < s.size) : s.data.toList = s.data.toList.getD 0 0 :: s.data.toList.drop 1 := by
  have : s.data.toList.length = s.size := by rw [Array.length_toList]; rfl
  cases hl : s.data.toList with
  | nil => rw [hl] at this; simp at this; omega
  | cons c l => rfl
/-- of a text with a first byte -/
theorem tpA_one {s : ByteArray} {b : Nat} (h0 : 3 ≤ b) (h1 : b ≤ 8) (hs : 0 < s.size) (hlt : by0 s 0 % (mI b + 1) < mI b) : tpA s b = (by0 s 0 % (mI b + 1), by0 s 0 - by0 s 0 % (mI b + 1), 1) := by
  unfold tpA
  rw [if_pos (by omega), Int.toNat_natCast, list0 s hs]
  unfold tkP
  dsimp only
  unfold by0 at hlt ⊢
  rw [if_pos hlt]
/-- the bytes that may stand behind the first one, from the j-th on -/
def rest5 (s : ByteArray) (j : Nat) : List UInt8 := ((s.data.toList.drop 1).take 5).drop j
theorem tpA_more {s : ByteArray} {b : Nat} (h0 : 3 ≤ b) (h1 : b ≤ 8) (hs : 0 < s.size) (hlt : ¬ by0 s 0 % (mI b + 1) < mI b) : tpA s b = match tkG (rest5 s 0) (mI b) 0 with | none => (0, 0, 0) | some (n, k) => (n, by0 s 0 - by0 s 0 % (mI b + 1), k) := by
  unfold tpA
  rw [if_pos (by omega), Int.toNat_natCast, list0 s hs]
  unfold tkP
  dsimp only
  unfold by0 at hlt ⊢
  rw [if_neg hlt]
  unfold rest5
  rw [List.drop_zero]
  cases tkG (List.take 5 (List.drop 1 s.data.toList)) (mI b) 0 <;> rfl
theorem rest5_end {s : ByteArray} {j : Nat} (h : ¬ (j < 5 ∧ j + 1 < s.size)) : rest5 s j = [] := by
  have : s.data.toList.length = s.size := by rw [Array.length_toList]; rfl
  unfold rest5
  apply List.drop_eq_nil_of_le
  rw [List.length_take, List.length_drop]
  omega
theorem rest5_at {s : ByteArray} {j : Nat} (h : j < 5) (h2 : j + 1 < s.size) : rest5 s j = s.data.toList.getD (j + 1) 0 :: rest5 s (j + 1) := by
  have hl : s.data.toList.length = s.size := by rw [Array.length_toList]; rfl
  unfold rest5
  rw [List.drop_eq_getElem_cons (by rw [List.length_take, List.length_drop]; omega)]
  congr 1
  rw [List.getElem_take, List.getElem_drop, List.getD_eq_getElem?_getD, List.getElem?_eq_getElem (by omega), Option.getD_some]
  congr 1
  omega
theorem tkG_none {s : ByteArray} {j n : Nat} (h : j < 5) (h2 : j + 1 < s.size) (hbig : 1000000000 < n + by0 s (j + 1) % 128 * 128 ^ j) : tkG (rest5 s j) n j = none := by
  rw [rest5_at h h2]
  unfold tkG
  exact if_pos hbig
theorem tkG_stop {s : ByteArray} {j n : Nat} (h : j < 5) (h2 : j + 1 < s.size) (hbig : ¬ 1000000000 < n + by0 s (j + 1) % 128 * 128 ^ j) (hc : by0 s (j + 1) < 128) : tkG (rest5 s j) n j = some (n + by0 s (j + 1) % 128 * 128 ^ j, j + 2) := by
  rw [rest5_at h h2]
  unfold tkG
  exact (if_neg hbig).trans (if_pos hc)
theorem tkG_on {s : ByteArray} {j n : Nat} (h : j < 5) (h2 : j + 1 < s.size) (hbig : ¬ 1000000000 < n + by0 s (j + 1) % 128 * 128 ^ j) (hc : ¬ by0 s (j + 1) < 128) : tkG (rest5 s j) n j = tkG (rest5 s (j + 1)) (n + by0 s (j + 1) % 128 * 128 ^ j) (j + 1) := by
  rw [rest5_at h h2]
  rw [tkG]
  exact (if_neg hbig).trans (if_neg hc)
theorem tkG_end {s : ByteArray} {j n : Nat} (h : ¬ (j < 5 ∧ j + 1 < s.size)) : tkG (rest5 s j) n j = none := by
  rw [rest5_end h]
  rfl
set_option maxHeartbeats 4000000 in
theorem specTP (s : ByteArray) (b : Int) (w : World) (hz : s.size ≤ maxLen) : Calls Tryd.prog 30 #[.string s, .int .i64 b] w fun e w' => e = .returned (trip (tpA s b)) ∧ Below w.heap.size w w' := by
  unfold maxLen at hz
  have H2 := hide (fun w => l1In_any b 3 8 w)
  by_cases hs : s.size = 0
  · have hl : s.data.toList = [] := List.length_eq_zero_iff.1 (by rw [Array.length_toList]; exact hs)
    have he : s.toList.isEmpty = true := by rw [ByteArray.toList_eq, hl]; rfl
    rw [tpA_nil hl]
    clear hl
    go_enter Tryd.func30, Tryd.ntmps30
    go_wp2
    go_ret3
    exact ⟨rfl, Below.refl _ _⟩
  · have hp : 0 < s.size := by omega
    have he : s.toList.isEmpty = false := by
      rw [ByteArray.toList_eq, list0 s hp]
      rfl
    by_cases hb : 3 ≤ b ∧ b ≤ 8
    · obtain ⟨b', rfl⟩ := Int.eq_ofNat_of_zero_le (show 0 ≤ b by omega)
      have hb1 : decide ((3 : Int) ≤ (b' : Int)) = true := decide_eq_true hb.1
      have hb2 : decide ((b' : Int) ≤ 8) = true := decide_eq_true hb.2
      rw [hb1, hb2] at H2
      have h0 : 3 ≤ b' := by omega
      have h1 : b' ≤ 8 := by omega
      have hmm := mI_cases b' h0 h1
      have hc0 := by0_lt s 0
      have ha1 := pand (by0 s 0) b' (by omega) (by omega)
      have ha2 := pandNot (by0 s 0) b' (by omega) h1
      rw [mI_pos] at ha1
      have hA := tpA_one (s := s) (b := b') h0 h1 hp
      have hM := tpA_more (s := s) (b := b') h0 h1 hp
      obtain ⟨m, hm⟩ : ∃ m, mI b' = m := ⟨_, rfl⟩
      rw [hm] at hmm ha1 ha2 hA hM
      have hsb := by0_at s 0 hp
      clear hb1 hb2 hb
      go_enter Tryd.func30, Tryd.ntmps30
      go_upto_region 3 with (go_at_call 27; refine (unhide H2 _).mono ?_; rintro e w1 ⟨rfl, h9⟩; rw [← h9]; clear h9 w1)
      go_cut [7] (fun x wx => x = .int .i64 (m : Int) ∧ wx = w)
      case first =>
        clear hA hM ha1 ha2
        rcases hmm with ⟨rfl, rfl⟩ | ⟨rfl, rfl⟩ | ⟨rfl, rfl⟩ | ⟨rfl, rfl⟩ | ⟨rfl, rfl⟩ | ⟨rfl, rfl⟩
        all_goals
          go_wp2
          go_meet
          exact ⟨rfl, rfl⟩
      obtain ⟨rfl, hw⟩ := hcut
      rw [hw]
      clear hw hmm
      go_upto_region 4 with fail
      obtain ⟨c0, hc⟩ : ∃ c0, by0 s 0 % (m + 1) = c0 := ⟨_, rfl⟩
      obtain ⟨hi, hh⟩ : ∃ hi, by0 s 0 - c0 = hi := ⟨_, rfl⟩
      rw [hc] at ha1 ha2 hA hM
      rw [hh] at ha2 hA hM
      have hmb : m ≤ 255 := by
        rcases mI_cases b' h0 h1 with ⟨_, h⟩ | ⟨_, h⟩ | ⟨_, h⟩ | ⟨_, h⟩ | ⟨_, h⟩ | ⟨_, h⟩ <;> omega
      have hc0b : c0 < m + 1 := by rw [← hc]; exact Nat.mod_lt _ (by omega)
      by_cases hlt : c0 < m
      · have HA := hide (hA hlt)
        have hlt2 : (c0 : Int) < (m : Int) := by omega
        clear hA hM hc hh
        go_wp2_with fail
        go_ret3
        exact ⟨by rw [unhide HA]; rfl, Below.refl _ _⟩
      · have HM := hide (hM hlt)
        have hlt2 : ¬ (c0 : Int) < (m : Int) := by omega
        have hcm : c0 = m := by omega
        clear hA hM hc hh hlt
        obtain ⟨R, hR⟩ : ∃ R, tkG (rest5 s 0) m 0 = R := ⟨_, rfl⟩
        rw [hR] at HM
        have HR := hide hR
        clear hR
        go_wp2_with fail
        go_loopw [8, 10] (fun x y wr => ∃ (n j : Nat), x = .int .i64 (n : Int) ∧ y = .int .i64 ((j + 1 : Nat) : Int) ∧ j ≤ 5 ∧ n ≤ 1000000000 ∧ Hid (tkG (rest5 s j) n j = R) ∧ wr = w) (fun _ y _ => (6 - intOf y).toNat)
        case atStart => exact ⟨m, 0, rfl, rfl, by omega, by omega, HR, rfl⟩
        case round =>
          obtain ⟨n, j, rfl, rfl, hj5, hn, HT, rfl⟩ := hrel
          by_cases hj : j < 5 ∧ j + 1 < s.size
          · obtain ⟨hjl, hq⟩ := hj
            have hjs : j = 0 ∨ j = 1 ∨ j = 2 ∨ j = 3 ∨ j = 4 := by omega
            have hT1 := tkG_none (s := s) (n := n) hjl hq
            have hT2 := tkG_stop (s := s) (n := n) hjl hq
            have hT3 := tkG_on (s := s) (n := n) hjl hq
            have hsq := by0_at s (j + 1) hq
            have hd8 := by0_lt s (j + 1)
            have had := and7b ⟨by0 s (j + 1), hd8⟩
            dsimp only at had
            clear hjl
            rcases hjs with rfl | rfl | rfl | rfl | rfl
            · simp only [Nat.zero_add] at *
              go_upto_region 12 with fail
              have hN : (n : Int) + (by0 s 1 : Int) % 128 = ((n + by0 s 1 % 128 * 128 ^ 0 : Nat) : Int) := by omega
              rw [hN]
              obtain ⟨N, hNN⟩ : ∃ N, n + by0 s 1 % 128 * 128 ^ 0 = N := ⟨_, rfl⟩
              rw [hNN] at hT1 hT2 hT3 ⊢
              clear hN hNN
              by_cases hbig : 1000000000 < N
              · have HR2 := hide ((hT1 hbig).symm.trans (unhide HT))
                have hbi : (1000000000 : Int) < (N : Int) := by omega
                clear hT1 hT2 hT3 HT hbig
                go_wp2_with fail
                go_ret3
                exact ⟨by rw [unhide HM, ← unhide HR2]; rfl, Below.refl _ _⟩
              · have hbi : ¬ (1000000000 : Int) < (N : Int) := by omega
                by_cases hcc : by0 s 1 < 128
                · have HR2 := hide ((hT2 hbig hcc).symm.trans (unhide HT))
                  have hci : (by0 s 1 : Int) < 128 := by omega
                  clear hT1 hT2 hT3 HT hbig hcc
                  go_wp2_with fail
                  go_ret3
                  exact ⟨by rw [unhide HM, ← unhide HR2]; rfl, Below.refl _ _⟩
                · have HR2 := (hT3 hbig hcc).symm.trans (unhide HT)
                  have HR3 := hide HR2
                  have hci : ¬ (by0 s 1 : Int) < 128 := by omega
                  have HN := hide (show N ≤ 1000000000 by omega)
                  clear hT1 hT2 hT3 HT hbig hcc HR2
                  go_wp2_with fail
                  exact ⟨⟨N, 1, rfl, rfl, by omega, unhide HN, HR3, trivial⟩, by simp [intOf]⟩
            · simp only [Nat.reduceAdd] at *
              go_upto_region 12 with fail
              have hN : (n : Int) + (by0 s 2 : Int) % 128 * 128 = ((n + by0 s 2 % 128 * 128 ^ 1 : Nat) : Int) := by omega
              rw [hN]
              obtain ⟨N, hNN⟩ : ∃ N, n + by0 s 2 % 128 * 128 ^ 1 = N := ⟨_, rfl⟩
              rw [hNN] at hT1 hT2 hT3 ⊢
              clear hN hNN
              by_cases hbig : 1000000000 < N
              · have HR2 := hide ((hT1 hbig).symm.trans (unhide HT))
                have hbi : (1000000000 : Int) < (N : Int) := by omega
                clear hT1 hT2 hT3 HT hbig
                go_wp2_with fail
                go_ret3
                exact ⟨by rw [unhide HM, ← unhide HR2]; rfl, Below.refl _ _⟩
              · have hbi : ¬ (1000000000 : Int) < (N : Int) := by omega
                by_cases hcc : by0 s 2 < 128
                · have HR2 := hide ((hT2 hbig hcc).symm.trans (unhide HT))
                  have hci : (by0 s 2 : Int) < 128 := by omega
                  clear hT1 hT2 hT3 HT hbig hcc
                  go_wp2_with fail
                  go_ret3
                  exact ⟨by rw [unhide HM, ← unhide HR2]; rfl, Below.refl _ _⟩
                · have HR2 := (hT3 hbig hcc).symm.trans (unhide HT)
                  have HR3 := hide HR2
                  have hci : ¬ (by0 s 2 : Int) < 128 := by omega
                  have HN := hide (show N ≤ 1000000000 by omega)
                  clear hT1 hT2 hT3 HT hbig hcc HR2
                  go_wp2_with fail
                  exact ⟨⟨N, 2, rfl, rfl, by omega, unhide HN, HR3, trivial⟩, by simp [intOf]⟩
            · simp only [Nat.reduceAdd] at *
              go_upto_region 12 with fail
              have hN : (n : Int) + (by0 s 3 : Int) % 128 * 16384 = ((n + by0 s 3 % 128 * 128 ^ 2 : Nat) : Int) := by omega
              rw [hN]
              obtain ⟨N, hNN⟩ : ∃ N, n + by0 s 3 % 128 * 128 ^ 2 = N := ⟨_, rfl⟩
              rw [hNN] at hT1 hT2 hT3 ⊢
              clear hN hNN
              by_cases hbig : 1000000000 < N
              · have HR2 := hide ((hT1 hbig).symm.trans (unhide HT))
                have hbi : (1000000000 : Int) < (N : Int) := by omega
                clear hT1 hT2 hT3 HT hbig
                go_wp2_with fail
                go_ret3
                exact ⟨by rw [unhide HM, ← unhide HR2]; rfl, Below.refl _ _⟩
              · have hbi : ¬ (1000000000 : Int) < (N : Int) := by omega
                by_cases hcc : by0 s 3 < 128
                · have HR2 := hide ((hT2 hbig hcc).symm.trans (unhide HT))
                  have hci : (by0 s 3 : Int) < 128 := by omega
                  clear hT1 hT2 hT3 HT hbig hcc
                  go_wp2_with fail
                  go_ret3
                  exact ⟨by rw [unhide HM, ← unhide HR2]; rfl, Below.refl _ _⟩
                · have HR2 := (hT3 hbig hcc).symm.trans (unhide HT)
                  have HR3 := hide HR2
                  have hci : ¬ (by0 s 3 : Int) < 128 := by omega
                  have HN := hide (show N ≤ 1000000000 by omega)
                  clear hT1 hT2 hT3 HT hbig hcc HR2
                  go_wp2_with fail
                  exact ⟨⟨N, 3, rfl, rfl, by omega, unhide HN, HR3, trivial⟩, by simp [intOf]⟩
            · simp only [Nat.reduceAdd] at *
              go_upto_region 12 with fail
              have hN : (n : Int) + (by0 s 4 : Int) % 128 * 2097152 = ((n + by0 s 4 % 128 * 128 ^ 3 : Nat) : Int) := by omega
              rw [hN]
              obtain ⟨N, hNN⟩ : ∃ N, n + by0 s 4 % 128 * 128 ^ 3 = N := ⟨_, rfl⟩
              rw [hNN] at hT1 hT2 hT3 ⊢
              clear hN hNN
              by_cases hbig : 1000000000 < N
              · have HR2 := hide ((hT1 hbig).symm.trans (unhide HT))
                have hbi : (1000000000 : Int) < (N : Int) := by omega
                clear hT1 hT2 hT3 HT hbig
                go_wp2_with fail
                go_ret3
                exact ⟨by rw [unhide HM, ← unhide HR2]; rfl, Below.refl _ _⟩
              · have hbi : ¬ (1000000000 : Int) < (N : Int) := by omega
                by_cases hcc : by0 s 4 < 128
                · have HR2 := hide ((hT2 hbig hcc).symm.trans (unhide HT))
                  have hci : (by0 s 4 : Int) < 128 := by omega
                  clear hT1 hT2 hT3 HT hbig hcc
                  go_wp2_with fail
                  go_ret3
                  exact ⟨by rw [unhide HM, ← unhide HR2]; rfl, Below.refl _ _⟩
                · have HR2 := (hT3 hbig hcc).symm.trans (unhide HT)
                  have HR3 := hide HR2
                  have hci : ¬ (by0 s 4 : Int) < 128 := by omega
                  have HN := hide (show N ≤ 1000000000 by omega)
                  clear hT1 hT2 hT3 HT hbig hcc HR2
                  go_wp2_with fail
                  exact ⟨⟨N, 4, rfl, rfl, by omega, unhide HN, HR3, trivial⟩, by simp [intOf]⟩
            · simp only [Nat.reduceAdd] at *
              go_upto_region 12 with fail
              have hN : (n : Int) + (by0 s 5 : Int) % 128 * 268435456 = ((n + by0 s 5 % 128 * 128 ^ 4 : Nat) : Int) := by omega
              rw [hN]
              obtain ⟨N, hNN⟩ : ∃ N, n + by0 s 5 % 128 * 128 ^ 4 = N := ⟨_, rfl⟩
              rw [hNN] at hT1 hT2 hT3 ⊢
              clear hN hNN
              by_cases hbig : 1000000000 < N
              · have HR2 := hide ((hT1 hbig).symm.trans (unhide HT))
                have hbi : (1000000000 : Int) < (N : Int) := by omega
                clear hT1 hT2 hT3 HT hbig
                go_wp2_with fail
                go_ret3
                exact ⟨by rw [unhide HM, ← unhide HR2]; rfl, Below.refl _ _⟩
              · have hbi : ¬ (1000000000 : Int) < (N : Int) := by omega
                by_cases hcc : by0 s 5 < 128
                · have HR2 := hide ((hT2 hbig hcc).symm.trans (unhide HT))
                  have hci : (by0 s 5 : Int) < 128 := by omega
                  clear hT1 hT2 hT3 HT hbig hcc
                  go_wp2_with fail
                  go_ret3
                  exact ⟨by rw [unhide HM, ← unhide HR2]; rfl, Below.refl _ _⟩
                · have HR2 := (hT3 hbig hcc).symm.trans (unhide HT)
                  have HR3 := hide HR2
                  have hci : ¬ (by0 s 5 : Int) < 128 := by omega
                  have HN := hide (show N ≤ 1000000000 by omega)
                  clear hT1 hT2 hT3 HT hbig hcc HR2
                  go_wp2_with fail
                  exact ⟨⟨N, 5, rfl, rfl, by omega, unhide HN, HR3, trivial⟩, by simp [intOf]⟩
          · have hE := (tkG_end (s := s) (n := n) hj).symm.trans (unhide HT)
            have HE := hide hE
            by_cases hj1 : j < 5
            · have hq : ¬ (((j + 1 : Nat) : Int) < (s.size : Int)) := by omega
              have hq6 : ((j + 1 : Nat) : Int) < 6 := by omega
              generalize j + 1 = q at *
              clear hE hj
              go_wp2_with fail
              go_ret3
              exact ⟨by rw [unhide HM, ← unhide HE]; rfl, Below.refl _ _⟩
            · have hq6 : ¬ ((j + 1 : Nat) : Int) < 6 := by omega
              generalize j + 1 = q at *
              clear hE hj
              go_wp2_with fail
              go_ret3
              exact ⟨by rw [unhide HM, ← unhide HE]; rfl, Below.refl _ _⟩
    · rw [tpA_no hb]
      have hd : (decide (3 ≤ b) && decide (b ≤ 8)) = false := by
        rw [← Bool.not_eq_true]
        simp only [Bool.and_eq_true, decide_eq_true_eq]
        exact hb
      rw [hd] at H2
      clear hd hb
      go_enter Tryd.func30, Tryd.ntmps30
      go_wp2_with (go_at_call 27; refine (unhide H2 _).mono ?_; rintro e w1 ⟨rfl, h9⟩; rw [← h9]; clear h9 w1)
      go_ret3
      exact ⟨rfl, Below.refl _ _⟩
end Go.Proofs.YtidgjjbdabifnabDoor.Rc
