/-
  Contracts: numbers with what stands above them, of both sides.
-/
import Derived.Test.YtidgjjbdabifnabDoorFpr
import Derived.Laws.BitsLemmas
namespace Go.Proofs.YtidgjjbdabifnabDoor.Rc
open Go.ChangeShapes Go.WideShapes Go.ChangeAt Go.RowKit Go.Deep
set_option linter.unusedVariables false
set_option maxRecDepth 100000

theorem btP (lo n hi : Int) (w : World) :
    Calls Tryd.prog 26 #[.int .i64 lo, .int .i64 n, .int .i64 hi] w fun e w' => e = .returned (.bool (decide (lo ≤ n) && decide (n ≤ hi))) ∧ w' = w := by
  by_cases h : lo ≤ n
  · have h1 : decide (lo ≤ n) = true := by simpa using h
    go_enter Tryd.func26, Tryd.ntmps26
    go_wp2
    go_ret
    exact ⟨by rw [h1]; rfl, rfl⟩
  · have h1 : decide (lo ≤ n) = false := by simpa using h
    go_enter Tryd.func26, Tryd.ntmps26
    go_wp2
    go_ret
    exact ⟨rfl, rfl⟩
theorem implGPx (b : Int) (w : World) : Calls Tryd.prog 60 #[.int .i64 b] w fun e w' => e = .returned (.bool (decide (3 ≤ b) && decide (b ≤ 8))) ∧ w' = w := by
  have H := hide (btP 3 b 8)
  generalize (decide (3 ≤ b) && decide (b ≤ 8)) = r at *
  go_enter Tryd.func60, Tryd.ntmps60
  go_wp2_with fail
  refine (unhide H _).mono ?_
  rintro e w1 ⟨rfl, h9⟩
  rw [h9]
  clear h9 w1
  go_wp2
  go_ret
  exact ⟨rfl, rfl⟩
theorem implMI (b : Nat) (h0 : 3 ≤ b) (h1 : b ≤ 8) (w : World) : Calls Tryd.prog 52 #[.int .i64 b] w fun e w' => e = .returned (.int .i64 (mI b)) ∧ w' = w := by
  rcases mI_cases b h0 h1 with ⟨rfl, h⟩ | ⟨rfl, h⟩ | ⟨rfl, h⟩ | ⟨rfl, h⟩ | ⟨rfl, h⟩ | ⟨rfl, h⟩
  all_goals
    rw [h]
    go_enter Tryd.func52, Tryd.ntmps52
    go_wp2
    go_ret
    exact ⟨rfl, rfl⟩
theorem low7 (n : Nat) (hn : n < 9223372036854775808) : bits .and .i64 (n : Int) 127 = ((n % 128 : Nat) : Int) := by
  have e1 : (BitVec.ofInt 64 (n : Int)).toNat = n := by rw [BitVec.toNat_ofInt]; omega
  show IntKind.i64.wrap ((BitVec.ofInt 64 (n : Int) &&& BitVec.ofInt 64 127).toNat : Int) = _
  rw [BitVec.toNat_and, e1, show (BitVec.ofInt 64 127).toNat = 2 ^ 7 - 1 from rfl, Nat.and_two_pow_sub_one_eq_mod]
  exact wraps_i64 _ (by omega) (by omega)
theorem or7 (n : Nat) : bits .or .i64 ((n % 128 : Nat) : Int) 128 = ((n % 128 + 128 : Nat) : Int) := by
  rw [or_swap, or_pow 7 128 ((n % 128 : Nat) : Int) (by omega) (by omega) (by omega) (by omega) (by omega) (by omega)]
  omega
/-- what stands above a number, and it -/
theorem orP (first x b : Nat) (hf : first ≤ 255) (hd : first % 2 ^ b = 0) (hx : x < 2 ^ b) (hb : b ≤ 8) : bits .or .i64 (first : Int) (x : Int) = ((first + x : Nat) : Int) := by
  have h1 : 2 ^ b ≤ 2 ^ 8 := Nat.pow_le_pow_right (by omega) hb
  rw [or_pow b (first : Int) (x : Int) (by omega) (by rw [show ((2 : Int) ^ b) = ((2 ^ b : Nat) : Int) by simp, ← Int.natCast_emod, hd]; rfl) (by omega) (by omega) (by rw [show ((2 : Int) ^ b) = ((2 ^ b : Nat) : Int) by simp]; omega) (by omega)]
  omega
theorem first_hi (first b : Nat) (hf : first ≤ 255) (h0 : 3 ≤ b) (h1 : b ≤ 8) (hd : first % 2 ^ b = 0) (x : Nat) (hx : x ≤ mI b) : first + x ≤ 255 := by
  rw [mI_pos] at hd
  rcases mI_cases b h0 h1 with ⟨_, h⟩ | ⟨_, h⟩ | ⟨_, h⟩ | ⟨_, h⟩ | ⟨_, h⟩ | ⟨_, h⟩ <;> rw [h] at hd hx <;> omega
set_option maxHeartbeats 2000000 in
theorem implAP (v : Value) (xs : List UInt8) (n b first : Nat) (w : World) (base : Nat) (hB : Bw base w v xs) (hbase : base ≤ w.heap.size) (hl : xs.length ≤ 1048576) (hn : n ≤ 1000000000) (h0 : 3 ≤ b) (h1 : b ≤ 8) (hf : first ≤ 255) (hd : first % 2 ^ b = 0) :
    Calls Tryd.prog 38 #[v, .int .i64 n, .int .i64 b, .int .i64 first] w fun e w' => ∃ v', e = .returned v' ∧ Bq base w' v' (xs ++ pfL n b first) ∧ Below base w w' ∧ Gq w w' v v' := by
  have HM := hide (implMI b h0 h1)
  have hp := mI_pos b
  have hh := first_hi first b hf h0 h1 hd
  have ho := orP first
  unfold pfL
  obtain ⟨m, hm⟩ : ∃ m, mI b = m := ⟨_, rfl⟩
  rw [hm] at HM hp hh ⊢
  by_cases hlt : n < m
  · rw [if_pos hlt]
    have a1 := hh n (by omega)
    have a2 := ho n b hf hd (by omega) h1
    obtain ⟨v', w', r1, r2, r3, r4⟩ := hB.push (UInt8.ofNat (first + n)) ((first + n : Nat) : Int) (by simp; omega) (by omega) hbase
    have RUN := hide r1
    have Z := hide (And.intro r2 (And.intro r3 r4))
    have hlt2 : (n : Int) < (m : Int) := by omega
    obtain ⟨z, hz⟩ : ∃ z, first + n = z := ⟨_, rfl⟩
    rw [hz] at a1 a2 RUN Z ⊢
    have hw : IntKind.u8.wrap (z : Int) = (z : Int) := by rw [IntKind.wrap_u8]; omega
    clear r1 r2 r3 r4 hh ho hd hp hf hB
    go_enter Tryd.func38, Tryd.ntmps38
    go_wp2_with fail
    refine (unhide HM _).mono ?_
    rintro e w1 ⟨rfl, h9⟩
    rw [h9]
    clear h9 w1
    go_wp2_with (at_builtin; refine wpl_app rfl _ _ 28 rfl _ _ _ _ rfl rfl (unhide RUN) ?_)
    go_ret
    exact ⟨_, rfl, unhide Z⟩
  · rw [if_neg hlt]
    have a1 := hh m (Nat.le_refl _)
    have a2 := ho m b hf hd (by omega) h1
    obtain ⟨v', w', r1, r2, r3, r4⟩ := hB.push (UInt8.ofNat (first + m)) ((first + m : Nat) : Int) (by simp; omega) (by omega) hbase
    have RUN := hide r1
    have Z := hide (And.intro r2 (And.intro r3 r4))
    have hlt2 : ¬ (n : Int) < (m : Int) := by omega
    obtain ⟨z, hz⟩ : ∃ z, first + m = z := ⟨_, rfl⟩
    rw [hz] at a1 a2 RUN Z ⊢
    have hw : IntKind.u8.wrap (z : Int) = (z : Int) := by rw [IntKind.wrap_u8]; omega
    obtain ⟨k0, hk0⟩ : ∃ k0, n - m = k0 := ⟨_, rfl⟩
    have hsub : IntKind.i64.wrap ((n : Int) - (m : Int)) = (k0 : Int) := by rw [IntKind.wrap_i64]; omega
    rw [hk0]
    have hk1 : k0 < 128 ^ (4 + 1) := by omega
    obtain ⟨whole, hwh⟩ : ∃ whole, xs ++ UInt8.ofNat z :: tlF 4 k0 = whole := ⟨_, rfl⟩
    have Hlen : Hid (whole.length ≤ 1048600) := by
      have := (tlF_len 4 k0).2
      rw [← hwh]
      simp only [List.length_append, List.length_cons]
      show _ ≤ 1048600
      omega
    have hwz : (xs ++ [UInt8.ofNat z]) ++ tlF 4 k0 = whole := by rw [← hwh]; simp
    rw [hwh]
    have WZ := hide hwz
    have HK := hide hk1
    have HK2 := hide (show k0 ≤ 1000000000 by omega)
    have HS := hide (Nat.le_trans hbase (unhide Z).2.1.size)
    clear r1 r2 r3 r4 hh ho hd hp hf hB hwh hwz hk1 hn
    go_enter Tryd.func38, Tryd.ntmps38
    go_wp2_with fail
    refine (unhide HM _).mono ?_
    rintro e w1 ⟨rfl, h9⟩
    rw [h9]
    clear h9 w1
    go_wp2_with (at_builtin; refine wpl_app rfl _ _ 28 rfl _ _ _ _ rfl rfl (unhide RUN) ?_)
    go_loopw [0, 1] (fun x y wr => ∃ (f k : Nat) (ys : List UInt8), y = .int .i64 (k : Int) ∧ Bq base wr x ys ∧ ys ++ tlF f k = whole ∧ k < 128 ^ (f + 1) ∧ k ≤ 1000000000 ∧ Below base w wr ∧ base ≤ wr.heap.size ∧ Gq w wr v x) (fun _ y _ => (intOf y).toNat)
    case atStart => exact ⟨4, k0, _, rfl, (unhide Z).1, unhide WZ, unhide HK, unhide HK2, (unhide Z).2.1, unhide HS, (unhide Z).2.2⟩
    case round =>
      obtain ⟨f, k, ys, rfl, hQ, hcat, hkf, hkm, hbel, hbs, hgr⟩ := hrel
      have hyl : ys.length ≤ 1048600 := by
        have := congrArg List.length hcat
        have h9 := unhide Hlen
        rw [List.length_append] at this
        omega
      by_cases hk : k ≤ 127
      · rw [tlF_one f k hk] at hcat
        obtain ⟨v2, w2, q1, q2, q3, q4⟩ := hQ.push (UInt8.ofNat k) (k : Int) (by simp; omega) (by omega) hbs
        have RUN2 := hide q1
        rw [hcat] at q2
        have Z2 := hide (And.intro q2 (And.intro (hbel.trans q3) (hgr.trans q4)))
        have hw2 : IntKind.u8.wrap (k : Int) = (k : Int) := by rw [IntKind.wrap_u8]; omega
        have hg : ¬ (127 : Int) < (k : Int) := by omega
        clear q1 q2 q3 q4 hgr hcat hQ hbel hkf hyl hbs
        go_wp2_with (at_builtin; refine wpl_app rfl _ _ 28 rfl _ _ _ _ rfl rfl (unhide RUN2) ?_)
        go_ret
        exact ⟨_, rfl, unhide Z2⟩
      · cases f with
        | zero => exact absurd (show k < 128 by simpa using hkf) (by omega)
        | succ f =>
          rw [tlF_more f k hk] at hcat
          have hbig : k < 9223372036854775808 := by omega
          have e1 := low7 k hbig
          have e2 := or7 k
          have hc : k % 128 + 128 < 256 := by omega
          obtain ⟨c, hcq⟩ : ∃ c, k % 128 + 128 = c := ⟨_, rfl⟩
          have hq : k / 128 < 128 ^ (f + 1) := by
            rw [Nat.pow_succ] at hkf
            exact Nat.div_lt_of_lt_mul (by rw [Nat.mul_comm]; exact hkf)
          obtain ⟨v2, w2, q1, q2, q3, q4⟩ := hQ.push (UInt8.ofNat c) (c : Int) (by simp; omega) (by omega) hbs
          rw [hcq] at e2 hc hcat
          obtain ⟨j, hj⟩ : ∃ j, k % 128 = j := ⟨_, rfl⟩
          rw [hj] at e1 e2
          have RUN2 := hide q1
          have hcat2 : (ys ++ [UInt8.ofNat c]) ++ tlF f (k / 128) = whole := by rw [← hcat]; simp
          have Z2 := hide (show ∃ (f' k' : Nat) (ys' : List UInt8), ((k : Int) / 128 : Int) = (k' : Int) ∧ Bq base w2 v2 ys' ∧ ys' ++ tlF f' k' = whole ∧ k' < 128 ^ (f' + 1) ∧ k' ≤ 1000000000 ∧ Below base w w2 ∧ base ≤ w2.heap.size ∧ Gq w w2 v v2 from ⟨f, k / 128, _, by simp, q2, hcat2, hq, by omega, hbel.trans q3, Nat.le_trans hbs q3.size, hgr.trans q4⟩)
          have hw2 : IntKind.u8.wrap (c : Int) = (c : Int) := by rw [IntKind.wrap_u8]; omega
          have hg : (127 : Int) < (k : Int) := by omega
          have hdec : Hid (((k : Int) / 128).toNat < k) := (by omega : ((k : Int) / 128).toNat < k)
          clear q1 q2 q3 q4 hgr hcat hcat2 hQ hbel hkf hyl hbs hq
          go_wp2_with (at_builtin; refine wpl_app rfl _ _ 28 rfl _ _ _ _ rfl rfl (unhide RUN2) ?_)
          obtain ⟨f', k', ys', e, r⟩ := unhide Z2
          exact ⟨⟨f', k', ys', by rw [e], r⟩, by simpa [intOf] using unhide hdec⟩
/-- which arguments PrefixBytes takes, and its answer -/
def pfG (n b f : Int) : Bool := (decide (0 ≤ n) && decide (n ≤ 1000000000)) && ((decide (3 ≤ b) && decide (b ≤ 8)) && ((decide (0 ≤ f) && decide (f ≤ 255)) && decide (f.toNat % 2 ^ b.toNat = 0)))
def pfR (n b f : Int) : ByteArray := if pfG n b f = true then pfT n.toNat b.toNat f.toNat else ⟨#[]⟩
theorem pfR_no {n b f : Int} (h : pfG n b f = false) : pfR n b f = ⟨#[]⟩ := if_neg (by rw [h]; decide)
theorem pand (f b : Nat) (hf : f ≤ 255) (hb : b ≤ 62) : bits .and .i64 (f : Int) (mI b : Nat) = ((f % 2 ^ b : Nat) : Int) := by
  have e1 : (BitVec.ofInt 64 (f : Int)).toNat = f := by rw [BitVec.toNat_ofInt]; omega
  have hle : f % 2 ^ b ≤ f := Nat.mod_le _ _
  show IntKind.i64.wrap ((BitVec.ofInt 64 (f : Int) &&& BitVec.ofInt 64 ((mI b : Nat) : Int)).toNat : Int) = _
  have h1 : 2 ^ b ≤ 2 ^ 62 := Nat.pow_le_pow_right (by omega) hb
  have e2 : (BitVec.ofInt 64 ((mI b : Nat) : Int)).toNat = 2 ^ b - 1 := by
    rw [BitVec.toNat_ofInt]
    unfold mI
    omega
  rw [BitVec.toNat_and, e1, e2, Nat.and_two_pow_sub_one_eq_mod]
  exact wraps_i64 _ (by omega) (by omega)
end Go.Proofs.YtidgjjbdabifnabDoor.Rc
