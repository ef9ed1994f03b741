/-
  Contracts: numbers with what stands above them, of the model.
-/
import Derived.Test.YtidgjjbdabifnabDoorFpa
import Derived.Deep.DeepCutAuto
namespace Go.Proofs.YtidgjjbdabifnabDoor.Rc
open Go.ChangeShapes Go.WideShapes Go.ChangeAt Go.RowKit Go.Deep
set_option linter.unusedVariables false
set_option maxRecDepth 100000

theorem fx1 (v : Nat) (h : v ≤ 255) : fx (v : Int) 1 1 = [UInt8.ofNat v] := by
  have e : fx (v : Int) 1 1 = [bt (v : Int) 0] := rfl
  have e2 : bt (v : Int) 0 = UInt8.ofNat v := by
    unfold bt
    congr 1
    simp
    omega
  rw [e, e2]
theorem cat_l (a b : List UInt8) : (⟨a.toArray⟩ : ByteArray) ++ (⟨b.toArray⟩ : ByteArray) = ⟨(a ++ b).toArray⟩ := by
  apply ByteArray.ext
  rw [ByteArray.data_append]
  simp
/-- one byte as a text -/
theorem fixP (v : Nat) (h : v ≤ 255) (w : World) : Calls Tryd.prog 53 #[.int .i64 v, .int .i64 1] w fun e w' => e = .returned (.string ⟨[UInt8.ofNat v].toArray⟩) ∧ Below w.heap.size w w' := by
  have := l1Fixed_any (v : Int) 1 w (by omega) (by omega)
  rw [fx1 v h] at this
  exact this
set_option maxHeartbeats 4000000 in
theorem specPf (n b first : Nat) (w : World) (hn : n ≤ 1000000000) (h0 : 3 ≤ b) (h1 : b ≤ 8) (hf : first ≤ 255) (hd : first % 2 ^ b = 0) :
    Calls Tryd.prog 43 #[.int .i64 n, .int .i64 b, .int .i64 first] w fun e w' => e = .returned (.string (pfT n b first)) ∧ Below w.heap.size w w' := by
  have hp := mI_pos b
  have hh := first_hi first b hf h0 h1 hd
  have ho := fun x hx => orP first x b hf hd hx h1
  unfold pfT pfL
  have hmm := mI_cases b h0 h1
  obtain ⟨m, hm⟩ : ∃ m, mI b = m := ⟨_, rfl⟩
  rw [hm] at hp hh hmm ⊢
  by_cases hlt : n < m
  · rw [if_pos hlt]
    have a1 := hh n (by omega)
    have a2 := ho n (by omega)
    have hlt2 : (n : Int) < (m : Int) := by omega
    have HF := hide (fun w => fixP (first + n) a1 w)
    generalize first + n = z at *
    clear ho hh hp hm hd
    go_enter Tryd.func43, Tryd.ntmps43
    go_upto_region 1 with fail
    go_cut [7] (fun x wx => x = .int .i64 (m : Int) ∧ wx = w)
    case first =>
      rcases hmm with ⟨rfl, rfl⟩ | ⟨rfl, rfl⟩ | ⟨rfl, rfl⟩ | ⟨rfl, rfl⟩ | ⟨rfl, rfl⟩ | ⟨rfl, rfl⟩
      all_goals
        go_wp2
        go_meet
        exact ⟨rfl, rfl⟩
    obtain ⟨rfl, hw⟩ := hcut
    rw [hw]
    clear hw hmm
    go_wp2_with fail
    refine (unhide HF _).mono ?_
    rintro e w1 ⟨rfl, b1⟩
    go_wp2
    go_ret
    exact ⟨rfl, b1⟩
  · rw [if_neg hlt]
    have a1 := hh m (Nat.le_refl _)
    have a2 := ho m (by omega)
    have hlt2 : ¬ (n : Int) < (m : Int) := by omega
    have HF := hide (fun w => fixP (first + m) a1 w)
    have HX := hide (fun (v : Nat) (h : v ≤ 255) w => fixP v h w)
    generalize first + m = z at *
    obtain ⟨k0, hk0⟩ : ∃ k0, n - m = k0 := ⟨_, rfl⟩
    have hsub : IntKind.i64.wrap ((n : Int) - (m : Int)) = (k0 : Int) := by rw [IntKind.wrap_i64]; omega
    rw [hk0]
    have hk1 : k0 < 128 ^ (4 + 1) := by omega
    obtain ⟨whole, hwh⟩ : ∃ whole, UInt8.ofNat z :: tlF 4 k0 = whole := ⟨_, rfl⟩
    have hwz : [UInt8.ofNat z] ++ tlF 4 k0 = whole := by rw [← hwh]; rfl
    have HW := hide (show whole.length ≤ 10 by
      have := (tlF_len 4 k0).2
      rw [← hwh]
      simp only [List.length_cons]
      omega)
    rw [hwh]
    have WZ := hide hwz
    have HK := hide hk1
    have HK2 := hide (show k0 ≤ 1000000000 by omega)
    clear ho hh hp hm hd hwh hwz hk1 hn hk0
    go_enter Tryd.func43, Tryd.ntmps43
    go_upto_region 1 with fail
    go_cut [7] (fun x wx => x = .int .i64 (m : Int) ∧ wx = w)
    case first =>
      rcases hmm with ⟨rfl, rfl⟩ | ⟨rfl, rfl⟩ | ⟨rfl, rfl⟩ | ⟨rfl, rfl⟩ | ⟨rfl, rfl⟩ | ⟨rfl, rfl⟩
      all_goals
        go_wp2
        go_meet
        exact ⟨rfl, rfl⟩
    obtain ⟨rfl, hw⟩ := hcut
    rw [hw]
    clear hw hmm
    go_wp2_with fail
    refine (unhide HF _).mono ?_
    rintro e w1 ⟨rfl, b1⟩
    go_wp2_with fail
    go_loopw [8, 0] (fun x y wr => ∃ (f k : Nat) (ys : List UInt8), y = .int .i64 (k : Int) ∧ x = .string ⟨ys.toArray⟩ ∧ ys ++ tlF f k = whole ∧ k < 128 ^ (f + 1) ∧ k ≤ 1000000000 ∧ Below w.heap.size w wr) (fun _ y _ => (intOf y).toNat)
    case atStart => exact ⟨4, k0, _, rfl, rfl, unhide WZ, unhide HK, unhide HK2, b1⟩
    case round =>
      obtain ⟨f, k, ys, rfl, rfl, hcat, hkf, hkm, hbel⟩ := hrel
      have hyl : ¬ 9223372036854775807 < ys.length + 1 := by
        have h8 := congrArg List.length hcat
        have h9 := unhide HW
        rw [List.length_append] at h8
        omega
      by_cases hk : k ≤ 127
      · rw [tlF_one f k hk] at hcat
        have HF2 := hide (fun w => fixP k (by omega) w)
        have hg : ¬ (127 : Int) < (k : Int) := by omega
        have hc2 := cat_l ys [UInt8.ofNat k]
        rw [hcat] at hc2
        have HB := hide hbel
        clear hcat hkf hbel
        go_wp2_with fail
        refine (unhide HF2 _).mono ?_
        rintro e w2 ⟨rfl, b2⟩
        go_wp2
        go_ret
        exact ⟨by rw [← hc2]; rfl, (unhide HB).trans (b2.mono (unhide HB).size)⟩
      · cases f with
        | zero => exact absurd (show k < 128 by simpa using hkf) (by omega)
        | succ f =>
          rw [tlF_more f k hk] at hcat
          have e1 := low7 k (by omega)
          have e2 := or7 k
          have hc : k % 128 + 128 ≤ 255 := by omega
          obtain ⟨c, hcq⟩ : ∃ c, k % 128 + 128 = c := ⟨_, rfl⟩
          have hq : k / 128 < 128 ^ (f + 1) := by
            rw [Nat.pow_succ] at hkf
            exact Nat.div_lt_of_lt_mul (by rw [Nat.mul_comm]; exact hkf)
          rw [hcq] at e2 hc hcat
          obtain ⟨j, hj⟩ : ∃ j, k % 128 = j := ⟨_, rfl⟩
          rw [hj] at e1 e2
          have HF2 := hide (fun w => fixP c hc w)
          have hcat2 : (ys ++ [UInt8.ofNat c]) ++ tlF f (k / 128) = whole := by rw [← hcat]; simp
          have hc2 := cat_l ys [UInt8.ofNat c]
          have Z2 := hide (fun wx (hb : Below w.heap.size w wx) => show ∃ (f' k' : Nat) (ys' : List UInt8), (Value.int .i64 ((k : Int) / 128)) = .int .i64 (k' : Int) ∧ (Value.string ⟨(ys ++ [UInt8.ofNat c]).toArray⟩) = .string ⟨ys'.toArray⟩ ∧ ys' ++ tlF f' k' = whole ∧ k' < 128 ^ (f' + 1) ∧ k' ≤ 1000000000 ∧ Below w.heap.size w wx from ⟨f, k / 128, _, by simp, rfl, hcat2, hq, by omega, hb⟩)
          have hg : (127 : Int) < (k : Int) := by omega
          have hdec : Hid (((k : Int) / 128).toNat < k) := (by omega : ((k : Int) / 128).toNat < k)
          have HB := hide hbel
          clear hcat hcat2 hbel hkf hq
          go_wp2_with fail
          refine (unhide HF2 _).mono ?_
          rintro e w2 ⟨rfl, b2⟩
          have HB2 := hide ((unhide HB).trans (b2.mono (unhide HB).size))
          clear b2
          go_wp2
          exact ⟨unhide Z2 _ (unhide HB2), by simpa [intOf] using unhide hdec⟩
end Go.Proofs.YtidgjjbdabifnabDoor.Rc
