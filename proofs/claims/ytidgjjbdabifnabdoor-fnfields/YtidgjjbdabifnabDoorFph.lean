/-
  Contracts: values, and which fields are good, of both sides.
-/
import Derived.Test.YtidgjjbdabifnabDoorFpg
namespace Go.Proofs.YtidgjjbdabifnabDoor.Rc
open Go.ChangeShapes Go.WideShapes Go.ChangeAt Go.RowKit Go.Deep
set_option linter.unusedVariables false
set_option maxRecDepth 100000

set_option maxHeartbeats 2000000 in
theorem implVl (s : ByteArray) (w : World) (hs : s.size ≤ 1048576) : Calls Tryd.prog 37 #[.string s] w fun e w' => e = .returned (.bool (gdV s)) ∧ Below w.heap.size w w' := by
  have H1 := hide (fun c W h => within_one s 100 (by omega) hs W w.heap.size c h)
  have hA0 := (Below.refl w.heap.size w).alloc (Nat.le_refl _) (.cells #[.string s] 9)
  obtain ⟨V, hV⟩ : ∃ V, V = w.alloc (.cells #[.string s] 9) := ⟨_, rfl⟩
  rw [← hV] at hA0
  have hc : V.cell? ⟨w.heap.size, 0, none⟩ = some (.string s) := by rw [hV]; simp
  replace H1 := hide (fun c => unhide H1 c V hc)
  have HV := hide hV
  have B0 := hide hA0
  clear hV hA0 hc
  unfold gdV
  cases hB : decide (s.size ≤ 100) with
  | false =>
    rw [hB] at H1
    clear hB
    go_enter Tryd.func37, Tryd.ntmps37
    go_wp2_with fail
    rw [← unhide HV]
    refine (unhide H1 _).mono ?_
    rintro e w1 ⟨rfl, h9⟩
    rw [h9]
    clear h9 w1
    go_wp2
    go_ret
    exact ⟨rfl, unhide B0⟩
  | true =>
    rw [hB] at H1
    clear hB
    rw [Bool.true_and]
    go_enter Tryd.func37, Tryd.ntmps37
    go_wp2_with fail
    rw [← unhide HV]
    refine (unhide H1 _).mono ?_
    rintro e w1 ⟨rfl, h9⟩
    rw [h9]
    clear h9 w1
    go_wp2_with fail
    go_loopw [10] (fun i wr => ∃ k : Nat, k ≤ s.size ∧ i = .int .i64 k ∧ Hid (allB (vlB s) k = true) ∧ wr = V) (fun i _ => s.size - (intOf i).toNat)
    case atStart => exact ⟨0, Nat.zero_le _, rfl, rfl, rfl⟩
    case round =>
      obtain ⟨k, hk, rfl, hA, rfl⟩ := hrel
      by_cases hlt : k < s.size
      · have hsk := by0_at s k hlt
        have hub := by0_lt s k
        have hN : vlB s k = (decide (32 ≤ by0 s k) && decide (by0 s k ≤ 126)) := rfl
        have HNO := hide (fun h => allB_no (p := vlB s) hlt h)
        have HYE := hide (allB_succ (vlB s) k)
        generalize by0 s k = u at *
        by_cases c1 : 32 ≤ u
        · by_cases c2 : u ≤ 126
          · have hA2 : Hid (allB (vlB s) (k + 1) = true) := by rw [unhide HYE, unhide hA, hN, decide_eq_true c1, decide_eq_true c2]; rfl
            have d1 : ¬ (u : Int) < 32 := by omega
            have d2 : ¬ (126 : Int) < (u : Int) := by omega
            clear hN c1 c2
            go_wp2
            exact ⟨⟨k + 1, by omega, by go_num, hA2, by trivial⟩, by simp [intOf]; omega⟩
          · have hE := hide (unhide HNO (by rw [hN, decide_eq_false c2, Bool.and_false]))
            have d1 : ¬ (u : Int) < 32 := by omega
            have d2 : (126 : Int) < (u : Int) := by omega
            clear hN c1 c2
            go_wp2
            go_ret
            exact ⟨by rw [unhide hE]; rfl, unhide B0⟩
        · have hE := hide (unhide HNO (by rw [hN, decide_eq_false c1, Bool.false_and]))
          have d1 : (u : Int) < 32 := by omega
          clear hN c1
          go_wp2
          go_ret
          exact ⟨by rw [unhide hE]; rfl, unhide B0⟩
      · obtain rfl : k = s.size := by omega
        go_wp2
        go_ret
        exact ⟨by rw [unhide hA]; rfl, unhide B0⟩
set_option maxHeartbeats 2000000 in
theorem specVl (s : ByteArray) (w : World) (hs : s.size ≤ maxLen) : Calls Tryd.prog 41 #[.string s] w fun e w' => e = .returned (.bool (gdV s)) ∧ w' = w := by
  unfold maxLen at hs
  unfold gdV
  have hD : decide (s.size ≤ 100) = decide ((s.size : Int) ≤ 100) := decide_eq_decide.2 (by omega)
  rw [hD]
  clear hD
  go_enter Tryd.func41, Tryd.ntmps41
  go_wp2_with fail
  go_loopw [3] (fun i wr => ∃ k : Nat, k ≤ s.size ∧ i = .int .i64 k ∧ Hid (allB (vlB s) k = true) ∧ wr = w) (fun i _ => s.size - (intOf i).toNat)
  case atStart => exact ⟨0, Nat.zero_le _, rfl, rfl, rfl⟩
  case round =>
    obtain ⟨k, hk, rfl, hA, rfl⟩ := hrel
    by_cases hlt : k < s.size
    · have hsk := by0_at s k hlt
      have hub := by0_lt s k
      have hN : vlB s k = (decide (32 ≤ by0 s k) && decide (by0 s k ≤ 126)) := rfl
      have HNO := hide (fun h => allB_no (p := vlB s) hlt h)
      have HYE := hide (allB_succ (vlB s) k)
      generalize by0 s k = u at *
      by_cases c1 : 32 ≤ u
      · by_cases c2 : u ≤ 126
        · have hA2 : Hid (allB (vlB s) (k + 1) = true) := by rw [unhide HYE, unhide hA, hN, decide_eq_true c1, decide_eq_true c2]; rfl
          have d1 : ¬ (u : Int) < 32 := by omega
          have d2 : ¬ (126 : Int) < (u : Int) := by omega
          clear hN c1 c2
          go_wp2
          exact ⟨⟨k + 1, by omega, by go_num, hA2, by trivial⟩, by simp [intOf]; omega⟩
        · have hE := hide (unhide HNO (by rw [hN, decide_eq_false c2, Bool.and_false]))
          have d1 : ¬ (u : Int) < 32 := by omega
          have d2 : (126 : Int) < (u : Int) := by omega
          clear hN c1 c2
          go_wp2
          go_ret
          exact ⟨by rw [unhide hE, Bool.and_false]; rfl, rfl⟩
      · have hE := hide (unhide HNO (by rw [hN, decide_eq_false c1, Bool.false_and]))
        have d1 : (u : Int) < 32 := by omega
        clear hN c1
        go_wp2
        go_ret
        exact ⟨by rw [unhide hE, Bool.and_false]; rfl, rfl⟩
    · obtain rfl : k = s.size := by omega
      go_wp2
      go_ret
      exact ⟨by rw [unhide hA, Bool.and_true]; rfl, rfl⟩
theorem gdF_no {L : List FieldD} {k : Nat} (hk : k < L.length) (h : gdD (gt fieldK L k) = false) : gdF L = false := by
  unfold gdF
  have : L.all gdD = false := List.all_eq_false.2 ⟨_, gt_mem fieldK L k hk, by rw [h]; decide⟩
  rw [this, Bool.and_false]
theorem gdF_take {L : List FieldD} {k : Nat} (hk : k < L.length) (h : (L.take k).all gdD = true) (h2 : gdD (gt fieldK L k) = true) : (L.take (k + 1)).all gdD = true := by
  have e : L.take (k + 1) = L.take k ++ [gt fieldK L k] := by rw [gt_of fieldK L k hk]; exact (List.take_append_getElem hk).symm
  rw [e, List.all_append, h]
  simp [h2]
set_option maxHeartbeats 4000000 in
theorem implGF (L : List FieldD) (a : Option Addr) (c : Nat) (w : World) (hm : L.length ≤ 1048576) (ho : ∀ i, i < L.length → (gt fieldK L i).f0.size ≤ 1048576 ∧ (gt fieldK L i).f1.size ≤ 1048576) (h : Rd fieldK w a L) :
    Calls Tryd.prog 22 #[.slice a L.length c] w fun e w' => e = .returned (.bool (gdF L)) ∧ Below w.heap.size w w' := by
  have HR := hide h
  have HO := hide ho
  clear h ho
  by_cases hl : L.length ≤ 30
  · have d0 : ¬ (30 : Int) < (L.length : Int) := by omega
    have HL := hide hl
    have HA0 := hide (show gdF L = L.all gdD by unfold gdF; rw [decide_eq_true hl, Bool.true_and])
    clear hl
    go_enter Tryd.func22, Tryd.ntmps22
    go_wp2_with fail
    go_loopw [10] (fun i wr => ∃ k : Nat, k ≤ L.length ∧ i = .int .i64 k ∧ Hid ((L.take k).all gdD = true) ∧ Below w.heap.size w wr) (fun i _ => L.length - (intOf i).toNat)
    case atStart => exact ⟨0, Nat.zero_le _, rfl, rfl, Below.refl _ _⟩
    case round =>
      obtain ⟨k, hk, rfl, hA, hbel⟩ := hrel
      by_cases hlt : k < L.length
      · rcases (unhide HR).below hbel with h0 | ⟨b, o, rfl, _, hel⟩
        · rw [h0] at hlt; exact absurd hlt (Nat.not_lt_zero _)
        have x0 := field_r0 hel hlt
        have x1 := field_r1 hel hlt
        clear hel
        have HNO := hide (fun q => gdF_no hlt q)
        have HYE := hide (fun q => gdF_take hlt (unhide hA) q)
        obtain ⟨z0, z1⟩ := unhide HO k hlt
        have HD : Hid (gdD (gt fieldK L k) = (gdN (gt fieldK L k).f0 && gdV (gt fieldK L k).f1)) := rfl
        have HN := hide (fun W => implNm (gt fieldK L k).f0 W (by unfold maxLen; omega))
        have HV := hide (fun W => implVl (gt fieldK L k).f1 W z1)
        generalize gt fieldK L k = D at *
        obtain ⟨nm, vl⟩ := D
        dsimp only at x0 x1 z0 z1 HD HN HV
        have HB := hide hbel
        clear hbel z0 z1 hA
        obtain ⟨V, hV⟩ : ∃ V, V = wr.alloc (.cells #[.string nm, .string vl] 33) := ⟨_, rfl⟩
        have hBV : Below w.heap.size w V := by rw [hV]; exact (unhide HB).alloc (unhide HB).size _
        have hbx : Bx V wr.heap.size [.string nm, .string vl] := by rw [hV]; exact Bx.new wr _ _
        have y0 := hbx.cv
        have yl := hbx.lt
        have HBV := hide hBV
        have HVV := hide hV
        clear hV hBV hbx
        go_upto_region 6 with fail
        rw [← unhide HVV]
        clear HVV
        cases hn : gdN nm with
        | false =>
          rw [hn] at HN HD
          have HE := hide (unhide HNO (by rw [unhide HD]; rfl))
          clear hn
          go_wp2_with fail
          refine (unhide HN _).mono ?_
          rintro e w1 ⟨rfl, h9⟩
          rw [h9]
          clear h9 w1
          go_wp2
          go_ret
          exact ⟨by rw [unhide HE]; rfl, unhide HBV⟩
        | true =>
          rw [hn] at HN HD
          clear hn
          cases hv : gdV vl with
          | false =>
            rw [hv] at HV HD
            have HE := hide (unhide HNO (by rw [unhide HD]; rfl))
            clear hv
            go_wp2_with fail
            refine (unhide HN _).mono ?_
            rintro e w1 ⟨rfl, h9⟩
            rw [h9]
            clear h9 w1
            go_wp2_with fail
            refine (unhide HV _).mono ?_
            rintro e w1 ⟨rfl, b1⟩
            have B1 := hide ((unhide HBV).trans (b1.mono (unhide HBV).size))
            clear b1
            go_wp2
            go_ret
            exact ⟨by rw [unhide HE]; rfl, unhide B1⟩
          | true =>
            rw [hv] at HV HD
            have HE := hide (unhide HYE (by rw [unhide HD]; rfl))
            clear hv
            go_wp2_with fail
            refine (unhide HN _).mono ?_
            rintro e w1 ⟨rfl, h9⟩
            rw [h9]
            clear h9 w1
            go_wp2_with fail
            refine (unhide HV _).mono ?_
            rintro e w1 ⟨rfl, b1⟩
            have B1 := hide ((unhide HBV).trans (b1.mono (unhide HBV).size))
            clear b1
            go_wp2
            exact ⟨⟨k + 1, by omega, by go_num, HE, unhide B1⟩, by simp [intOf]; omega⟩
      · obtain rfl : k = L.length := by omega
        rw [List.take_length] at hA
        go_wp2
        go_ret
        exact ⟨by rw [unhide HA0, unhide hA]; rfl, hbel⟩
  · have d0 : (30 : Int) < (L.length : Int) := by omega
    have HA0 := hide (show gdF L = false by unfold gdF; rw [decide_eq_false hl, Bool.false_and])
    clear hl
    go_enter Tryd.func22, Tryd.ntmps22
    go_wp2
    go_ret
    exact ⟨by rw [unhide HA0]; rfl, Below.refl _ _⟩
set_option maxHeartbeats 4000000 in
theorem specGF (L : List FieldD) (a : Option Addr) (c : Nat) (w : World) (hm : L.length ≤ 1048576) (ho : ∀ i, i < L.length → (gt fieldK L i).f0.size ≤ 1048576 ∧ (gt fieldK L i).f1.size ≤ 1048576) (h : Rd fieldK w a L) :
    Calls Tryd.prog 24 #[.slice a L.length c] w fun e w' => e = .returned (.bool (gdF L)) ∧ Below w.heap.size w w' := by
  have HR := hide h
  have HO := hide ho
  clear h ho
  have hD : decide (L.length ≤ 30) = decide ((L.length : Int) ≤ 30) := decide_eq_decide.2 (by omega)
  have HA0 := hide (show gdF L = (decide ((L.length : Int) ≤ 30) && L.all gdD) by unfold gdF; rw [hD])
  clear hD
  go_enter Tryd.func24, Tryd.ntmps24
  go_wp2_with fail
  go_loopw [7] (fun i wr => ∃ k : Nat, k ≤ L.length ∧ i = .int .i64 k ∧ Hid ((L.take k).all gdD = true) ∧ Below w.heap.size w wr) (fun i _ => L.length - (intOf i).toNat)
  case atStart => exact ⟨0, Nat.zero_le _, rfl, rfl, Below.refl _ _⟩
  case round =>
    obtain ⟨k, hk, rfl, hA, hbel⟩ := hrel
    by_cases hlt : k < L.length
    · rcases (unhide HR).below hbel with h0 | ⟨b, o, rfl, _, hel⟩
      · rw [h0] at hlt; exact absurd hlt (Nat.not_lt_zero _)
      have x0 := field_r0 hel hlt
      have x1 := field_r1 hel hlt
      clear hel
      have HNO := hide (fun q => gdF_no hlt q)
      have HYE := hide (fun q => gdF_take hlt (unhide hA) q)
      obtain ⟨z0, z1⟩ := unhide HO k hlt
      have HD : Hid (gdD (gt fieldK L k) = (gdN (gt fieldK L k).f0 && gdV (gt fieldK L k).f1)) := rfl
      have HN := hide (fun W => specNm (gt fieldK L k).f0 W (by unfold maxLen; omega))
      have HV := hide (fun W => specVl (gt fieldK L k).f1 W (by unfold maxLen; omega))
      generalize gt fieldK L k = D at *
      obtain ⟨nm, vl⟩ := D
      dsimp only at x0 x1 z0 z1 HD HN HV
      have HB := hide hbel
      clear hbel z0 z1 hA
      obtain ⟨V, hV⟩ : ∃ V, V = wr.alloc (.cells #[.string nm, .string vl] 33) := ⟨_, rfl⟩
      have hBV : Below w.heap.size w V := by rw [hV]; exact (unhide HB).alloc (unhide HB).size _
      have hbx : Bx V wr.heap.size [.string nm, .string vl] := by rw [hV]; exact Bx.new wr _ _
      have y0 := hbx.cv
      have yl := hbx.lt
      have HBV := hide hBV
      have HVV := hide hV
      clear hV hBV hbx
      go_upto_region 4 with fail
      rw [← unhide HVV]
      clear HVV
      cases hn : gdN nm with
      | false =>
        rw [hn] at HN HD
        have HE := hide (unhide HNO (by rw [unhide HD]; rfl))
        clear hn
        go_wp2_with fail
        refine (unhide HN _).mono ?_
        rintro e w1 ⟨rfl, h9⟩
        rw [h9]
        clear h9 w1
        go_wp2
        go_ret
        exact ⟨by rw [unhide HE]; rfl, unhide HBV⟩
      | true =>
        rw [hn] at HN HD
        clear hn
        cases hv : gdV vl with
        | false =>
          rw [hv] at HV HD
          have HE := hide (unhide HNO (by rw [unhide HD]; rfl))
          clear hv
          go_wp2_with fail
          refine (unhide HN _).mono ?_
          rintro e w1 ⟨rfl, h9⟩
          rw [h9]
          clear h9 w1
          go_wp2_with fail
          refine (unhide HV _).mono ?_
          rintro e w1 ⟨rfl, h9⟩
          rw [h9]
          clear h9 w1
          go_wp2
          go_ret
          exact ⟨by rw [unhide HE]; rfl, unhide HBV⟩
        | true =>
          rw [hv] at HV HD
          have HE := hide (unhide HYE (by rw [unhide HD]; rfl))
          clear hv
          go_wp2_with fail
          refine (unhide HN _).mono ?_
          rintro e w1 ⟨rfl, h9⟩
          rw [h9]
          clear h9 w1
          go_wp2_with fail
          refine (unhide HV _).mono ?_
          rintro e w1 ⟨rfl, h9⟩
          rw [h9]
          clear h9 w1
          go_wp2
          exact ⟨⟨k + 1, by omega, by go_num, HE, unhide HBV⟩, by simp [intOf]; omega⟩
    · obtain rfl : k = L.length := by omega
      rw [List.take_length] at hA
      go_wp2
      go_ret
      exact ⟨by rw [unhide HA0, unhide hA, Bool.and_true]; rfl, hbel⟩
end Go.Proofs.YtidgjjbdabifnabDoor.Rc
