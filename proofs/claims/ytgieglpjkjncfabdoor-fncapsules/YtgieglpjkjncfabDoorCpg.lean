/-
  Contracts: between, and which capsules are good, of both sides.
-/
import Derived.Test.YtgieglpjkjncfabDoorCp0
import Derived.Test.YtgieglpjkjncfabDoorWtn
namespace Go.Proofs.YtgieglpjkjncfabDoor.Rc
open Go.ChangeShapes Go.WideShapes Go.ChangeAt Go.RowKit Go.Deep
set_option linter.unusedVariables false
set_option maxRecDepth 100000

theorem bw16 (lo n hi : Int) (w : World) :
    Calls Tryd.prog 40 #[.int .i64 lo, .int .i64 n, .int .i64 hi] w fun e w' => e = .returned (.bool (decide (lo ≤ n) && decide (n ≤ hi))) ∧ w' = w := by
  by_cases h : lo ≤ n
  · have h1 : decide (lo ≤ n) = true := by simpa using h
    go_enter Tryd.func40, Tryd.ntmps40
    go_wp2
    go_ret
    exact ⟨by rw [h1]; rfl, rfl⟩
  · have h1 : decide (lo ≤ n) = false := by simpa using h
    go_enter Tryd.func40, Tryd.ntmps40
    go_wp2
    go_ret
    exact ⟨rfl, rfl⟩
theorem gdL_no {L : List CapsuleD} {k : Nat} (hk : k < L.length) (h : gdC (gt capsuleK L k) = false) : gdL L = false := by
  unfold gdL
  have : L.all gdC = false := List.all_eq_false.2 ⟨_, gt_mem capsuleK L k hk, by rw [h]; decide⟩
  rw [this, Bool.and_false]
theorem gdL_take {L : List CapsuleD} {k : Nat} (hk : k < L.length) (h : (L.take k).all gdC = true) (h2 : gdC (gt capsuleK L k) = true) : (L.take (k + 1)).all gdC = true := by
  have e : L.take (k + 1) = L.take k ++ [gt capsuleK L k] := by rw [gt_of capsuleK L k hk]; exact (List.take_append_getElem hk).symm
  rw [e, List.all_append, h]
  simp [h2]
set_option maxHeartbeats 4000000 in
theorem implGC (L : List CapsuleD) (a : Option Addr) (c : Nat) (w : World) (hm : L.length ≤ 1048576) (ho : ∀ i, i < L.length → (gt capsuleK L i).f1.size ≤ 1048576) (h : Rd capsuleK w a L) :
    Calls Tryd.prog 18 #[.slice a L.length c] w fun e w' => e = .returned (.bool (gdL L)) ∧ Below w.heap.size w w' := by
  have HR := hide h
  have HO := hide ho
  clear h ho
  by_cases hl : L.length ≤ 30
  · have d0 : ¬ (30 : Int) < (L.length : Int) := by omega
    have HL := hide hl
    have HA0 := hide (show gdL L = L.all gdC by unfold gdL; rw [decide_eq_true hl, Bool.true_and])
    clear hl
    go_enter Tryd.func18, Tryd.ntmps18
    go_wp2_with fail
    go_loopw [10] (fun i wr => ∃ k : Nat, k ≤ L.length ∧ i = .int .i64 k ∧ Hid ((L.take k).all gdC = true) ∧ Below w.heap.size w wr) (fun i _ => L.length - (intOf i).toNat)
    case atStart => exact ⟨0, Nat.zero_le _, rfl, rfl, Below.refl _ _⟩
    case round =>
      obtain ⟨k, hk, rfl, hA, hbel⟩ := hrel
      by_cases hlt : k < L.length
      · rcases (unhide HR).below hbel with h0 | ⟨b, o, rfl, _, hel⟩
        · rw [h0] at hlt; exact absurd hlt (Nat.not_lt_zero _)
        have x0 := capsule_r0 hel hlt
        have x1 := capsule_r1 hel hlt
        clear hel
        have HNO := hide (fun q => gdL_no hlt q)
        have HYE := hide (fun q => gdL_take hlt (unhide hA) q)
        have z1 := unhide HO k hlt
        generalize gt capsuleK L k = D at *
        obtain ⟨nm, vl⟩ := D
        dsimp only at x0 x1 z1
        have HD : Hid (gdC ⟨nm, vl⟩ = (k62 nm && decide (vl.size ≤ 200))) := rfl
        have HN : Hid (∀ W, Calls Tryd.prog 40 #[.int .i64 0, .int .i64 nm, .int .i64 4611686018427387903] W fun e w' => e = .returned (.bool (k62 nm)) ∧ w' = W) := bw16 0 nm 4611686018427387903
        have HV := hide (fun W g c hc => within_one vl 200 (by omega) z1 W g c hc)
        have HB := hide hbel
        clear hbel z1 hA
        obtain ⟨V, hV⟩ : ∃ V, V = wr.alloc (.cells #[.int .i64 nm, .string vl] 30) := ⟨_, rfl⟩
        have hBV : Below w.heap.size w V := by rw [hV]; exact (unhide HB).alloc (unhide HB).size _
        have hbx : Bx V wr.heap.size [.int .i64 nm, .string vl] := by rw [hV]; exact Bx.new wr _ _
        have y0 := hbx.cv
        have yl := hbx.lt
        have HBV := hide hBV
        have HVV := hide hV
        clear hV hBV hbx
        go_upto_region 6 with fail
        rw [← unhide HVV]
        clear HVV
        cases hn : k62 nm with
        | false =>
          rw [hn] at HN HD
          have HE := hide (unhide HNO (by rw [unhide HD]; rfl))
          clear hn
          go_wp2_with fail
          refine (unhide HN _).mono ?_
          rintro e w1 ⟨rfl, h9⟩
          rw [h9]
          clear h9 w1
          go_wp2
          go_ret
          exact ⟨by rw [unhide HE]; rfl, unhide HBV⟩
        | true =>
          rw [hn] at HN HD
          clear hn
          cases hv : decide (vl.size ≤ 200) with
          | false =>
            rw [hv] at HV HD
            have HE := hide (unhide HNO (by rw [unhide HD]; rfl))
            clear hv
            go_wp2_with fail
            refine (unhide HN _).mono ?_
            rintro e w1 ⟨rfl, h9⟩
            rw [h9]
            clear h9 w1
            go_wp2_with fail
            refine (unhide HV _ _ _ (by simp)).mono ?_
            rintro e w1 ⟨rfl, h9⟩
            rw [h9]
            clear h9 w1
            go_wp2
            go_ret
            exact ⟨by rw [unhide HE]; rfl, (unhide HBV).alloc (unhide HBV).size _⟩
          | true =>
            rw [hv] at HV HD
            have HE := hide (unhide HYE (by rw [unhide HD]; rfl))
            clear hv
            go_wp2_with fail
            refine (unhide HN _).mono ?_
            rintro e w1 ⟨rfl, h9⟩
            rw [h9]
            clear h9 w1
            go_wp2_with fail
            refine (unhide HV _ _ _ (by simp)).mono ?_
            rintro e w1 ⟨rfl, h9⟩
            rw [h9]
            clear h9 w1
            go_wp2
            exact ⟨⟨k + 1, by omega, by go_num, HE, (unhide HBV).alloc (unhide HBV).size _⟩, by simp [intOf]; omega⟩
      · obtain rfl : k = L.length := by omega
        rw [List.take_length] at hA
        go_wp2
        go_ret
        exact ⟨by rw [unhide HA0, unhide hA]; rfl, hbel⟩
  · have d0 : (30 : Int) < (L.length : Int) := by omega
    have HA0 := hide (show gdL L = false by unfold gdL; rw [decide_eq_false hl, Bool.false_and])
    clear hl
    go_enter Tryd.func18, Tryd.ntmps18
    go_wp2
    go_ret
    exact ⟨by rw [unhide HA0]; rfl, Below.refl _ _⟩
theorem in16 (n lo hi : Int) (w : World) :
    Calls Tryd.prog 52 #[.int .i64 n, .int .i64 lo, .int .i64 hi] w fun e w' => e = .returned (.bool (decide (lo ≤ n) && decide (n ≤ hi))) ∧ w' = w := by
  by_cases h : lo ≤ n
  · have h1 : decide (lo ≤ n) = true := by simpa using h
    go_enter Tryd.func52, Tryd.ntmps52
    go_wp2
    go_ret
    exact ⟨by rw [h1]; rfl, rfl⟩
  · have h1 : decide (lo ≤ n) = false := by simpa using h
    go_enter Tryd.func52, Tryd.ntmps52
    go_wp2
    go_ret
    exact ⟨rfl, rfl⟩
theorem kn16 (n : Int) (w : World) : Calls Tryd.prog 42 #[.int .i64 n] w fun e w' => e = .returned (.bool (k62 n)) ∧ w' = w := by
  have HI := hide (in16 n 0 4611686018427387903)
  change Hid (∀ W, Calls Tryd.prog 52 #[.int .i64 n, .int .i64 0, .int .i64 4611686018427387903] W fun e w' => e = .returned (.bool (k62 n)) ∧ w' = W) at HI
  go_enter Tryd.func42, Tryd.ntmps42
  go_wp2_with fail
  refine (unhide HI _).mono ?_
  rintro e w1 ⟨rfl, rfl⟩
  go_wp2
  go_ret
  exact ⟨rfl, rfl⟩
set_option maxHeartbeats 4000000 in
theorem specGC (L : List CapsuleD) (a : Option Addr) (c : Nat) (w : World) (hm : L.length ≤ 1048576) (ho : ∀ i, i < L.length → (gt capsuleK L i).f1.size ≤ 1048576) (h : Rd capsuleK w a L) :
    Calls Tryd.prog 21 #[.slice a L.length c] w fun e w' => e = .returned (.bool (gdL L)) ∧ Below w.heap.size w w' := by
  have HR := hide h
  have HO := hide ho
  clear h ho
  have hD : decide (L.length ≤ 30) = decide ((L.length : Int) ≤ 30) := decide_eq_decide.2 (by omega)
  have HA0 := hide (show gdL L = (decide ((L.length : Int) ≤ 30) && L.all gdC) by unfold gdL; rw [hD])
  clear hD
  go_enter Tryd.func21, Tryd.ntmps21
  go_wp2_with fail
  go_loopw [7] (fun i wr => ∃ k : Nat, k ≤ L.length ∧ i = .int .i64 k ∧ Hid ((L.take k).all gdC = true) ∧ Below w.heap.size w wr) (fun i _ => L.length - (intOf i).toNat)
  case atStart => exact ⟨0, Nat.zero_le _, rfl, rfl, Below.refl _ _⟩
  case round =>
    obtain ⟨k, hk, rfl, hA, hbel⟩ := hrel
    by_cases hlt : k < L.length
    · rcases (unhide HR).below hbel with h0 | ⟨b, o, rfl, _, hel⟩
      · rw [h0] at hlt; exact absurd hlt (Nat.not_lt_zero _)
      have x0 := capsule_r0 hel hlt
      have x1 := capsule_r1 hel hlt
      clear hel
      have HNO := hide (fun q => gdL_no hlt q)
      have HYE := hide (fun q => gdL_take hlt (unhide hA) q)
      have z1 := unhide HO k hlt
      generalize gt capsuleK L k = D at *
      obtain ⟨nm, vl⟩ := D
      dsimp only at x0 x1 z1
      have HD : Hid (gdC ⟨nm, vl⟩ = (k62 nm && decide (vl.size ≤ 200))) := rfl
      have HN := hide (fun W => kn16 nm W)
      have HB := hide hbel
      clear hbel hA
      obtain ⟨V, hV⟩ : ∃ V, V = wr.alloc (.cells #[.int .i64 nm, .string vl] 30) := ⟨_, rfl⟩
      have hBV : Below w.heap.size w V := by rw [hV]; exact (unhide HB).alloc (unhide HB).size _
      have hbx : Bx V wr.heap.size [.int .i64 nm, .string vl] := by rw [hV]; exact Bx.new wr _ _
      have y0 := hbx.cv
      have yl := hbx.lt
      have HBV := hide hBV
      have HVV := hide hV
      clear hV hBV hbx
      go_upto_region 4 with fail
      rw [← unhide HVV]
      clear HVV
      cases hn : k62 nm with
      | false =>
        rw [hn] at HN HD
        have HE := hide (unhide HNO (by rw [unhide HD]; rfl))
        clear hn
        go_wp2_with fail
        refine (unhide HN _).mono ?_
        rintro e w1 ⟨rfl, h9⟩
        rw [h9]
        clear h9 w1
        go_wp2
        go_ret
        exact ⟨by rw [unhide HE]; rfl, unhide HBV⟩
      | true =>
        rw [hn] at HN HD
        clear hn
        by_cases hv : vl.size ≤ 200
        · have d1 : ¬ (200 : Int) < (vl.size : Int) := by omega
          have HE := hide (unhide HYE (by rw [unhide HD, decide_eq_true hv]; rfl))
          clear hv
          go_wp2_with fail
          refine (unhide HN _).mono ?_
          rintro e w1 ⟨rfl, h9⟩
          rw [h9]
          clear h9 w1
          go_wp2
          exact ⟨⟨k + 1, by omega, by go_num, HE, unhide HBV⟩, by simp [intOf]; omega⟩
        · have d1 : (200 : Int) < (vl.size : Int) := by omega
          have HE := hide (unhide HNO (by rw [unhide HD, decide_eq_false hv]; rfl))
          clear hv
          go_wp2_with fail
          refine (unhide HN _).mono ?_
          rintro e w1 ⟨rfl, h9⟩
          rw [h9]
          clear h9 w1
          go_wp2
          go_ret
          exact ⟨by rw [unhide HE]; rfl, unhide HBV⟩
    · obtain rfl : k = L.length := by omega
      rw [List.take_length] at hA
      go_wp2
      go_ret
      exact ⟨by rw [unhide HA0, unhide hA, Bool.and_true]; rfl, hbel⟩
end Go.Proofs.YtgieglpjkjncfabDoor.Rc
