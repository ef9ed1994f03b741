/-
  Contracts: StaticAt, of both sides.
-/
import Derived.Test.YtidgjjbdabifnabDoorFsu
import Derived.Deep.DeepCutAuto
namespace Go.Proofs.YtidgjjbdabifnabDoor.Rc
open Go.ChangeShapes Go.WideShapes Go.ChangeAt Go.RowKit Go.Deep
set_option linter.unusedVariables false
set_option maxRecDepth 100000

theorem tlI {s t : ByteArray} : (s.toList == t.toList) = decide (s = t) := by
  rw [Bool.eq_iff_iff, beq_iff_eq, decide_eq_true_eq, ByteArray.toList_eq, ByteArray.toList_eq]
  constructor
  · intro h
    exact ByteArray.ext (Array.toList_inj.1 h)
  · intro h
    rw [h]
theorem fsA_at {k : Nat} {D : FieldD} (hk : k < 16) (h : (gt fieldK sT k).f0 = D.f0 ∧ (gt fieldK sT k).f1 = D.f1) : fsA (sT.drop k) D k = k := by
  have e : sT.drop k = gt fieldK sT k :: sT.drop (k + 1) := by
    rw [gt_of fieldK sT k (by rw [sT_len]; exact hk)]
    exact List.drop_eq_getElem_cons _
  rw [e]
  unfold fsA
  exact if_pos h
theorem fsA_on {k : Nat} {D : FieldD} (hk : k < 16) (h : ¬ ((gt fieldK sT k).f0 = D.f0 ∧ (gt fieldK sT k).f1 = D.f1)) : fsA (sT.drop k) D k = fsA (sT.drop (k + 1)) D (k + 1) := by
  have e : sT.drop k = gt fieldK sT k :: sT.drop (k + 1) := by
    rw [gt_of fieldK sT k (by rw [sT_len]; exact hk)]
    exact List.drop_eq_getElem_cons _
  rw [e]
  rw [fsA]
  exact if_neg h
/-- where a field stands -/
abbrev atV2 (D : FieldD) : Value := .tuple #[.int .i64 (fsA sT D 0), .int .i64 (nmP D.f0)]
set_option maxHeartbeats 4000000 in
theorem implSA (D : FieldD) (w : World) (hS : Sf w) (h0 : D.f0.size ≤ maxLen) (h1 : D.f1.size ≤ maxLen) : Calls Tryd.prog 16 #[fieldV D] w fun e w' => e = .returned (atV2 D) ∧ Below w.heap.size w w' := by
  obtain ⟨W, hW⟩ : ∃ W, W = w.alloc (.cells #[.string D.f0, .string D.f1] 33) := ⟨_, rfl⟩
  have hbW : Below w.heap.size w W := by rw [hW]; exact (Below.refl w.heap.size w).alloc (Nat.le_refl _) _
  have hbx : Bx W w.heap.size [.string D.f0, .string D.f1] := by rw [hW]; exact Bx.new w _ _
  have HS := hide (hS.below hbW)
  have HB := hide hbW
  have HX := hide hbx
  have HW := hide hW
  have HP := hide (fun w => implPN D.f0 w h0)
  have hlo := fsN_lo sT D.f0 0
  rw [fsN_is] at hlo
  have hno := fsA_none sT D 0
  have hdr := fsA_drop sT D 0
  rw [fsN_is] at hno hdr
  rw [sT_len] at hlo
  clear hW hbW hS
  by_cases hz : nmP D.f0 = -1
  · have HE := hide (show atV2 D = .tuple #[.int .i64 (-1), .int .i64 (-1)] by unfold atV2; rw [hno hz, hz])
    rw [hz] at HP
    have y := hbx.cv
    have yl := hbx.lt
    clear hno hdr hlo hbx
    go_enter Tryd.func16, Tryd.ntmps16
    go_upto_region 1 with fail
    rw [← unhide HW]
    clear HW
    go_wp2_with fail
    refine (unhide HP _).mono ?_
    rintro e w1 ⟨rfl, b1⟩
    have B1 := hide ((unhide HB).trans (b1.mono (unhide HB).size))
    clear b1 y yl
    go_wp2
    go_ret2
    exact ⟨by rw [unhide HE]; rfl, unhide B1⟩
  · obtain ⟨n, hn⟩ : ∃ n : Nat, nmP D.f0 = n := ⟨(nmP D.f0).toNat, by omega⟩
    have hn16 : n < 16 := by omega
    have hd2 := hdr n (by rw [hn, Nat.zero_add])
    rw [Nat.zero_add] at hd2
    have HE := hide (show atV2 D = .tuple #[.int .i64 (fsA sT D 0), .int .i64 n] by unfold atV2; rw [hn])
    have HD := hide hd2
    rw [hn] at HP
    have y := hbx.cv
    have yl := hbx.lt
    clear hno hdr hlo hz hn hbx hd2
    go_enter Tryd.func16, Tryd.ntmps16
    go_upto_region 1 with fail
    rw [← unhide HW]
    clear HW
    go_wp2_with fail
    refine (unhide HP _).mono ?_
    rintro e w1 ⟨rfl, b1⟩
    have B1 := hide ((unhide HB).trans (b1.mono (unhide HB).size))
    have X1 := hide ((unhide HX).below b1)
    have S1 := hide ((unhide HS).below b1)
    clear b1 y yl HX HS
    have hneg : ¬ (n : Int) = -1 := by omega
    go_wp2_with fail
    go_loopw [5] (fun i wr => ∃ k : Nat, k ≤ 16 ∧ i = .int .i64 k ∧ Hid (fsA sT D 0 = fsA (sT.drop k) D k) ∧ Hid (Below w1.heap.size w1 wr)) (fun i _ => (16 - intOf i).toNat)
    case atStart => exact ⟨n, by omega, rfl, HD, Below.refl _ _⟩
    case round =>
      obtain ⟨k, hk, rfl, HK, HR⟩ := hrel
      by_cases hlt : k < 16
      · have hS2 := (unhide S1).below (unhide HR)
        have x0 := field_r0 hS2.el (k := k) (by rw [sT_len]; exact hlt)
        have x1 := field_r1 hS2.el (k := k) (by rw [sT_len]; exact hlt)
        simp only [Nat.zero_add] at x0 x1
        have xb := (unhide X1).below (unhide HR)
        have y := xb.cv
        have yl := xb.lt
        have hat := fsA_at (k := k) (D := D) hlt
        have hon := fsA_on (k := k) (D := D) hlt
        generalize gt fieldK sT k = X at *
        obtain ⟨xn, xv⟩ := X
        dsimp only at x0 x1 hat hon
        have hkI : (k : Int) < 16 := by omega
        clear hS2 xb
        have t0 := tlI (s := xn) (t := D.f0)
        have t1 := tlI (s := xv) (t := D.f1)
        by_cases hq : xn = D.f0 ∧ xv = D.f1
        · have HAT := hide (hat hq)
          rw [decide_eq_true hq.1] at t0
          rw [decide_eq_true hq.2] at t1
          clear hat hon hq
          have HZ : Hid (fsA sT D 0 = k) := (unhide HK).trans (unhide HAT)
          have HBR := hide ((unhide B1).trans ((unhide HR).mono (unhide B1).size))
          go_upto_region 7 with fail
          go_quiet (fail)
          have HBN := hide (below_drewN (unhide HBR) nq)
          go_wp2
          go_ret2
          exact ⟨by rw [unhide HE, unhide HZ]; rfl, unhide HBN⟩
        · have HON := hide (hon hq)
          have HK2 : Hid (fsA sT D 0 = fsA (sT.drop (k + 1)) D (k + 1)) := (unhide HK).trans (unhide HON)
          by_cases hq0 : xn = D.f0
          · have hq1 : ¬ xv = D.f1 := fun e => hq ⟨hq0, e⟩
            rw [decide_eq_true hq0] at t0
            rw [decide_eq_false hq1] at t1
            clear hat hon hq hq0 hq1
            go_upto_region 7 with fail
            go_quiet (fail)
            have HBN := hide (below_drewN (unhide HR) nq)
            go_wp2
            exact ⟨⟨k + 1, by omega, by go_num, HK2, HBN⟩, by simp [intOf]; omega⟩
          · rw [decide_eq_false hq0] at t0
            clear hat hon hq hq0 t1
            go_upto_region 7 with fail
            go_quiet (fail)
            have HBN := hide (below_drewN (unhide HR) nq)
            go_wp2
            exact ⟨⟨k + 1, by omega, by go_num, HK2, HBN⟩, by simp [intOf]; omega⟩
      · obtain rfl : k = 16 := by omega
        have HZ : Hid (fsA sT D 0 = -1) := (unhide HK).trans rfl
        have hB := hide ((unhide B1).trans ((unhide HR).mono (unhide B1).size))
        go_wp2
        go_ret2
        exact ⟨by rw [unhide HE, unhide HZ]; rfl, unhide hB⟩
theorem fsN_at {k : Nat} {s : ByteArray} (hk : k < 16) (h : (gt fieldK sT k).f0 = s) : fsN (sT.drop k) s k = k := by
  have e : sT.drop k = gt fieldK sT k :: sT.drop (k + 1) := by
    rw [gt_of fieldK sT k (by rw [sT_len]; exact hk)]
    exact List.drop_eq_getElem_cons _
  rw [e]
  unfold fsN
  exact if_pos h
theorem fsN_on {k : Nat} {s : ByteArray} (hk : k < 16) (h : ¬ (gt fieldK sT k).f0 = s) : fsN (sT.drop k) s k = fsN (sT.drop (k + 1)) s (k + 1) := by
  have e : sT.drop k = gt fieldK sT k :: sT.drop (k + 1) := by
    rw [gt_of fieldK sT k (by rw [sT_len]; exact hk)]
    exact List.drop_eq_getElem_cons _
  rw [e]
  rw [fsN]
  exact if_neg h
/-- how the model's search stands -/
def Sa (D : FieldD) (k : Nat) (a : Int) : Prop := (a = -1 ∧ fsA sT D 0 = fsA (sT.drop k) D k) ∨ (0 ≤ a ∧ fsA sT D 0 = a)
def Sn (s : ByteArray) (k : Nat) (b : Int) : Prop := (b = -1 ∧ fsN sT s 0 = fsN (sT.drop k) s k) ∨ (0 ≤ b ∧ fsN sT s 0 = b)
set_option maxHeartbeats 4000000 in
theorem specAt (D : FieldD) (w : World) : Calls Tryd.prog 42 #[fieldV D] w fun e w' => e = .returned (atV2 D) ∧ Below w.heap.size w w' := by
  obtain ⟨W, hW⟩ : ∃ W, W = w.alloc (.cells #[.string D.f0, .string D.f1] 33) := ⟨_, rfl⟩
  have hbW : Below w.heap.size w W := by rw [hW]; exact (Below.refl w.heap.size w).alloc (Nat.le_refl _) _
  have hbx : Bx W w.heap.size [.string D.f0, .string D.f1] := by rw [hW]; exact Bx.new w _ _
  have HB := hide hbW
  have HX := hide hbx
  have HW := hide hW
  clear hW hbW hbx
  go_enter Tryd.func42, Tryd.ntmps42
  go_upto_region 1 with fail
  rw [← unhide HW]
  clear HW
  go_wp2_with fail
  refine (specSt W).mono ?_
  rintro e w1 ⟨rfl, hR, hlt1, b1⟩
  have B1 := hide ((unhide HB).trans (b1.mono (unhide HB).size))
  have X1 := hide ((unhide HX).below b1)
  have R1 := hide hR
  clear b1 hR HB HX
  generalize W.heap.size = tb at *
  go_wp2_with fail
  go_loopw [4, 5, 10] (fun a b i wr => ∃ (k : Nat) (x y : Int), k ≤ 16 ∧ i = .int .i64 k ∧ a = .int .i64 x ∧ b = .int .i64 y ∧ Hid (Sa D k x) ∧ Hid (Sn D.f0 k y) ∧ Hid (Below w1.heap.size w1 wr)) (fun _ _ i _ => (16 - intOf i).toNat)
  case atStart => exact ⟨0, -1, -1, by omega, rfl, rfl, rfl, Or.inl ⟨rfl, rfl⟩, Or.inl ⟨rfl, rfl⟩, Below.refl _ _⟩
  case round =>
    obtain ⟨k, x, y, hk, rfl, rfl, rfl, HA, HN, HR⟩ := hrel
    by_cases hlt : k < 16
    · rcases (unhide R1).below (unhide HR) with h0 | ⟨b, o, e, _, hel⟩
      · exact absurd h0 (by decide)
      have e1 : tb = b ∧ 0 = o := by injection e with e; injection e with e1 e2 _; exact ⟨e1, e2⟩
      obtain ⟨rfl, rfl⟩ := e1
      clear e
      have x0 := field_r0 hel (k := k) (by rw [sT_len]; exact hlt)
      have x1 := field_r1 hel (k := k) (by rw [sT_len]; exact hlt)
      simp only [Nat.zero_add] at x0 x1
      have xb := (unhide X1).below (unhide HR)
      have HAT := hide (fsA_at (k := k) (D := D) hlt)
      have HON := hide (fsA_on (k := k) (D := D) hlt)
      have HNT := hide (fsN_at (k := k) (s := D.f0) hlt)
      have HNN := hide (fsN_on (k := k) (s := D.f0) hlt)
      generalize gt fieldK sT k = X at *
      obtain ⟨xn, xv⟩ := X
      dsimp only at x0 x1 HAT HON HNT HNN
      have hkI : (k : Int) < 16 := by omega
      obtain ⟨V, hV⟩ : ∃ V, V = wr.alloc (.cells #[.string xn, .string xv] 33) := ⟨_, rfl⟩
      have hBV : Below w1.heap.size w1 V := by rw [hV]; exact (unhide HR).alloc (unhide HR).size _
      have hbv : Bx V wr.heap.size [.string xn, .string xv] := by rw [hV]; exact Bx.new wr _ _
      have hbf : Bx V w.heap.size [.string D.f0, .string D.f1] := by rw [hV]; exact xb.alloc _
      have y0 := hbv.cv
      have yl := hbv.lt
      have z0 := hbf.cv
      have zl := hbf.lt
      have HBV := hide hBV
      have HVV := hide hV
      clear hV hBV hbv hbf xb hel
      have t0 := tlI (s := xn) (t := D.f0)
      have t1 := tlI (s := xv) (t := D.f1)
      go_upto_region 6 with fail
      rw [← unhide HVV]
      clear HVV
      go_cut [21] (fun s4 wx => ∃ c : Bool, s4 = .bool c ∧ Hid (Sa D (k + 1) (if c = true then (k : Int) else x)) ∧ wx = V)
      case first =>
        rcases unhide HA with ⟨rfl, hA⟩ | ⟨hx0, hA⟩
        · by_cases hq : xn = D.f0 ∧ xv = D.f1
          · have HS : Hid (Sa D (k + 1) k) := Or.inr ⟨by omega, hA.trans (unhide HAT hq)⟩
            rw [decide_eq_true hq.1] at t0
            rw [decide_eq_true hq.2] at t1
            clear hq hA
            go_wp2
            go_meet
            exact ⟨true, rfl, HS, rfl⟩
          · have HS : Hid (Sa D (k + 1) (-1)) := Or.inl ⟨rfl, hA.trans (unhide HON hq)⟩
            by_cases hq0 : xn = D.f0
            · have hq1 : ¬ xv = D.f1 := fun e => hq ⟨hq0, e⟩
              rw [decide_eq_true hq0] at t0
              rw [decide_eq_false hq1] at t1
              clear hq hA hq0 hq1
              go_wp2
              go_meet
              exact ⟨false, rfl, HS, rfl⟩
            · rw [decide_eq_false hq0] at t0
              clear hq hA hq0 t1
              go_wp2
              go_meet
              exact ⟨false, rfl, HS, rfl⟩
        · have HS : Hid (Sa D (k + 1) x) := Or.inr ⟨hx0, hA⟩
          have hx1 : ¬ x < 0 := by omega
          clear hA hx0
          go_wp2
          go_meet
          exact ⟨false, rfl, HS, rfl⟩
      case rest =>
      obtain ⟨c, rfl, HA', hwc⟩ := hcut
      rw [hwc]
      clear hwc
      obtain ⟨x', hx'⟩ : ∃ x', (if c = true then (k : Int) else x) = x' := ⟨_, rfl⟩
      rw [hx'] at HA'
      have HX' := hide hx'
      clear hx'
      go_upto_if 21 with fail
      go_cut [4] (fun s4 wx => s4 = .int .i64 x' ∧ wx = V)
      case first =>
        cases c with
        | true =>
          go_wp2
          go_meet
          exact ⟨by rw [← unhide HX']; rfl, rfl⟩
        | false =>
          go_wp2
          go_meet
          exact ⟨by rw [← unhide HX']; rfl, rfl⟩
      case rest =>
      obtain ⟨rfl, hwc⟩ := hcut
      rw [hwc]
      clear hwc
      go_upto_region 8 with fail
      go_cut [31] (fun s5 wx => ∃ c : Bool, s5 = .bool c ∧ Hid (Sn D.f0 (k + 1) (if c = true then (k : Int) else y)) ∧ wx = V)
      case first =>
        rcases unhide HN with ⟨rfl, hN⟩ | ⟨hy0, hN⟩
        · by_cases hq0 : xn = D.f0
          · have HS : Hid (Sn D.f0 (k + 1) k) := Or.inr ⟨by omega, hN.trans (unhide HNT hq0)⟩
            rw [decide_eq_true hq0] at t0
            clear hq0 hN t1
            go_wp2
            go_meet
            exact ⟨true, rfl, HS, rfl⟩
          · have HS : Hid (Sn D.f0 (k + 1) (-1)) := Or.inl ⟨rfl, hN.trans (unhide HNN hq0)⟩
            rw [decide_eq_false hq0] at t0
            clear hq0 hN t1
            go_wp2
            go_meet
            exact ⟨false, rfl, HS, rfl⟩
        · have HS : Hid (Sn D.f0 (k + 1) y) := Or.inr ⟨hy0, hN⟩
          have hy1 : ¬ y < 0 := by omega
          clear hN hy0
          go_wp2
          go_meet
          exact ⟨false, rfl, HS, rfl⟩
      case rest =>
      obtain ⟨c2, rfl, HN', hwc⟩ := hcut
      rw [hwc]
      clear hwc
      cases c2 with
      | true =>
        go_wp2
        exact ⟨⟨k + 1, x', k, by omega, by go_num, rfl, rfl, HA', HN', HBV⟩, by simp [intOf]; omega⟩
      | false =>
        go_wp2
        exact ⟨⟨k + 1, x', y, by omega, by go_num, rfl, rfl, HA', HN', HBV⟩, by simp [intOf]; omega⟩
    · obtain rfl : k = 16 := by omega
      have HZ : Hid (fsA sT D 0 = x) := by
        rcases unhide HA with ⟨rfl, h⟩ | ⟨_, h⟩
        · exact h
        · exact h
      have HZ2 : Hid (nmP D.f0 = y) := by
        show _ = _
        rw [← fsN_is]
        rcases unhide HN with ⟨rfl, h⟩ | ⟨_, h⟩
        · exact h
        · exact h
      have hB := hide ((unhide B1).trans ((unhide HR).mono (unhide B1).size))
      go_wp2
      go_ret2
      exact ⟨by show _ = Ending.returned (.tuple #[.int .i64 (fsA sT D 0), .int .i64 (nmP D.f0)]); rw [unhide HZ, unhide HZ2]; rfl, unhide hB⟩
end Go.Proofs.YtidgjjbdabifnabDoor.Rc
