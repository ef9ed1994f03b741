/-
  The law on fields, given what is drawn.
-/
import Derived.Test.YtidgjjbdabifnabDoorFrv
import Derived.Test.YtidgjjbdabifnabDoorFsx
import Derived.Test.YtidgjjbdabifnabDoorFsv
import Derived.Deep.DeepCutAuto
import Derived.BigQuiet
namespace Go.Proofs.YtidgjjbdabifnabDoor.Rc
open Go.ChangeShapes Go.WideShapes Go.ChangeAt Go.RowKit Go.Deep
set_option linter.unusedVariables false
set_option maxRecDepth 100000

theorem t16 : ∀ k : Fin 16, fsA sT (gt fieldK sT k) 0 = ((k : Nat) : Int) ∧ nmP (gt fieldK sT k).f0 ≤ ((k : Nat) : Int) ∧ gdF [gt fieldK sT k] = true ∧ (fbR [gt fieldK sT k]).size = 3 := by decide +kernel
theorem t16n (k : Nat) (h : k < 16) : fsA sT (gt fieldK sT k) 0 = (k : Int) ∧ nmP (gt fieldK sT k).f0 ≤ (k : Int) ∧ gdF [gt fieldK sT k] = true ∧ (fbR [gt fieldK sT k]).size = 3 := t16 ⟨k, h⟩
theorem implFB1 (D : FieldD) (a : Option Addr) (c : Nat) (W : World) (h : Sf W) (hz : D.f0.size ≤ 100 ∧ D.f1.size ≤ 100) (hr : Rd fieldK W a [D]) :
    Calls Tryd.prog 11 #[.slice a 1 c] W fun e w' => e = .returned (.tuple #[.string (fbR [D]), .bool (gdF [D])]) ∧ Below W.heap.size W w' :=
  implFB [D] a c W h (by show 1 ≤ 1048576; omega) (fun i hi => by
    cases i with
    | zero => exact ⟨by show D.f0.size ≤ _; omega, by show D.f1.size ≤ _; omega⟩
    | succ i => exact absurd hi (by simp)) hr
theorem rd_one (W : World) (nm vl : ByteArray) : Rd fieldK (W.alloc (.cells #[.string nm, .string vl] 33)) (some ⟨W.heap.size, 0, none⟩) [⟨nm, vl⟩] := by
  have hbx := Bx.new W [.string nm, .string vl] 33
  refine Or.inr ⟨W.heap.size, 0, rfl, hbx.lt, fun q hq => ?_⟩
  rw [Nat.zero_add]
  exact (hbx.cv q).trans (fl_get fieldK [⟨nm, vl⟩] q hq)
set_option maxHeartbeats 4000000 in
theorem fields_given (a0 : Option Addr) (n0 c0 : Nat) (a1 : Option Addr) (n1 c1 : Nat) (w : World) (hn : n0 + n1 ≤ 1048576) (hS : Sf w)
    (HD : Calls Tryd.prog 10 #[.slice a0 n0 c0] w fun e w' => ∃ (L : List FieldD) (a : Option Addr) (c : Nat), e = .returned (.slice a L.length c) ∧ L.length ≤ 31 ∧ (∀ i, i < L.length → (gt fieldK L i).f0.size ≤ 1048576 ∧ (gt fieldK L i).f1.size ≤ 1048576) ∧ Rd fieldK w' a L ∧ Below w.heap.size w w')
    (HN : ∀ W, Below w.heap.size w W → Calls Tryd.prog 13 #[.slice a1 n1 c1] W fun e w' => ∃ r : Nat, e = .returned (.int .i64 r) ∧ r < 1000003 ∧ Below W.heap.size W w') :
    Calls Tryd.prog 4 #[.slice a0 n0 c0, .slice a1 n1 c1] w fun e w' => e = .returned (.bool true) ∧ Below w.heap.size w w' := by
  have HDR := hide HD
  have HNM := hide HN
  have HS := hide hS
  have hI : (n0 : Int) + (n1 : Int) ≤ 1048576 := by omega
  clear HD HN hS
  go_enter Tryd.func4, Tryd.ntmps4
  go_wp2_with fail
  refine (unhide HDR).mono ?_
  rintro e w1 ⟨L, a, c, rfl, hL, hO, R, b1⟩
  have HO := hide hO
  have R1 := hide R
  have B1 := hide b1
  clear hO R b1 HDR
  go_wp2_with fail
  refine (implFB L a c w1 ((unhide HS).below (unhide B1)) (by omega) (unhide HO) (unhide R1)).mono ?_
  rintro e w2 ⟨rfl, b2⟩
  have B2 := hide ((unhide B1).trans (b2.mono (unhide B1).size))
  have R2 := hide ((unhide R1).below b2)
  clear b2
  go_wp2_with fail
  refine (specFB L a c w2 (by omega) (unhide HO) (unhide R2)).mono ?_
  rintro e w3 ⟨rfl, b3⟩
  have B3 := hide ((unhide B2).trans (b3.mono (unhide B2).size))
  have R3 := hide ((unhide R2).below b3)
  clear b3
  by_cases hg : gdF L = true
  · have HG := hide hg
    have hRF := fun W (h : Sf W) => implRF (fbR L) W (by
      have hg2 := unhide HG
      unfold gdF at hg2
      rw [Bool.and_eq_true] at hg2
      have := fb_len L hg2.2
      unfold fbR
      rw [if_pos (unhide HG)]
      show (fbL L).toArray.size ≤ _
      rw [List.size_toArray]
      unfold fbL
      rw [List.length_append]
      simp only [List.length_cons, List.length_nil]
      omega) h
    have e1 : rdI (fbR L).data.toList = some L := by
      unfold fbR
      rw [if_pos hg]
      exact (rd_back L hg).2
    rw [e1] at hRF
    have HRF := hide hRF
    clear hRF e1
    rw [hg]
    generalize fbR L = s at *
    clear hg
    go_wp2_with fail
    refine (unhide HRF _ ((unhide HS).below (unhide B3))).mono ?_
    rintro e w4 ⟨⟨a4, c4, rfl, R4⟩, b4⟩
    have RM := hide (show Rd fieldK w4 a4 L from (ro_rix R4).1.rd)
    have B4 := hide ((unhide B3).trans (b4.mono (unhide B3).size))
    have RL := hide ((unhide R3).below b4)
    clear b4 R4 R1 R2 R3 B1 B2 B3 HRF
    go_wp2_with fail
    go_loopw [65] (fun x wr => ∃ k : Nat, k ≤ L.length ∧ x = .int .i64 k ∧ Hid (Below w4.heap.size w4 wr)) (fun x _ => L.length - (intOf x).toNat)
    case atStart => exact ⟨0, Nat.zero_le _, rfl, Below.refl _ _⟩
    case round =>
      obtain ⟨k, hk, rfl, HB⟩ := hrel
      by_cases hlt : k < L.length
      · rcases (unhide RM).below (unhide HB) with h0 | ⟨b, o, rfl, _, hel⟩
        · rw [h0] at hlt; exact absurd hlt (Nat.not_lt_zero _)
        rcases (unhide RL).below (unhide HB) with h0 | ⟨b', o', rfl, _, hel'⟩
        · rw [h0] at hlt; exact absurd hlt (Nat.not_lt_zero _)
        have x0 := field_r0 hel hlt
        have x1 := field_r1 hel hlt
        have x2 := field_r0 hel' hlt
        have x3 := field_r1 hel' hlt
        clear hel hel'
        have hI2 : (k : Int) < (L.length : Int) := by omega
        have hI3 : (0 : Int) ≤ (k : Int) := by omega
        have HBN := hide (fun n => below_drewN (unhide HB) n)
        generalize gt fieldK L k = D at *
        obtain ⟨nm, vl⟩ := D
        dsimp only at x0 x1 x2 x3
        go_wp2_with fail
        go_quiet (fail)
        all_goals
          go_wp2
          exact ⟨⟨k + 1, by omega, by go_num, unhide HBN _⟩, by simp [intOf]; omega⟩
      · obtain rfl : k = L.length := by omega
        have B5 := hide ((unhide B4).trans ((unhide HB).mono (unhide B4).size))
        go_wp2_with fail
        refine (unhide HNM _ (unhide B5)).mono ?_
        rintro e v1 ⟨r, rfl, hr, d1⟩
        have D1 := hide ((unhide B5).trans (d1.mono (unhide B5).size))
        clear d1
        obtain ⟨k, hk⟩ : ∃ k : Nat, k = r % 16 := ⟨_, rfl⟩
        have hk16 : k < 16 := by rw [hk]; exact Nat.mod_lt r (by decide)
        have hk2 : (r : Int) % 16 = (k : Int) := by rw [hk]; simp
        have T := t16n k hk16
        have e1 : sfD (k : Int) = gt fieldK sT k := by unfold sfD; rw [if_pos (by omega)]; rfl
        have e2 : sfB (k : Int) = true := by unfold sfB; rw [decide_eq_true (by omega), decide_eq_true (by omega)]; rfl
        have HSI := hide (fun W (h : Sf W) => implSF (k : Int) W h)
        have HSM := hide (fun W => specSF (k : Int) W)
        rw [e1, e2] at HSI HSM
        have hz := sT_sz k hk16
        generalize gt fieldK sT k = D at *
        have HAT := hide (fun W (h : Sf W) => implSA D W h (by unfold maxLen; omega) (by unfold maxLen; omega))
        have T1 := hide T.1
        have T2 := T.2.1
        have HFB := hide (fun W a c (h : Sf W) (hr : Rd fieldK W a [D]) => implFB1 D a c W h hz hr)
        rw [T.2.2.1] at HFB
        have T3 := T.2.2.2
        clear T hk e1 e2
        generalize fbR [D] = tt at *
        unfold atV2 at HAT
        rw [unhide T1] at HAT
        generalize nmP D.f0 = nn at *
        obtain ⟨nm, vl⟩ := D
        clear T1 HNM
        go_wp2_with fail
        refine (unhide HSI _ ((unhide HS).below (unhide D1))).mono ?_
        rintro e v2 ⟨rfl, d2⟩
        have D2 := hide ((unhide D1).trans (d2.mono (unhide D1).size))
        clear d2
        have sD2 := (unhide D2).size
        have X1 := hide (Bx.new v2 [.string nm, .string vl] 33)
        go_wp2_with fail
        refine (unhide HSM _).mono ?_
        rintro e v3 ⟨rfl, d3⟩
        have sD3 := d3.size
        simp only [World.size_alloc] at sD3
        have D3 := hide (((unhide D2).alloc sD2 (.cells #[.string nm, .string vl] 33)).trans (d3.mono (by simp; omega)))
        have X3 := ((unhide X1).below d3).alloc (.cells #[.string nm, .string vl] 33)
        have X4 := Bx.new v3 [.string nm, .string vl] 33
        have D3a := hide ((unhide D3).alloc (by omega) (.cells #[.string nm, .string vl] 33))
        have HX3 := hide X3
        have HX4 := hide X4
        have y0 := X3.cv
        have yl := X3.lt
        have z0 := X4.cv
        have zl := X4.lt
        clear X3 X4 d3 X1 HSM
        go_wp2_with fail
        refine (unhide HAT _ ((unhide HS).below (unhide D3a))).mono ?_
        rintro e v4 ⟨rfl, d4⟩
        have sD4 := d4.size
        simp only [World.size_alloc] at sD4
        have D4 := hide ((unhide D3a).trans (d4.mono (unhide D3a).size))
        have X5 := (unhide HX3).below d4
        have X6 := (unhide HX4).below d4
        have HX5 := hide X5
        have HX6 := hide X6
        have q0 := X5.cv
        have ql := X5.lt
        clear X5 X6 d4 HX3 HX4 y0 yl z0 zl HAT
        have D4a := hide ((unhide D4).alloc (by omega) (.cells #[.string nm, .string vl] 33))
        have RO := hide (rd_one v4 nm vl)
        go_wp2_with fail
        refine (unhide HFB _ _ _ ((unhide HS).below (unhide D4a)) (unhide RO)).mono ?_
        rintro e v5 ⟨rfl, d5⟩
        have D5 := hide ((unhide D4a).trans (d5.mono (unhide D4a).size))
        have X7 := ((unhide HX5).alloc (.cells #[.string nm, .string vl] 33)).below d5
        have X8 := ((unhide HX6).alloc (.cells #[.string nm, .string vl] 33)).below d5
        have y0 := X7.cv
        have yl := X7.lt
        have z0 := X8.cv
        have zl := X8.lt
        have ht3 : ((tt.size : Int) == 3) = true := by rw [T3]; rfl
        clear X7 X8 d5 HX5 HX6 q0 ql HFB T3 RO
        go_wp2
        go_ret
        exact ⟨rfl, unhide D5⟩
  · have hgf : gdF L = false := by cases h : gdF L with | true => exact absurd h hg | false => rfl
    rw [hgf]
    clear hg hgf
    go_wp2_with fail
    refine (unhide HNM _ (unhide B3)).mono ?_
    rintro e v1 ⟨r, rfl, hr, d1⟩
    have D1 := hide ((unhide B3).trans (d1.mono (unhide B3).size))
    clear d1
    obtain ⟨k, hk⟩ : ∃ k : Nat, k = r % 16 := ⟨_, rfl⟩
    have hk16 : k < 16 := by rw [hk]; exact Nat.mod_lt r (by decide)
    have hk2 : (r : Int) % 16 = (k : Int) := by rw [hk]; simp
    have T := t16n k hk16
    have e1 : sfD (k : Int) = gt fieldK sT k := by unfold sfD; rw [if_pos (by omega)]; rfl
    have e2 : sfB (k : Int) = true := by unfold sfB; rw [decide_eq_true (by omega), decide_eq_true (by omega)]; rfl
    have HSI := hide (fun W (h : Sf W) => implSF (k : Int) W h)
    have HSM := hide (fun W => specSF (k : Int) W)
    rw [e1, e2] at HSI HSM
    have hz := sT_sz k hk16
    generalize gt fieldK sT k = D at *
    have HAT := hide (fun W (h : Sf W) => implSA D W h (by unfold maxLen; omega) (by unfold maxLen; omega))
    have T1 := hide T.1
    have T2 := T.2.1
    have HFB := hide (fun W a c (h : Sf W) (hr : Rd fieldK W a [D]) => implFB1 D a c W h hz hr)
    rw [T.2.2.1] at HFB
    have T3 := T.2.2.2
    clear T hk e1 e2
    generalize fbR [D] = tt at *
    unfold atV2 at HAT
    rw [unhide T1] at HAT
    generalize nmP D.f0 = nn at *
    obtain ⟨nm, vl⟩ := D
    clear T1 HNM
    go_wp2_with fail
    refine (unhide HSI _ ((unhide HS).below (unhide D1))).mono ?_
    rintro e v2 ⟨rfl, d2⟩
    have D2 := hide ((unhide D1).trans (d2.mono (unhide D1).size))
    clear d2
    have sD2 := (unhide D2).size
    have X1 := hide (Bx.new v2 [.string nm, .string vl] 33)
    go_wp2_with fail
    refine (unhide HSM _).mono ?_
    rintro e v3 ⟨rfl, d3⟩
    have sD3 := d3.size
    simp only [World.size_alloc] at sD3
    have D3 := hide (((unhide D2).alloc sD2 (.cells #[.string nm, .string vl] 33)).trans (d3.mono (by simp; omega)))
    have X3 := ((unhide X1).below d3).alloc (.cells #[.string nm, .string vl] 33)
    have X4 := Bx.new v3 [.string nm, .string vl] 33
    have D3a := hide ((unhide D3).alloc (by omega) (.cells #[.string nm, .string vl] 33))
    have HX3 := hide X3
    have HX4 := hide X4
    have y0 := X3.cv
    have yl := X3.lt
    have z0 := X4.cv
    have zl := X4.lt
    clear X3 X4 d3 X1 HSM
    go_wp2_with fail
    refine (unhide HAT _ ((unhide HS).below (unhide D3a))).mono ?_
    rintro e v4 ⟨rfl, d4⟩
    have sD4 := d4.size
    simp only [World.size_alloc] at sD4
    have D4 := hide ((unhide D3a).trans (d4.mono (unhide D3a).size))
    have X5 := (unhide HX3).below d4
    have X6 := (unhide HX4).below d4
    have HX5 := hide X5
    have HX6 := hide X6
    have q0 := X5.cv
    have ql := X5.lt
    clear X5 X6 d4 HX3 HX4 y0 yl z0 zl HAT
    have D4a := hide ((unhide D4).alloc (by omega) (.cells #[.string nm, .string vl] 33))
    have RO := hide (rd_one v4 nm vl)
    go_wp2_with fail
    refine (unhide HFB _ _ _ ((unhide HS).below (unhide D4a)) (unhide RO)).mono ?_
    rintro e v5 ⟨rfl, d5⟩
    have D5 := hide ((unhide D4a).trans (d5.mono (unhide D4a).size))
    have X7 := ((unhide HX5).alloc (.cells #[.string nm, .string vl] 33)).below d5
    have X8 := ((unhide HX6).alloc (.cells #[.string nm, .string vl] 33)).below d5
    have y0 := X7.cv
    have yl := X7.lt
    have z0 := X8.cv
    have zl := X8.lt
    have ht3 : ((tt.size : Int) == 3) = true := by rw [T3]; rfl
    clear X7 X8 d5 HX5 HX6 q0 ql HFB T3 RO
    go_wp2
    go_ret
    exact ⟨rfl, unhide D5⟩
end Go.Proofs.YtidgjjbdabifnabDoor.Rc
