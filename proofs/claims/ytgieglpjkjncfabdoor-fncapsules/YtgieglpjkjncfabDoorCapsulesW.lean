/-
  The law FnCapsules, walked.
-/
import Derived.Test.YtgieglpjkjncfabDoorCkd
import Derived.Test.YtgieglpjkjncfabDoorCpt
import Derived.Test.YtgieglpjkjncfabDoorCpk
import Derived.Test.YtgieglpjkjncfabDoorCpr
import Derived.Deep.DeepCutAuto
namespace Go.Proofs.YtgieglpjkjncfabDoor.fnCapsules
open Go.ChangeShapes Go.WideShapes Go.ChangeAt Go.RowKit Go.Deep Rc
set_option linter.unusedVariables false
set_option maxRecDepth 100000

theorem cat_bd : ∀ (P : List ByteArray), (∀ D ∈ P, D.size ≤ 7000) → (cat P).size ≤ 7000 * P.length := by
  intro P h
  rw [cat_w]
  unfold textW
  induction P with
  | nil => exact Nat.le_refl _
  | cons D P ih =>
    have h1 := ih (fun E hE => h E (List.mem_cons_of_mem _ hE))
    have h2 : textT D ≤ 7000 := h D (List.mem_cons_self ..)
    rw [List.map_cons, List.sum_cons, List.length_cons]
    omega
theorem feed_read {P : List ByteArray} {L : List CapsuleD} {n : Nat} (h : feed P = some (L, n)) : ∃ t, readC (cat P) = some (L, t) ∧ t + n = (cat P).size := by
  unfold feed at h
  split at h
  · rename_i hy
    unfold readC
    rw [if_pos hy.2]
    cases hf : fdC (cat P).data.toList with
    | none => rw [hf] at h; cases h
    | some x =>
      obtain ⟨L', t⟩ := x
      rw [hf] at h
      unfold fedO at h
      injection h with h
      injection h with h1 h2
      have h3 := (fdC_k hf).1
      rw [show (cat P).data.toList.length = (cat P).size by rw [Array.length_toList]; rfl] at h3
      exact ⟨t, by rw [h1], by omega⟩
  · cases h
theorem read_back {L : List CapsuleD} (h : gdL L = true) (hs : (cbR L).size ≤ 1500) : readC (cbR L) = some (L, (cbR L).size) := by
  unfold readC
  rw [if_pos hs]
  have e : (cbR L).data.toList = cbL L := by unfold cbR; rw [if_pos h]; rfl
  rw [e, fd_back h, ← e, Array.length_toList]
  rfl
theorem kn_len (L : List CapsuleD) : (knC L).length ≤ L.length := by
  unfold knC
  split
  · exact knF_len L
  · exact Nat.zero_le _
set_option maxHeartbeats 8000000 in
theorem walk_small (a0 : Option Addr) (n0 c0 : Nat) (a1 : Option Addr) (n1 c1 : Nat) (w : World) (h : n0 + n1 ≤ 1048576) (hC0 : Dr.Cd w a0 n0) (hC1 : Dr.Cd w a1 n1) (hz : Tz w) :
    Calls Tryd.prog 3 #[.slice a0 n0 c0, .slice a1 n1 c1] w fun e w' => e = .returned (.bool true) ∧ Below w.heap.size w w' := by
  have g0 : (n0 : Int) + (n1 : Int) ≤ 1048576 := by omega
  have HDC := hide (Dr.drawCB_any a0 n0 c0 w (by omega) hC0)
  have HDF := hide (fun W (b : Below w.heap.size w W) => Dr.drawFC_any a1 n1 c1 W (by omega) (hC1.below b))
  have HZ := hide (fun W (b : Below w.heap.size w W) => hz.kept b (tz_low hz))
  clear hC0 hC1 hz
  go_enter Tryd.func3, Tryd.ntmps3
  go_wp2_with fail
  refine (unhide HDC).mono ?_
  rintro e w1 ⟨L, la, lc, rfl, hL, hO, hR, b1⟩
  have HO := hide hO
  have R1 := hide hR
  have B1 := hide b1
  clear hO hR b1 HDC
  go_wp2_with fail
  refine (implCB L la lc _ (unhide HZ _ (unhide B1)) (by omega) (unhide HO) (unhide R1)).mono ?_
  rintro e w2 ⟨rfl, b2⟩
  have B2 := hide ((unhide B1).trans (b2.mono (unhide B1).size))
  have R2 := hide ((unhide R1).below b2)
  clear b2 B1 R1
  go_wp2_with fail
  refine (specCB L la lc _ (by omega) (unhide HO) (unhide R2)).mono ?_
  rintro e w3 ⟨rfl, b3⟩
  have B3 := hide ((unhide B2).trans (b3.mono (unhide B2).size))
  have R3 := hide ((unhide R2).below b3)
  clear b3 B2 R2 HZ
  have hs7 := Dr.cbR_le L
  have HRB := hide (fun (h : gdL L = true) (hs : (cbR L).size ≤ 1500) => read_back h hs)
  have HIR := hide (fun W => implRC (cbR L) W (by omega))
  have HIK := hide (fun W (h : Rd capsuleK W la L) => implKC L la lc W (by omega) (unhide HO) h)
  have hkn := kn_len L
  generalize cbR L = s at *
  generalize gdL L = ok at *
  generalize knC L = KN at *
  cases ok with
  | false =>
    clear HRB HIR HIK R3 HO
    go_wp2_with fail
    refine (unhide HDF _ (unhide B3)).mono ?_
    rintro e v1 ⟨P, pa, pc, rfl, hP, hT, hR, d1⟩
    have D1 := hide ((unhide B3).trans (d1.mono (unhide B3).size))
    have R1 := hide hR
    have HO := hide (show ∀ i, i < P.length → (gt textK P i).size ≤ 1048576 from fun i hi => by have := hT _ (gt_mem textK P i hi); omega)
    have hcs : (cat P).size ≤ 1048576 := by have := cat_bd P hT; omega
    clear d1 hR hT B3 HDF
    go_wp2_with fail
    refine (implFC P pa pc _ (by omega) (unhide HO) (unhide R1)).mono ?_
    rintro e v2 ⟨⟨a2, c2, rfl, R2⟩, d2⟩
    have D2 := hide ((unhide D1).trans (d2.mono (unhide D1).size))
    have R3 := hide ((unhide R1).below d2)
    clear d2 R2 D1 R1
    go_wp2_with fail
    refine (specFC P pa pc _ (by omega) (unhide HO) (unhide R3)).mono ?_
    rintro e v3 ⟨⟨a3, c3, rfl, R4⟩, d3⟩
    have D3 := hide ((unhide D2).trans (d3.mono (unhide D2).size))
    have RP := hide ((unhide R3).below d3)
    clear d3 R4 D2 R3 HO
    have HK := hide (fun L n (h : feed P = some (L, n)) => feed_read h)
    have HR := hide (fun W => implRC (cat P) W hcs)
    generalize feed P = o at *
    cases o with
    | none =>
      clear HK HR RP
      dsimp only [Option.getD, Option.isSome]
      go_wp2
      go_ret
      exact ⟨rfl, unhide D3⟩
    | some x =>
      obtain ⟨LA, n⟩ := x
      obtain ⟨t, ht, htn⟩ := unhide HK LA n rfl
      rw [ht] at HR
      clear ht HK
      dsimp only [Option.getD, Option.isSome]
      go_wp2_with fail
      go_loopw [23, 140] (fun sv iv wr => ∃ k : Nat, k ≤ P.length ∧ iv = .int .i64 k ∧ sv = .string (cat (P.take k)) ∧ wr = v3) (fun _ iv _ => P.length - (intOf iv).toNat)
      case atStart => exact ⟨0, Nat.zero_le _, rfl, rfl, rfl⟩
      case round =>
        obtain ⟨k, hk, rfl, rfl, rfl⟩ := hrel
        by_cases hlt : k < P.length
        · rcases (unhide RP) with h9 | ⟨b, o, rfl, _, hel⟩
          · rw [h9] at hlt; exact absurd hlt (Nat.not_lt_zero _)
          have c0 := text_r0 hel hlt
          have hC := hide (cat_take hlt)
          have hst : (cat (P.take k)).size + (gt textK P k).size ≤ 1048576 := by
            have h1 := cat_in (P := P) (k := k + 1) hlt
            rw [cat_take hlt, ByteArray.size_append] at h1
            omega
          have hnk : (k : Int) < (P.length : Int) := by omega
          have hk0 : (0 : Int) ≤ (k : Int) := by omega
          clear hel HR D3 htn
          generalize gt textK P k = t at *
          generalize cat (P.take k) = s at *
          go_wp2
          exact ⟨⟨k + 1, by omega, by go_num, by rw [unhide hC], by trivial⟩, by simp [intOf]; omega⟩
        · obtain rfl : k = P.length := by omega
          rw [List.take_length]
          generalize cat P = all at *
          go_wp2_with fail
          refine (unhide HR _).mono ?_
          rintro e v4 ⟨⟨a4, c4, rfl, R5⟩, d4⟩
          have D4 := hide ((unhide D3).trans (d4.mono (unhide D3).size))
          have wt : IntKind.i64.wrap ((t : Int) + (n : Int)) = (all.size : Int) := by rw [wraps_i64 _ (by omega) (by omega)]; omega
          clear d4 R5 HR D3 RP htn
          dsimp only [Option.getD, Option.isSome]
          go_wp2
          go_ret
          exact ⟨rfl, unhide D4⟩
  | true =>
    by_cases hs : s.size ≤ 1500
    · have hs' : (s.size : Int) ≤ 1500 := by omega
      have hE := unhide HRB rfl hs
      rw [hE] at HIR
      clear hE HRB HO
      go_wp2_with fail
      refine (unhide HIR _).mono ?_
      rintro e w4 ⟨⟨ma, mc, rfl, R4⟩, b4⟩
      have RM := hide (ro_rd R4)
      have B4 := hide ((unhide B3).trans (b4.mono (unhide B3).size))
      have RL := hide ((unhide R3).below b4)
      clear b4 R4 R3 B3 HIR
      dsimp only [Option.getD, Option.isSome] at RM ⊢
      go_wp2_with fail
      go_loopw [84] (fun x wr => ∃ k : Nat, k ≤ L.length ∧ x = .int .i64 k ∧ Hid (Below w4.heap.size w4 wr)) (fun x _ => L.length - (intOf x).toNat)
      case atStart => exact ⟨0, Nat.zero_le _, rfl, Below.refl _ _⟩
      case round =>
        obtain ⟨k, hk, rfl, HB⟩ := hrel
        by_cases hlt : k < L.length
        · rcases (unhide RM).below (unhide HB) with h0 | ⟨b, o, rfl, _, hel⟩
          · rw [h0] at hlt; exact absurd hlt (Nat.not_lt_zero _)
          rcases (unhide RL).below (unhide HB) with h0 | ⟨b', o', rfl, _, hel'⟩
          · rw [h0] at hlt; exact absurd hlt (Nat.not_lt_zero _)
          have x0 := capsule_r0 hel hlt
          have x1 := capsule_r1 hel hlt
          have x2 := capsule_r0 hel' hlt
          have x3 := capsule_r1 hel' hlt
          clear hel hel'
          have hI2 : (k : Int) < (L.length : Int) := by omega
          have hI3 : (0 : Int) ≤ (k : Int) := by omega
          have HBN := hide (fun n => below_drewN (unhide HB) n)
          generalize gt capsuleK L k = D at *
          obtain ⟨kd, dt⟩ := D
          dsimp only at x0 x1 x2 x3
          go_wp2_with fail
          go_quiet (fail)
          all_goals
            go_wp2
            exact ⟨⟨k + 1, by omega, by go_num, unhide HBN _⟩, by simp [intOf]; omega⟩
        · obtain rfl : k = L.length := by omega
          have B5 := hide ((unhide B4).trans ((unhide HB).mono (unhide B4).size))
          have R5 := hide ((unhide RL).below (unhide HB))
          clear HB B4 RL RM
          go_wp2_with fail
          refine (unhide HIK _ (unhide R5)).mono ?_
          rintro e w6 ⟨⟨ka, kc, rfl, R6⟩, b6⟩
          have B6 := hide ((unhide B5).trans (b6.mono (unhide B5).size))
          have hkn' : ¬ (L.length : Int) < (KN.length : Int) := by omega
          clear b6 R6 B5 R5 HIK
          go_wp2_with fail
          refine (unhide HDF _ (unhide B6)).mono ?_
          rintro e v1 ⟨P, pa, pc, rfl, hP, hT, hR, d1⟩
          have D1 := hide ((unhide B6).trans (d1.mono (unhide B6).size))
          have R1 := hide hR
          have HO := hide (show ∀ i, i < P.length → (gt textK P i).size ≤ 1048576 from fun i hi => by have := hT _ (gt_mem textK P i hi); omega)
          have hcs : (cat P).size ≤ 1048576 := by have := cat_bd P hT; omega
          clear d1 hR hT B6 HDF
          go_wp2_with fail
          refine (implFC P pa pc _ (by omega) (unhide HO) (unhide R1)).mono ?_
          rintro e v2 ⟨⟨a2, c2, rfl, R2⟩, d2⟩
          have D2 := hide ((unhide D1).trans (d2.mono (unhide D1).size))
          have R3 := hide ((unhide R1).below d2)
          clear d2 R2 D1 R1
          go_wp2_with fail
          refine (specFC P pa pc _ (by omega) (unhide HO) (unhide R3)).mono ?_
          rintro e v3 ⟨⟨a3, c3, rfl, R4⟩, d3⟩
          have D3 := hide ((unhide D2).trans (d3.mono (unhide D2).size))
          have RP := hide ((unhide R3).below d3)
          clear d3 R4 D2 R3 HO
          have HK := hide (fun L n (h : feed P = some (L, n)) => feed_read h)
          have HR := hide (fun W => implRC (cat P) W hcs)
          generalize feed P = o at *
          cases o with
          | none =>
            clear HK HR RP
            dsimp only [Option.getD, Option.isSome]
            go_wp2
            go_ret
            exact ⟨rfl, unhide D3⟩
          | some x =>
            obtain ⟨LA, n⟩ := x
            obtain ⟨t, ht, htn⟩ := unhide HK LA n rfl
            rw [ht] at HR
            clear ht HK
            dsimp only [Option.getD, Option.isSome]
            go_wp2_with fail
            go_loopw [23, 140] (fun sv iv wr => ∃ k : Nat, k ≤ P.length ∧ iv = .int .i64 k ∧ sv = .string (cat (P.take k)) ∧ wr = v3) (fun _ iv _ => P.length - (intOf iv).toNat)
            case atStart => exact ⟨0, Nat.zero_le _, rfl, rfl, rfl⟩
            case round =>
              obtain ⟨k, hk, rfl, rfl, rfl⟩ := hrel
              by_cases hlt : k < P.length
              · rcases (unhide RP) with h9 | ⟨b, o, rfl, _, hel⟩
                · rw [h9] at hlt; exact absurd hlt (Nat.not_lt_zero _)
                have c0 := text_r0 hel hlt
                have hC := hide (cat_take hlt)
                have hst : (cat (P.take k)).size + (gt textK P k).size ≤ 1048576 := by
                  have h1 := cat_in (P := P) (k := k + 1) hlt
                  rw [cat_take hlt, ByteArray.size_append] at h1
                  omega
                have hnk : (k : Int) < (P.length : Int) := by omega
                have hk0 : (0 : Int) ≤ (k : Int) := by omega
                clear hel HR D3 htn
                generalize gt textK P k = t at *
                generalize cat (P.take k) = s at *
                go_wp2
                exact ⟨⟨k + 1, by omega, by go_num, by rw [unhide hC], by trivial⟩, by simp [intOf]; omega⟩
              · obtain rfl : k = P.length := by omega
                rw [List.take_length]
                generalize cat P = all at *
                go_wp2_with fail
                refine (unhide HR _).mono ?_
                rintro e v4 ⟨⟨a4, c4, rfl, R5⟩, d4⟩
                have D4 := hide ((unhide D3).trans (d4.mono (unhide D3).size))
                have wt : IntKind.i64.wrap ((t : Int) + (n : Int)) = (all.size : Int) := by rw [wraps_i64 _ (by omega) (by omega)]; omega
                clear d4 R5 HR D3 RP htn
                dsimp only [Option.getD, Option.isSome]
                go_wp2
                go_ret
                exact ⟨rfl, unhide D4⟩
    · have hs' : ¬ (s.size : Int) ≤ 1500 := by omega
      clear HRB HIR HIK R3 HO
      go_wp2_with fail
      refine (unhide HDF _ (unhide B3)).mono ?_
      rintro e v1 ⟨P, pa, pc, rfl, hP, hT, hR, d1⟩
      have D1 := hide ((unhide B3).trans (d1.mono (unhide B3).size))
      have R1 := hide hR
      have HO := hide (show ∀ i, i < P.length → (gt textK P i).size ≤ 1048576 from fun i hi => by have := hT _ (gt_mem textK P i hi); omega)
      have hcs : (cat P).size ≤ 1048576 := by have := cat_bd P hT; omega
      clear d1 hR hT B3 HDF
      go_wp2_with fail
      refine (implFC P pa pc _ (by omega) (unhide HO) (unhide R1)).mono ?_
      rintro e v2 ⟨⟨a2, c2, rfl, R2⟩, d2⟩
      have D2 := hide ((unhide D1).trans (d2.mono (unhide D1).size))
      have R3 := hide ((unhide R1).below d2)
      clear d2 R2 D1 R1
      go_wp2_with fail
      refine (specFC P pa pc _ (by omega) (unhide HO) (unhide R3)).mono ?_
      rintro e v3 ⟨⟨a3, c3, rfl, R4⟩, d3⟩
      have D3 := hide ((unhide D2).trans (d3.mono (unhide D2).size))
      have RP := hide ((unhide R3).below d3)
      clear d3 R4 D2 R3 HO
      have HK := hide (fun L n (h : feed P = some (L, n)) => feed_read h)
      have HR := hide (fun W => implRC (cat P) W hcs)
      generalize feed P = o at *
      cases o with
      | none =>
        clear HK HR RP
        dsimp only [Option.getD, Option.isSome]
        go_wp2
        go_ret
        exact ⟨rfl, unhide D3⟩
      | some x =>
        obtain ⟨LA, n⟩ := x
        obtain ⟨t, ht, htn⟩ := unhide HK LA n rfl
        rw [ht] at HR
        clear ht HK
        dsimp only [Option.getD, Option.isSome]
        go_wp2_with fail
        go_loopw [23, 140] (fun sv iv wr => ∃ k : Nat, k ≤ P.length ∧ iv = .int .i64 k ∧ sv = .string (cat (P.take k)) ∧ wr = v3) (fun _ iv _ => P.length - (intOf iv).toNat)
        case atStart => exact ⟨0, Nat.zero_le _, rfl, rfl, rfl⟩
        case round =>
          obtain ⟨k, hk, rfl, rfl, rfl⟩ := hrel
          by_cases hlt : k < P.length
          · rcases (unhide RP) with h9 | ⟨b, o, rfl, _, hel⟩
            · rw [h9] at hlt; exact absurd hlt (Nat.not_lt_zero _)
            have c0 := text_r0 hel hlt
            have hC := hide (cat_take hlt)
            have hst : (cat (P.take k)).size + (gt textK P k).size ≤ 1048576 := by
              have h1 := cat_in (P := P) (k := k + 1) hlt
              rw [cat_take hlt, ByteArray.size_append] at h1
              omega
            have hnk : (k : Int) < (P.length : Int) := by omega
            have hk0 : (0 : Int) ≤ (k : Int) := by omega
            clear hel HR D3 htn
            generalize gt textK P k = t at *
            generalize cat (P.take k) = s at *
            go_wp2
            exact ⟨⟨k + 1, by omega, by go_num, by rw [unhide hC], by trivial⟩, by simp [intOf]; omega⟩
          · obtain rfl : k = P.length := by omega
            rw [List.take_length]
            generalize cat P = all at *
            go_wp2_with fail
            refine (unhide HR _).mono ?_
            rintro e v4 ⟨⟨a4, c4, rfl, R5⟩, d4⟩
            have D4 := hide ((unhide D3).trans (d4.mono (unhide D3).size))
            have wt : IntKind.i64.wrap ((t : Int) + (n : Int)) = (all.size : Int) := by rw [wraps_i64 _ (by omega) (by omega)]; omega
            clear d4 R5 HR D3 RP htn
            dsimp only [Option.getD, Option.isSome]
            go_wp2
            go_ret
            exact ⟨rfl, unhide D4⟩
theorem walk (a0 : Option Addr) (n0 c0 : Nat) (a1 : Option Addr) (n1 c1 : Nat) (w : World) (hN0 : n0 ≤ 140737488355328) (hN1 : n1 ≤ 140737488355328) (hC0 : Dr.Cd w a0 n0) (hC1 : Dr.Cd w a1 n1) (hz : Tz w) :
    Calls Tryd.prog 3 #[.slice a0 n0 c0, .slice a1 n1 c1] w fun e w' => e = .returned (.bool true) ∧ Below w.heap.size w w' := by
  by_cases h : (1048576 : Int) < (n0 : Int) + (n1 : Int)
  · clear hC0 hC1
    go_enter Tryd.func3, Tryd.ntmps3
    go_wp2
    go_ret
    exact ⟨rfl, Below.refl _ _⟩
  · exact walk_small a0 n0 c0 a1 n1 c1 w (by omega) hC0 hC1 hz
end Go.Proofs.YtgieglpjkjncfabDoor.fnCapsules
