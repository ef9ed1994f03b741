/-
  The law on acknowledgements, walked.
-/
import Derived.Test.YtccfbkpelehldaaDta
import Derived.Test.YtccfbkpelehldaaAkp
import Derived.Test.YtccfbkpelehldaaTakeAckI
import Derived.Test.YtccfbkpelehldaaGoodSpaceI
import Derived.Laws.StructEq
namespace Go.Proofs.Ytccfbkpelehldaa.fnAcked
open Go.ChangeShapes Go.WideShapes Go.ChangeAt Go.RowKit Go.Deep Rc
set_option linter.unusedVariables false
set_option maxRecDepth 100000

theorem ctI_take {A : List Int} {j : Nat} (n : Int) (h : j < A.length) : ctI n (A.take (j + 1)) = ctI n (A.take j) + (if gt intK A j = n then 1 else 0) := by
  unfold ctI
  rw [gt_of intK A j h, ← List.take_append_getElem h, List.countP_append, List.countP_singleton]
  simp only [decide_eq_true_eq]
theorem ctI_le (n : Int) (A : List Int) : ctI n A ≤ A.length := List.countP_le_length
theorem ctI_lt (n : Int) (A : List Int) (j : Nat) : ctI n (A.take j) ≤ A.length := Nat.le_trans (ctI_le n _) (List.length_take_le' j A)
theorem ctS_take {S : List SentD} {j : Nat} (x : SentD) (h : j < S.length) : ctS x (S.take (j + 1)) = ctS x (S.take j) + (if (gt sentK S j).f0 = x.f0 ∧ (gt sentK S j).f1 = x.f1 ∧ (gt sentK S j).f2 = x.f2 then 1 else 0) := by
  unfold ctS
  rw [gt_of sentK S j h, ← List.take_append_getElem h, List.countP_append, List.countP_singleton]
  simp only [decide_eq_true_eq]
theorem ctS_lt (x : SentD) (S : List SentD) (j : Nat) : ctS x (S.take j) ≤ S.length := Nat.le_trans List.countP_le_length (List.length_take_le' j S)
theorem gtI_mem {A : List Int} {j : Nat} (h : j < A.length) : gt intK A j ∈ A := gt_mem intK A j h
set_option maxHeartbeats 1000000 in
theorem sameN_same (a a' : Option Addr) (cap cap' : Nat) (L : List Int) (w : World) (hN : L.length ≤ 1048576) (h : Rd intK w a L) (h' : Rd intK w a' L) :
    Calls Try.prog 7 #[.slice a L.length cap, .slice a' L.length cap'] w fun e w' => e = .returned (.bool true) ∧ Below w.heap.size w w' := by
  have HR := hide h
  have HR' := hide h'
  clear h h'
  go_enter Try.func7, Try.ntmps7
  go_wp2
  go_loopw [13] (fun i wr => ∃ k : Nat, k ≤ L.length ∧ i = .int .i64 k ∧ Below w.heap.size w wr) (fun i _ => L.length - (intOf i).toNat)
  case atStart => exact ⟨0, Nat.zero_le _, rfl, Below.refl _ _⟩
  case round =>
    obtain ⟨k, hk, rfl, hbel⟩ := hrel
    by_cases hlt : k < L.length
    · rcases (unhide HR).below hbel with h0 | ⟨b, o, rfl, _, hel⟩
      · rw [h0] at hlt; exact absurd hlt (Nat.not_lt_zero _)
      rcases (unhide HR').below hbel with h0 | ⟨b', o', rfl, _, hel'⟩
      · rw [h0] at hlt; exact absurd hlt (Nat.not_lt_zero _)
      have c0 := int_r hel hlt
      have d0 := int_r hel' hlt
      have hnk : (k : Int) < (L.length : Int) := by omega
      have hk0 : (0 : Int) ≤ (k : Int) := by omega
      clear hel hel'
      go_wp2_with fail
      go_quiet (fail)
      all_goals
        go_wp2
        exact ⟨⟨k + 1, by omega, by go_num, below_drewN hbel _⟩, by simp [intOf]; omega⟩
    · go_wp2
      go_ret
      exact ⟨rfl, hbel⟩
set_option maxHeartbeats 8000000 in
theorem walk_small (a0 : Option Addr) (n0 c0 : Nat) (w : World) (h : n0 ≤ 1048576) (hC0 : Cd w a0 n0) :
    Calls Try.prog 3 #[.slice a0 n0 c0] w fun e w' => e = .returned (.bool true) ∧ Below w.heap.size w w' := by
  have g0 : ¬ (1048576 : Int) < (n0 : Int) := by omega
  have HC0 := hide hC0
  clear hC0
  go_enter Try.func3, Try.ntmps3
  go_wp2_with fail
  refine (drawTA_any a0 n0 c0 _ (by omega) (unhide HC0)).mono ?_
  rintro e w1 ⟨D, aS, cS, aL, cL, L, now, de, rfl, ⟨hD, hDc, hL, hB⟩, rS, rL, b1⟩
  obtain ⟨V1, hV1⟩ : ∃ V, V = w1.alloc (.cells #[.int .i64 D.lg, .slice aS D.S.length cS, .bool D.r.kn, .int .i64 D.r.la, .int .i64 D.r.mi, .int .i64 D.r.sm, .int .i64 D.r.va] 27) := ⟨_, rfl⟩
  have AL : Below w1.heap.size w1 V1 := by rw [hV1]; exact (Below.refl _ _).alloc (Nat.le_refl _) _
  have X1 := hide (show Bx V1 w1.heap.size (spaceC D aS cS) by rw [hV1]; exact Bx.new w1 _ _)
  have RS := hide (rS.below AL)
  have RL := hide (rL.below AL)
  have B1 := hide (b1.trans (AL.mono b1.size))
  have s1 := b1.size
  have sX1 : w1.heap.size < V1.heap.size := (unhide X1).lt
  have HV1 := hide hV1
  have HO := hide (mem_rgO hB)
  have HI := hide (fun W h h' => implTAc D L now de (by omega) (by omega) (unhide HO) W aS cS hDc aL cL h h')
  have HS := hide (fun W h h' => specTA D L now de (by omega) (by omega) (unhide HO) W aS cS aL cL h h')
  clear hV1 AL b1 rS rL HC0 hB
  go_upto_region 4 with fail
  rw [← unhide HV1]
  have x1 := (unhide X1).cv
  have x1l := (unhide X1).lt
  clear HV1
  go_wp2_with fail
  refine (unhide HI _ (unhide RS) (unhide RL)).mono ?_
  rintro e w2 ⟨aE, cE, aA, cA, aO, cO, gE, gA, gO, rfl, hEc, rE, rA, rO, _, _, _, b2⟩
  have HE : Hid ((taD D L now de (taB D L now de)).S.length ≤ cE) := hEc
  have rE := rE.rd
  have rA := rA.rd
  have rO := rO.rd
  have HF : Hid (taB D L now de = true → gsB (taD D L now de (taB D L now de)) = true ∧
      (taA D L (taB D L now de)).length + (taL D L now de (taB D L now de)).length + (taD D L now de (taB D L now de)).S.length = D.S.length ∧
      (∀ x, x ∈ D.S → ctI x.f0 (taA D L (taB D L now de)) + ctI x.f0 (taL D L now de (taB D L now de)) + ctS x (taD D L now de (taB D L now de)).S = 1) ∧
      (∀ n, n ∈ taA D L (taB D L now de) → hnB L n = true) ∧ (∀ n, n ∈ taL D L now de (taB D L now de) → n < (taD D L now de (taB D L now de)).lg) ∧
      (taB (taD D L now de (taB D L now de)) L now de = true ∧ taA (taD D L now de (taB D L now de)) L true = [] ∧ taL (taD D L now de (taB D L now de)) L now de true = [] ∧ (taD (taD D L now de (taB D L now de)) L now de true).S.length = (taD D L now de (taB D L now de)).S.length)) :=
    fun h => ⟨ta_good h, ta_len h, fun x hx => ta_many h hx, fun n hn => ta_has h hn, fun n hn => ta_low h hn, ta_again h, ta_again_A h, ta_again_L h, ta_again_S h⟩
  have HN0 : Hid (taB D L now de = false → taA D L (taB D L now de) = [] ∧ taL D L now de (taB D L now de) = []) := fun h => by rw [h]; exact ⟨rfl, rfl⟩
  have hE20 : Hid ((taD D L now de (taB D L now de)).S.length ≤ 20) := Nat.le_trans (ta_le D L now de _) hD
  unfold TAP at HS
  obtain ⟨E, hEE⟩ : ∃ E, taD D L now de (taB D L now de) = E := ⟨_, rfl⟩
  obtain ⟨A, hAA⟩ : ∃ A, taA D L (taB D L now de) = A := ⟨_, rfl⟩
  obtain ⟨O, hOO⟩ : ∃ O, taL D L now de (taB D L now de) = O := ⟨_, rfl⟩
  obtain ⟨r, hrr⟩ : ∃ r, taB D L now de = r := ⟨_, rfl⟩
  rw [hEE, hAA, hOO, hrr] at HS HF ⊢
  rw [hEE] at HE rE hE20
  rw [hAA] at rA
  rw [hOO] at rO
  rw [hAA, hOO, hrr] at HN0
  have hA20 : A.length ≤ 1048576 := by
    cases r with
    | false => rw [(unhide HN0 rfl).1]; exact Nat.zero_le _
    | true => have := (unhide HF rfl).2.1; omega
  have hO20 : O.length ≤ 1048576 := by
    cases r with
    | false => rw [(unhide HN0 rfl).2]; exact Nat.zero_le _
    | true => have := (unhide HF rfl).2.1; omega
  obtain ⟨V2, hV2⟩ : ∃ V, V = w2.alloc (.cells #[.int .i64 E.lg, .slice aE E.S.length cE, .bool E.r.kn, .int .i64 E.r.la, .int .i64 E.r.mi, .int .i64 E.r.sm, .int .i64 E.r.va] 27) := ⟨_, rfl⟩
  have AL : Below w2.heap.size w2 V2 := by rw [hV2]; exact (Below.refl _ _).alloc (Nat.le_refl _) _
  have bV := b2.trans (AL.mono b2.size)
  replace X1 := hide ((unhide X1).below bV)
  have Y2 := hide (show Bx V2 w2.heap.size (spaceC E aE cE) by rw [hV2]; exact Bx.new w2 _ _)
  replace RS := hide ((unhide RS).below bV)
  replace RL := hide ((unhide RL).below bV)
  have RE := hide (rE.below AL)
  have RA := hide (rA.below AL)
  have RO := hide (rO.below AL)
  replace B1 := hide ((unhide B1).trans (bV.mono (unhide B1).size))
  have s2 : w1.heap.size < w2.heap.size := Nat.lt_of_lt_of_le sX1 b2.size
  have sY2 : w2.heap.size < V2.heap.size := (unhide Y2).lt
  have HV2 := hide hV2
  clear hV2 AL bV b2 rE rA rO HI x1 x1l hEc sX1
  go_upto_region 5 with fail
  rw [← unhide HV2]
  have x1 := (unhide X1).cv
  have x1l := (unhide X1).lt
  clear HV2
  go_wp2_with fail
  refine (unhide HS _ (unhide RS) (unhide RL)).mono ?_
  rintro e w3 ⟨bE, dE, bA, dA, bO, dO, fE, fA, fO, rfl, rE, rA, rO, _, _, _, b3⟩
  have rA := rA.rd
  have rO := rO.rd
  obtain ⟨V3, hV3⟩ : ∃ V, V = w3.alloc (.cells #[.int .i64 E.lg, .slice bE E.S.length dE, .bool E.r.kn, .int .i64 E.r.la, .int .i64 E.r.mi, .int .i64 E.r.sm, .int .i64 E.r.va] 27) := ⟨_, rfl⟩
  have AL : Below w3.heap.size w3 V3 := by rw [hV3]; exact (Below.refl _ _).alloc (Nat.le_refl _) _
  have bV := b3.trans (AL.mono b3.size)
  replace X1 := hide ((unhide X1).below bV)
  replace Y2 := hide ((unhide Y2).below bV)
  replace RS := hide ((unhide RS).below bV)
  replace RL := hide ((unhide RL).below bV)
  replace RE := hide ((unhide RE).below bV)
  replace RA := hide ((unhide RA).below bV)
  replace RO := hide ((unhide RO).below bV)
  have PA := hide (fun W (b : Below V3.heap.size V3 W) => sameN_same aA bA cA dA A W hA20 ((unhide RA).below b) ((rA.below AL).below b))
  have PO := hide (fun W (b : Below V3.heap.size V3 W) => sameN_same aO bO cO dO O W hO20 ((unhide RO).below b) ((rO.below AL).below b))
  replace B1 := hide ((unhide B1).trans (bV.mono (unhide B1).size))
  have s3 : w2.heap.size < w3.heap.size := Nat.lt_of_lt_of_le sY2 b3.size
  have sV3 : w3.heap.size ≤ V3.heap.size := AL.size
  have HV3 := hide hV3
  clear hV3 AL bV b3 rE rA rO HS x1 x1l sY2
  go_upto_region 6 with fail
  rw [← unhide HV3]
  clear HV3
  cases r with
  | false =>
    obtain ⟨rfl, rfl⟩ := unhide HN0 rfl
    go_wp2_with fail
    refine (unhide PA _ (Below.refl _ _)).mono ?_
    rintro e w4 ⟨rfl, b4⟩
    go_wp2_with fail
    refine (unhide PO _ b4).mono ?_
    rintro e w5 ⟨rfl, b5⟩
    have B5 := hide ((unhide B1).trans ((b4.trans (b5.mono b4.size)).mono (unhide B1).size))
    clear b4 b5
    go_wp2
    go_ret
    exact ⟨rfl, unhide B5⟩
  | true =>
    obtain ⟨G1, G2, G3, G4, G5, G6, G7, G8, G9⟩ := unhide HF rfl
    have HE20 := unhide hE20
    have F3 := hide G3
    have F4 := hide G4
    have F5 := hide G5
    have HI := hide (fun W h h' => implTAc E L now de (by omega) (by omega) (unhide HO) W aE cE (unhide HE) aL cL h h')
    unfold TAPc at HI
    rw [G6, G7, G8, G9] at HI
    have HG := hide (fun W h => implGS E (by omega) W aE cE (unhide HE) h)
    rw [G1] at HG
    have HH := hide (fun (n : Int) W h => specHN L n (by omega) (unhide HO) W aL cL h)
    have H9 := hide G9
    generalize taD E L now de true = E9 at *
    clear G1 G3 G4 G5 G6 G7 G8 G9 HF HN0 hE20
    go_wp2_with fail
    refine (unhide PA _ (Below.refl _ _)).mono ?_
    rintro e w4 ⟨rfl, b4⟩
    go_wp2_with fail
    refine (unhide PO _ b4).mono ?_
    rintro e w5 ⟨rfl, b5⟩
    have b45 := b4.trans (b5.mono b4.size)
    have C5 := hide b45
    have hlen : ((A.length : Int) + (O.length : Int) + (E.S.length : Int)) = (D.S.length : Int) := by omega
    have hA20' : A.length ≤ 20 := by omega
    have hO20' : O.length ≤ 20 := by omega
    clear b4 b5 PA PO hA20 hO20 b45
    go_upto_region 10 with fail
    have y2 := ((unhide Y2).below (unhide C5)).cv
    have y2l := ((unhide Y2).below (unhide C5)).lt
    go_wp2_with fail
    refine (unhide HG _ ((unhide RE).below (unhide C5))).mono ?_
    rintro e w6 ⟨rfl, b6⟩
    have C6 := hide ((unhide C5).trans (b6.mono (unhide C5).size))
    clear b6 C5 y2 y2l HG
    have x1 := ((unhide X1).below (unhide C6)).cv
    have x1l := ((unhide X1).below (unhide C6)).lt
    have y2 := ((unhide Y2).below (unhide C6)).cv
    have y2l := ((unhide Y2).below (unhide C6)).lt
    have hl1 : IntKind.i64.wrap ((A.length : Int) + (O.length : Int)) = (A.length : Int) + (O.length : Int) := by rw [IntKind.wrap_i64]; omega
    go_upto_region 12 with fail
    go_wp2_with fail
    clear x1 x1l y2 y2l hl1
    go_loopw [101] (fun iv wr => ∃ k : Nat, k ≤ D.S.length ∧ iv = .int .i64 k ∧ Hid (Below V3.heap.size V3 wr)) (fun iv _ => D.S.length - (intOf iv).toNat)
    case atStart => exact ⟨0, Nat.zero_le _, rfl, C6⟩
    case round =>
      obtain ⟨k, hk, rfl, CR⟩ := hrel
      clear C6
      have szr := (unhide CR).size
      by_cases hlt : k < D.S.length
      · rcases (unhide RS).below (unhide CR) with h9 | ⟨b, o, rfl, _, hel⟩
        · rw [h9] at hlt; exact absurd hlt (Nat.not_lt_zero _)
        have p0 := sent_r0 hel hlt
        have p1 := sent_r1 hel hlt
        have p2 := sent_r2 hel hlt
        have F3' := hide (unhide F3 _ (gt_mem sentK D.S k hlt))
        generalize gt sentK D.S k = x at *
        obtain ⟨W1, hW1⟩ : ∃ V, V = wr.alloc (.cells #[.int .i64 x.f0, .int .i64 x.f1, .int .i64 x.f2] 37) := ⟨_, rfl⟩
        have hAl : Below wr.heap.size wr W1 := by rw [hW1]; exact (Below.refl _ _).alloc (Nat.le_refl _) _
        have P1 := hide (show Bx W1 wr.heap.size (sentC x) by rw [hW1]; exact Bx.new wr _ _)
        have C1 := hide ((unhide CR).trans (hAl.mono szr))
        have HW1 := hide hW1
        have hnk : (k : Int) < (D.S.length : Int) := by omega
        have hk0 : (0 : Int) ≤ (k : Int) := by omega
        clear hAl hW1 hel CR
        obtain ⟨pb, hpb⟩ : ∃ p, p = wr.heap.size := ⟨_, rfl⟩
        rw [← hpb] at P1
        go_upto_region 15 with fail
        rw [← unhide HW1, ← hpb]
        clear HW1 p0 p1 p2 hpb szr
        go_wp2_with fail
        go_loopw [17, 107] (fun v17 iv wr => ∃ j : Nat, j ≤ A.length ∧ v17 = .int .i64 (ctI x.f0 (A.take j) : Nat) ∧ iv = .int .i64 j ∧ Hid (Below V3.heap.size V3 wr) ∧ Hid (Below W1.heap.size W1 wr)) (fun _ iv _ => A.length - (intOf iv).toNat)
        case atStart => exact ⟨0, Nat.zero_le _, rfl, rfl, C1, hide (Below.refl _ _)⟩
        case round =>
          obtain ⟨j, hj, rfl, rfl, CR, DR⟩ := hrel
          by_cases hlj : j < A.length
          · rcases (unhide RA).below (unhide CR) with h9 | ⟨bq, oq, rfl, _, hel⟩
            · rw [h9] at hlj; exact absurd hlj (Nat.not_lt_zero _)
            have q0 := int_r hel hlj
            have px := ((unhide P1).below (unhide DR)).cv
            have pxl := ((unhide P1).below (unhide DR)).lt
            have hnj : (j : Int) < (A.length : Int) := by omega
            have hj0 : (0 : Int) ≤ (j : Int) := by omega
            have ct := ctI_take x.f0 hlj
            have cl := ctI_lt x.f0 A j
            have f4 := unhide F4 _ (gtI_mem hlj)
            have HQ := hide (unhide HH (gt intK A j) _ ((unhide RL).below (unhide CR)))
            rw [f4] at HQ
            generalize gt intK A j = n at *
            generalize ctI x.f0 (A.take j) = cn at *
            clear hel f4
            by_cases he : n = x.f0
            · rw [if_pos he] at ct
              have te : (n == x.f0) = true := beq_iff_eq.2 he
              have hcn : IntKind.i64.wrap ((cn : Int) + 1) = ((cn + 1 : Nat) : Int) := by rw [IntKind.wrap_i64]; omega
              have CT := hide ct
              clear ct he
              go_wp2_with fail
              refine (unhide HQ).mono ?_
              rintro e w7 ⟨rfl, b7⟩
              have CR' := hide ((unhide CR).trans (b7.mono (unhide CR).size))
              have DR' := hide ((unhide DR).trans (b7.mono (unhide DR).size))
              clear b7 q0 px pxl HQ CR DR
              go_wp2
              exact ⟨⟨j + 1, by omega, by rw [unhide CT]; rfl, by go_num, CR', DR'⟩, by simp [intOf]; omega⟩
            · rw [if_neg he] at ct
              have te : (n == x.f0) = false := beq_eq_false_iff_ne.2 he
              have CT := hide ct
              clear ct HQ
              go_wp2
              exact ⟨⟨j + 1, by omega, by rw [unhide CT]; rfl, by go_num, CR, DR⟩, by simp [intOf]; omega⟩
          · obtain rfl : j = A.length := by omega
            rw [List.take_length]
            clear C1 hlj hj
            obtain ⟨W2, hW2⟩ : ∃ V, V = wr := ⟨_, rfl⟩
            rw [← hW2] at CR DR ⊢
            clear hW2
            have cA20 : ctI x.f0 A ≤ 20 := Nat.le_trans (ctI_le _ _) hA20'
            go_upto_region 26 with fail
            generalize hcA : ctI x.f0 A = cA' at *
            go_loopw [17, 128] (fun v17 iv wr => ∃ j : Nat, j ≤ O.length ∧ v17 = .int .i64 (cA' + ctI x.f0 (O.take j) : Nat) ∧ iv = .int .i64 j ∧ Hid (Below V3.heap.size V3 wr) ∧ Hid (Below W1.heap.size W1 wr)) (fun _ iv _ => O.length - (intOf iv).toNat)
            case atStart => exact ⟨0, Nat.zero_le _, rfl, rfl, CR, DR⟩
            case round =>
              obtain ⟨j, hj, rfl, rfl, CR', DR'⟩ := hrel
              clear CR DR
              by_cases hlj : j < O.length
              · rcases (unhide RO).below (unhide CR') with h9 | ⟨bq, oq, rfl, _, hel⟩
                · rw [h9] at hlj; exact absurd hlj (Nat.not_lt_zero _)
                have q0 := int_r hel hlj
                have px := ((unhide P1).below (unhide DR')).cv
                have pxl := ((unhide P1).below (unhide DR')).lt
                have y2 := ((unhide Y2).below (unhide CR')).cv
                have y2l := ((unhide Y2).below (unhide CR')).lt
                have hnj : (j : Int) < (O.length : Int) := by omega
                have hj0 : (0 : Int) ≤ (j : Int) := by omega
                have ct := ctI_take x.f0 hlj
                have cl := ctI_lt x.f0 O j
                have f5 := unhide F5 _ (gtI_mem hlj)
                generalize gt intK O j = n at *
                generalize ctI x.f0 (O.take j) = cn at *
                have f5' : ¬ E.lg ≤ n := by omega
                clear hel f5
                by_cases he : n = x.f0
                · rw [if_pos he] at ct
                  have te : (n == x.f0) = true := beq_iff_eq.2 he
                  have hcn : IntKind.i64.wrap (((cA' + cn : Nat) : Int) + 1) = ((cA' + cn + 1 : Nat) : Int) := by rw [IntKind.wrap_i64]; omega
                  have CT := hide ct
                  clear ct he
                  go_wp2
                  exact ⟨⟨j + 1, by omega, by rw [unhide CT]; rfl, by go_num, CR', DR'⟩, by simp [intOf]; omega⟩
                · rw [if_neg he] at ct
                  have te : (n == x.f0) = false := beq_eq_false_iff_ne.2 he
                  have CT := hide ct
                  clear ct
                  go_wp2
                  exact ⟨⟨j + 1, by omega, by rw [unhide CT]; rfl, by go_num, CR', DR'⟩, by simp [intOf]; omega⟩
              · obtain rfl : j = O.length := by omega
                rw [List.take_length]
                clear hlj hj
                obtain ⟨W3, hW3⟩ : ∃ V, V = wr := ⟨_, rfl⟩
                rw [← hW3] at CR' DR' ⊢
                clear hW3
                have cO20 : ctI x.f0 O ≤ 20 := Nat.le_trans (ctI_le _ _) hO20'
                have F33 := unhide F3'
                generalize hcO : ctI x.f0 O = cO' at *
                have y2 := ((unhide Y2).below (unhide CR')).cv
                have y2l := ((unhide Y2).below (unhide CR')).lt
                go_upto_region 34 with fail
                clear y2 y2l
                go_loopw [17, 146] (fun v17 iv wr => ∃ j : Nat, j ≤ E.S.length ∧ v17 = .int .i64 (cA' + cO' + ctS x (E.S.take j) : Nat) ∧ iv = .int .i64 j ∧ Hid (Below V3.heap.size V3 wr) ∧ Hid (Below W1.heap.size W1 wr)) (fun _ iv _ => E.S.length - (intOf iv).toNat)
                case atStart => exact ⟨0, Nat.zero_le _, rfl, rfl, CR', DR'⟩
                case round =>
                  obtain ⟨j, hj, rfl, rfl, CR, DR⟩ := hrel
                  clear CR' DR'
                  by_cases hlj : j < E.S.length
                  · rcases (unhide RE).below (unhide CR) with h9 | ⟨bq, oq, rfl, _, hel⟩
                    · rw [h9] at hlj; exact absurd hlj (Nat.not_lt_zero _)
                    have q0 := sent_r0 hel hlj
                    have q1 := sent_r1 hel hlj
                    have q2 := sent_r2 hel hlj
                    have px := ((unhide P1).below (unhide DR)).cv
                    have pxl := ((unhide P1).below (unhide DR)).lt
                    have hnj : (j : Int) < (E.S.length : Int) := by omega
                    have hj0 : (0 : Int) ≤ (j : Int) := by omega
                    have ct := ctS_take x hlj
                    have cl := ctS_lt x E.S j
                    generalize gt sentK E.S j = y at *
                    generalize ctS x (E.S.take j) = cn at *
                    obtain ⟨W4, hW4⟩ : ∃ V, V = wr.alloc (.cells #[.int .i64 y.f0, .int .i64 y.f1, .int .i64 y.f2] 37) := ⟨_, rfl⟩
                    have al1 : Below wr.heap.size wr W4 := by rw [hW4]; exact (Below.refl _ _).alloc (Nat.le_refl _) _
                    have qx := (show Bx W4 wr.heap.size (sentC y) by rw [hW4]; exact Bx.new wr _ _).cv
                    have px := ((unhide P1).below ((unhide DR).trans (al1.mono (unhide DR).size))).cv
                    have pxl := ((unhide P1).below (unhide DR)).lt
                    have GC := hide ((unhide CR).trans (al1.mono (unhide CR).size))
                    have GD := hide ((unhide DR).trans (al1.mono (unhide DR).size))
                    have HW4 := hide hW4
                    obtain ⟨pq, hpq⟩ : ∃ p, p = wr.heap.size := ⟨_, rfl⟩
                    rw [← hpq] at qx
                    clear hel al1 CR DR hW4
                    go_upto_region 36 with fail
                    rw [← unhide HW4, ← hpq]
                    clear HW4 hpq q0 q1 q2
                    by_cases he : y.f0 = x.f0 ∧ y.f1 = x.f1 ∧ y.f2 = x.f2
                    · rw [if_pos he] at ct
                      have CT := hide ct
                      obtain ⟨y0, y1, y2⟩ := y
                      obtain ⟨x0, x1, x2⟩ := x
                      obtain ⟨rfl, rfl, rfl⟩ := he
                      dsimp only at *
                      have hcn : IntKind.i64.wrap (((cA' + cO' + cn : Nat) : Int) + 1) = ((cA' + cO' + cn + 1 : Nat) : Int) := by rw [IntKind.wrap_i64]; omega
                      clear ct
                      go_wp2
                      exact ⟨⟨j + 1, by omega, by rw [unhide CT]; rfl, by go_num, GC, GD⟩, by simp [intOf]; omega⟩
                    · rw [if_neg he] at ct
                      have CT := hide ct
                      clear ct
                      go_wp2
                      all_goals first
                        | exact ⟨⟨j + 1, by omega, by rw [unhide CT]; rfl, by go_num, GC, GD⟩, by simp [intOf]; omega⟩
                        | (exfalso; simp_all; done)
                  · obtain rfl : j = E.S.length := by omega
                    rw [List.take_length]
                    clear hlj hj
                    have F34 : cA' + cO' + ctS x E.S = 1 := F33
                    rw [F34]
                    go_wp2
                    exact ⟨⟨k + 1, by omega, by go_num, CR⟩, by simp [intOf]; omega⟩
      · obtain rfl : k = D.S.length := by omega
        have y2 := ((unhide Y2).below (unhide CR)).cv
        have y2l := ((unhide Y2).below (unhide CR)).lt
        have re := (unhide RE).below (unhide CR)
        have rl := (unhide RL).below (unhide CR)
        have CI := hide (unhide HI _ re rl)
        clear re rl hlt hk RS RE RL RA RO X1 HH F3 F4 F5 hlen HI
        go_wp2_with fail
        refine (unhide CI).mono ?_
        rintro e w9 ⟨u0, d0, u1, d1, u2, d2, k0, k1, k2, rfl, _, _, _, _, _, _, _, b9⟩
        have y3 := ((unhide Y2).below ((unhide CR).trans (b9.mono (unhide CR).size))).cv
        have y3l := ((unhide Y2).below ((unhide CR).trans (b9.mono (unhide CR).size))).lt
        have C9 := hide ((unhide CR).trans (b9.mono (unhide CR).size))
        have B9 := hide ((unhide B1).trans ((unhide C9).mono (unhide B1).size))
        clear b9 CI y2 y2l
        go_wp2
        have h9 : (((E9.S.length : Nat) : Int) == (E.S.length : Int)) = true := beq_iff_eq.2 (by rw [unhide H9])
        go_ret
        exact ⟨congrArg (fun b => Ending.returned (Value.bool b)) h9, (unhide B9).alloc (by have := (unhide B9).size; omega) _⟩
theorem walk (a0 : Option Addr) (n0 c0 : Nat) (w : World) (hN0 : n0 ≤ 140737488355328) (hC0 : Cd w a0 n0) :
    Calls Try.prog 3 #[.slice a0 n0 c0] w fun e w' => e = .returned (.bool true) ∧ Below w.heap.size w w' := by
  by_cases h : (1048576 : Int) < (n0 : Int)
  · clear hC0
    go_enter Try.func3, Try.ntmps3
    go_wp2
    go_ret
    exact ⟨rfl, Below.refl _ _⟩
  · exact walk_small a0 n0 c0 w (by omega) hC0
end Go.Proofs.Ytccfbkpelehldaa.fnAcked
