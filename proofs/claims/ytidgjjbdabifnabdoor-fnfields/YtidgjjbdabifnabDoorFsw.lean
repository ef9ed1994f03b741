/-
  Contracts of the program: the bytes of a field, of fields.
-/
import Derived.Test.YtidgjjbdabifnabDoorFsv
import Derived.Test.YtidgjjbdabifnabDoorFph
namespace Go.Proofs.YtidgjjbdabifnabDoor.Rc
open Go.ChangeShapes Go.WideShapes Go.ChangeAt Go.RowKit Go.Deep
set_option linter.unusedVariables false
set_option maxRecDepth 100000

theorem wpl_txt {P : Program} {ops : Array Oper} {rest : List Oper} {o : Oper} {a : Act} {w : World} {Q : Exit → Act → World → Prop} (hg : o.guard = none) (d x : Operand) (t u : TypeId)
    (hop : o.op = Op.call { callee := Callee.builtin Builtin.append, args := #[d, x], argTypes := #[t, u] }) (v1 v2 v' : Value) (w' : World) (hd : a.eval d = v1) (hx : a.eval x = v2)
    (hrun : (Builtin.append_ #[t, u] o.type #[v1, v2]).run P w = .ok v' w') (h : wpList P ops Q rest (a.put o.dst v') w') : wpList P ops Q (o :: rest) a w :=
  wpList_plain hg fun K hK => by
    unfold Oper.wp
    simp [execOp, hop, resolve, invoke, builtin, hd, hx, hrun, Result.andThen]
    exact hK _ _ h
theorem txL_len (s : ByteArray) (b first : Nat) : (txL s b first).length ≤ s.size + 6 := by
  have := (pfL_len s.size b first).2
  have h2 : s.data.toList.length = s.size := by rw [Array.length_toList]; rfl
  unfold txL
  rw [List.length_append, h2]
  omega
theorem fbF_len {D : FieldD} (h : gdD D = true) : (fbF D).length ≤ 220 := by
  have hz : D.f0.size ≤ 100 ∧ D.f1.size ≤ 100 := by
    unfold gdD gdN gdV at h
    simp only [Bool.and_eq_true, decide_eq_true_eq] at h
    omega
  unfold fbF
  have h1 := txL_len D.f1 7 0
  have h2 := txL_len D.f0 3 32
  split
  · have := (pfL_len (fsA sT D 0).toNat 6 192).2
    omega
  · split
    · have := (pfL_len (fsN sT D.f0 0).toNat 4 80).2
      rw [List.length_append]
      omega
    · rw [List.length_append]
      omega
set_option maxHeartbeats 2000000 in
theorem implAX (v : Value) (xs : List UInt8) (s : ByteArray) (b first : Nat) (w : World) (base : Nat) (hB : Bw base w v xs) (hbase : base ≤ w.heap.size) (hl : xs.length ≤ 100000) (hs : s.size ≤ 100000) (h0 : 3 ≤ b) (h1 : b ≤ 8) (hf : first ≤ 255) (hd : first % 2 ^ b = 0) :
    Calls Tryd.prog 39 #[v, .string s, .int .i64 b, .int .i64 first] w fun e w' => ∃ v', e = .returned v' ∧ Bq base w' v' (xs ++ txL s b first) ∧ Below base w w' ∧ ∀ q ys, Bx w q ys → v.ownBlock ≠ some q → Bx w' q ys := by
  have HP := hide (implAP v xs s.size b first w base hB hbase (by omega) (by omega) h0 h1 hf hd)
  have hpl := (pfL_len s.size b first).2
  have HS := hide hbase
  clear hB hbase hd
  go_enter Tryd.func39, Tryd.ntmps39
  go_wp2_with fail
  refine (unhide HP).mono ?_
  rintro e w1 ⟨v1, rfl, q1, b1, g1⟩
  obtain ⟨v2, w2, r1, r2, r3, r4⟩ := q1.text s (by rw [List.length_append]; omega) (by omega) (Nat.le_trans (unhide HS) b1.size)
  have Z := hide (show Bq base w2 v2 (xs ++ txL s b first) ∧ Below base w w2 ∧ ∀ q ys, Bx w q ys → v.ownBlock ≠ some q → Bx w2 q ys by
    refine ⟨?_, b1.trans r3, fun q ys hx hne => (g1.bx hx hne).kept r4.size (r4.block q (Nat.lt_of_lt_of_le hx.lt g1.grown.size) (fun e => ?_))⟩
    rotate_left
    · rcases g1.lies with l | ⟨g, l, hg⟩
      · exact hne (l.symm.trans e.symm)
      · rw [l] at e
        injection e with e
        have := hx.lt
        omega
    unfold txL
    rw [← List.append_assoc]
    exact r2)
  have RUN := hide r1
  clear r1 r2 r3 r4 q1 b1 g1
  go_wp2_with (at_builtin; refine wpl_txt rfl _ _ 28 9 rfl _ _ _ _ rfl rfl (unhide RUN) ?_)
  go_ret
  exact ⟨_, rfl, unhide Z⟩
set_option maxHeartbeats 4000000 in
theorem implAF (v : Value) (xs : List UInt8) (D : FieldD) (w : World) (base : Nat) (hB : Bw base w v xs) (hbase : base ≤ w.heap.size) (hS : Sf w) (hg : 0 < base) (hl : xs.length ≤ 20000) (hD : gdD D = true) :
    Calls Tryd.prog 23 #[v, fieldV D] w fun e w' => ∃ v', e = .returned v' ∧ Bq base w' v' (xs ++ fbF D) ∧ Below base w w' := by
  have hz : D.f0.size ≤ 100 ∧ D.f1.size ≤ 100 := by
    unfold gdD gdN gdV at hD
    simp only [Bool.and_eq_true, decide_eq_true_eq] at hD
    omega
  obtain ⟨W, hW⟩ : ∃ W, W = w.alloc (.cells #[.string D.f0, .string D.f1] 33) := ⟨_, rfl⟩
  have hbW : Below w.heap.size w W := by rw [hW]; exact (Below.refl w.heap.size w).alloc (Nat.le_refl _) _
  have hbx : Bx W w.heap.size [.string D.f0, .string D.f1] := by rw [hW]; exact Bx.new w _ _
  have HSA := hide (implSA D W (hS.below hbW) (by unfold maxLen; omega) (by unfold maxLen; omega))
  have HB0 := hide hbW
  have HX0 := hide hbx
  have HQ0 := hide (hB.below hbW)
  have HW := hide hW
  have HS := hide hbase
  have y := hbx.cv
  have yl := hbx.lt
  have hA := fsA_lo sT D 0
  have hN := fsN_lo sT D.f0 0
  rw [sT_len] at hA hN
  unfold atV2 at HSA
  rw [← fsN_is] at HSA
  have hFB : fbF D = if 0 ≤ fsA sT D 0 then pfL (fsA sT D 0).toNat 6 192 else if 0 ≤ fsN sT D.f0 0 then pfL (fsN sT D.f0 0).toNat 4 80 ++ txL D.f1 7 0 else txL D.f0 3 32 ++ txL D.f1 7 0 := rfl
  obtain ⟨p, hp⟩ : ∃ p, fsA sT D 0 = p := ⟨_, rfl⟩
  obtain ⟨q, hq⟩ : ∃ q, fsN sT D.f0 0 = q := ⟨_, rfl⟩
  rw [hp] at hA HSA hFB
  rw [hq] at hN HSA hFB
  have hA2 : p = -1 ∨ 0 ≤ p ∧ p < 16 := by omega
  have hN2 : q = -1 ∨ 0 ≤ q ∧ q < 16 := by omega
  have hne : v.ownBlock ≠ some w.heap.size := by
    intro e
    have h9 := hB.lt w.heap.size e
    omega
  have hvl := hB
  clear hW hbW hbx hB hS hA hN hp hq hbase hvl
  rcases hA2 with rfl | ⟨hp0, hp1⟩
  · rw [if_neg (by decide)] at hFB
    rcases hN2 with rfl | ⟨hq0, hq1⟩
    · rw [if_neg (by decide)] at hFB
      have HE := hide hFB
      clear hFB
      go_enter Tryd.func23, Tryd.ntmps23
      go_upto_region 1 with fail
      rw [← unhide HW]
      clear HW
      go_wp2_with fail
      refine (unhide HSA).mono ?_
      rintro e w1 ⟨rfl, b1⟩
      have B1 := hide ((unhide HB0).trans (b1.mono (unhide HB0).size))
      have X1 := hide ((unhide HX0).below b1)
      have Q1 := hide ((unhide HQ0).below b1)
      clear b1 y yl HB0 HX0 HQ0 HSA
      have y := (unhide X1).cv
      have yl := (unhide X1).lt
      go_wp2_with fail
      refine (implAX v xs D.f0 3 32 _ base (unhide Q1) (Nat.le_trans (unhide HS) (unhide B1).size) (by omega) (by omega) (by omega) (by omega) (by omega) (by decide)).mono ?_
      rintro e w2 ⟨v2, rfl, q2, b2, kp2⟩
      have B2 := hide (((unhide B1).mono (unhide HS)).trans b2)
      have X2 := hide (kp2 _ _ (unhide X1) hne)
      have Q2 := hide q2
      have hl2 : (xs ++ txL D.f0 3 32).length ≤ 100000 := by
        have := txL_len D.f0 3 32
        rw [List.length_append]
        omega
      clear q2 b2 kp2 y yl X1 B1 Q1
      have y := (unhide X2).cv
      have yl := (unhide X2).lt
      go_wp2_with fail
      refine (implAX v2 (xs ++ txL D.f0 3 32) D.f1 7 0 _ base (Or.inl (unhide Q2)) (Nat.le_trans (unhide HS) (unhide B2).size) hl2 (by omega) (by omega) (by omega) (by omega) (by decide)).mono ?_
      rintro e w3 ⟨v3, rfl, q3, b3, _⟩
      rw [List.append_assoc, ← unhide HE] at q3
      have Z := hide (And.intro q3 ((unhide B2).trans b3))
      clear q3 b3 B2 Q2 X2 y yl
      go_wp2
      go_ret
      exact ⟨_, rfl, unhide Z⟩
    · obtain ⟨n, rfl⟩ := Int.eq_ofNat_of_zero_le hq0
      rw [if_pos hq0, Int.toNat_natCast] at hFB
      have HE := hide hFB
      have hnn : ¬ (n : Int) = -1 := by omega
      have hnb : ((n : Int) == -1) = false := beq_eq_false_iff_ne.2 hnn
      have hln := (pfL_len n 4 80).2
      clear hFB
      go_enter Tryd.func23, Tryd.ntmps23
      go_upto_region 1 with fail
      rw [← unhide HW]
      clear HW
      go_wp2_with fail
      refine (unhide HSA).mono ?_
      rintro e w1 ⟨rfl, b1⟩
      have B1 := hide ((unhide HB0).trans (b1.mono (unhide HB0).size))
      have X1 := hide ((unhide HX0).below b1)
      have Q1 := hide ((unhide HQ0).below b1)
      clear b1 y yl HB0 HX0 HQ0 HSA
      go_wp2_with fail
      refine (implAP v xs n 4 80 _ base (unhide Q1) (Nat.le_trans (unhide HS) (unhide B1).size) (by omega) (by omega) (by omega) (by omega) (by omega) (by decide)).mono ?_
      rintro e w2 ⟨v2, rfl, q2, b2, g2⟩
      have B2 := hide (((unhide B1).mono (unhide HS)).trans b2)
      have X2 := hide (g2.bx (unhide X1) hne)
      have Q2 := hide q2
      have hl2 : (xs ++ pfL n 4 80).length ≤ 100000 := by
        rw [List.length_append]
        omega
      clear q2 b2 g2 X1 B1 Q1
      have y := (unhide X2).cv
      have yl := (unhide X2).lt
      go_wp2_with fail
      refine (implAX v2 (xs ++ pfL n 4 80) D.f1 7 0 _ base (Or.inl (unhide Q2)) (Nat.le_trans (unhide HS) (unhide B2).size) hl2 (by omega) (by omega) (by omega) (by omega) (by decide)).mono ?_
      rintro e w3 ⟨v3, rfl, q3, b3, _⟩
      rw [List.append_assoc, ← unhide HE] at q3
      have Z := hide (And.intro q3 ((unhide B2).trans b3))
      clear q3 b3 B2 Q2 X2 y yl
      go_wp2
      go_ret
      exact ⟨_, rfl, unhide Z⟩
  · obtain ⟨n, rfl⟩ := Int.eq_ofNat_of_zero_le hp0
    rw [if_pos hp0, Int.toNat_natCast] at hFB
    have HE := hide hFB
    have hnn : ¬ (n : Int) = -1 := by omega
    have hnb : ((n : Int) == -1) = false := beq_eq_false_iff_ne.2 hnn
    clear hFB
    go_enter Tryd.func23, Tryd.ntmps23
    go_upto_region 1 with fail
    rw [← unhide HW]
    clear HW
    go_wp2_with fail
    refine (unhide HSA).mono ?_
    rintro e w1 ⟨rfl, b1⟩
    have B1 := hide ((unhide HB0).trans (b1.mono (unhide HB0).size))
    have Q1 := hide ((unhide HQ0).below b1)
    clear b1 y yl HB0 HX0 HQ0 HSA
    go_wp2_with fail
    refine (implAP v xs n 6 192 _ base (unhide Q1) (Nat.le_trans (unhide HS) (unhide B1).size) (by omega) (by omega) (by omega) (by omega) (by omega) (by decide)).mono ?_
    rintro e w2 ⟨v2, rfl, q2, b2, g2⟩
    rw [← unhide HE] at q2
    have Z := hide (And.intro q2 (((unhide B1).mono (unhide HS)).trans b2))
    clear q2 b2 g2 B1 Q1
    go_wp2
    go_ret
    exact ⟨_, rfl, unhide Z⟩
/-- the bytes of fields as a text -/
def fbT (L : List FieldD) : ByteArray := ⟨(fbL L).toArray⟩
def fbR (L : List FieldD) : ByteArray := if gdF L = true then fbT L else ⟨#[]⟩
theorem fb_len : ∀ (L : List FieldD), L.all gdD = true → (L.flatMap fbF).length ≤ 220 * L.length
  | [], _ => by simp
  | D :: L, h => by
    rw [List.all_cons, Bool.and_eq_true] at h
    have h1 := fbF_len h.1
    have h2 := fb_len L h.2
    rw [List.flatMap_cons, List.length_append, List.length_cons]
    omega
theorem fb_take {L : List FieldD} {k : Nat} (hk : k < L.length) : (L.take (k + 1)).flatMap fbF = (L.take k).flatMap fbF ++ fbF (gt fieldK L k) := by
  have e : L.take (k + 1) = L.take k ++ [gt fieldK L k] := by rw [gt_of fieldK L k hk]; exact (List.take_append_getElem hk).symm
  rw [e, List.flatMap_append]
  simp
theorem all_take {L : List FieldD} (h : L.all gdD = true) (k : Nat) : (L.take k).all gdD = true := by
  rw [List.all_eq_true] at h ⊢
  exact fun x hx => h x (List.mem_of_mem_take hx)
theorem all_gt {L : List FieldD} (h : L.all gdD = true) {k : Nat} (hk : k < L.length) : gdD (gt fieldK L k) = true := by
  rw [List.all_eq_true] at h
  exact h _ (gt_mem fieldK L k hk)
set_option maxHeartbeats 4000000 in
theorem implFB (L : List FieldD) (a : Option Addr) (c : Nat) (w : World) (hS : Sf w) (hm : L.length ≤ 1048576) (ho : ∀ i, i < L.length → (gt fieldK L i).f0.size ≤ 1048576 ∧ (gt fieldK L i).f1.size ≤ 1048576) (h : Rd fieldK w a L) :
    Calls Tryd.prog 11 #[.slice a L.length c] w fun e w' => e = .returned (.tuple #[.string (fbR L), .bool (gdF L)]) ∧ Below w.heap.size w w' := by
  have HG := hide (implGF L a c w hm ho h)
  have HR := hide h
  have HS := hide hS
  have HSB := hide hS.1
  clear h ho hS
  rcases Bool.eq_false_or_eq_true (gdF L) with hg | hg
  · have hg2 := hg
    unfold gdF at hg2
    rw [Bool.and_eq_true, decide_eq_true_eq] at hg2
    have hl30 := hg2.1
    have HAL := hide hg2.2
    have HE := hide (show fbR L = fbT L by unfold fbR; rw [if_pos hg])
    have HGT := hide hg
    rw [hg] at HG
    clear hg hg2
    go_enter Tryd.func11, Tryd.ntmps11
    go_wp2_with fail
    refine (unhide HG).mono ?_
    rintro e w1 ⟨rfl, b1⟩
    have B1 := hide b1
    clear b1 HG
    obtain ⟨V1, hV1⟩ : ∃ V, V = w1.alloc (.cells #[.int .u8 0, .int .u8 0] 5) := ⟨_, rfl⟩
    obtain ⟨V2, hV2⟩ : ∃ V, V = w1.alloc (.cells #[.int .u8 0, .int .u8 0] 5 (2, 3)) := ⟨_, rfl⟩
    have hcv : (convert 28 28 (.slice (some ⟨w1.heap.size, 0, none⟩) 2 2)).run Tryd.prog V1 = .ok (.slice (some ⟨w1.heap.size, 0, none⟩) 2 2) V2 := by
      rw [hV1, hV2]
      exact Lib.run_convert_bytes_const (P := Tryd.prog) w1 28 5 #[.int .u8 0, .int .u8 0] 2 2 Tryd.underlying28 Tryd.underlying5
    have HCV := hide hcv
    clear hcv
    have HQ : Hid (Bw w.heap.size V2 (.slice (some ⟨w1.heap.size, 0, none⟩) 2 2) [0, 0]) := by
      rw [hV2]
      exact Or.inr (Fl.const w1 [0, 0] (unhide B1).size 2 3)
    have HB1 : Hid (Below w.heap.size w V2) := by rw [hV2]; exact (unhide B1).alloc (unhide B1).size _
    have HV := hide hV1
    clear hV1 hV2
    go_upto_region 4 with fail
    rw [← unhide HV, unhide HCV]
    clear HV B1 HCV
    go_wp2_with fail
    go_loopw [4, 14] (fun v i wr => ∃ k : Nat, k ≤ L.length ∧ i = .int .i64 k ∧ Hid (Bw w.heap.size wr v ([0, 0] ++ (L.take k).flatMap fbF)) ∧ Hid (Below w.heap.size w wr)) (fun _ i _ => L.length - (intOf i).toNat)
    case atStart => exact ⟨0, Nat.zero_le _, rfl, HQ, HB1⟩
    case round =>
      obtain ⟨k, hk, rfl, HK, HB⟩ := hrel
      by_cases hlt : k < L.length
      · rcases (unhide HR).below (unhide HB) with h0 | ⟨b, o, rfl, _, hel⟩
        · rw [h0] at hlt; exact absurd hlt (Nat.not_lt_zero _)
        have x0 := field_r0 hel hlt
        have x1 := field_r1 hel hlt
        clear hel HQ HB1
        have HT := hide (fb_take hlt)
        have hD := all_gt (unhide HAL) hlt
        have hlen : (([0, 0] : List UInt8) ++ (L.take k).flatMap fbF).length ≤ 20000 := by
          have h8 := fb_len (L.take k) (all_take (unhide HAL) k)
          rw [List.length_take] at h8
          rw [List.length_append]
          have : ([0, 0] : List UInt8).length = 2 := rfl
          omega
        obtain ⟨V, hV⟩ : ∃ V, V = wr.alloc (.cells #[.string (gt fieldK L k).f0, .string (gt fieldK L k).f1] 33) := ⟨_, rfl⟩
        have hBV : Below w.heap.size w V := by rw [hV]; exact (unhide HB).alloc (unhide HB).size _
        have hbx : Bx V wr.heap.size [.string (gt fieldK L k).f0, .string (gt fieldK L k).f1] := by rw [hV]; exact Bx.new wr _ _
        have hQV : Bw w.heap.size V u4 ([0, 0] ++ (L.take k).flatMap fbF) := by rw [hV]; exact (unhide HK).below ((Below.refl _ _).alloc (Nat.le_refl _) _)
        have HAF := hide (implAF u4 _ (gt fieldK L k) V w.heap.size hQV hBV.size ((unhide HS).below hBV) (unhide HSB) hlen hD)
        have y0 := hbx.cv
        have yl := hbx.lt
        have HBV := hide hBV
        have HVV := hide hV
        generalize gt fieldK L k = D at *
        obtain ⟨nm, vl⟩ := D
        dsimp only at x0 x1 y0
        clear hV hBV hbx hQV hD hlen HK HB
        go_upto_region 7 with fail
        rw [← unhide HVV]
        clear HVV
        go_wp2_with fail
        refine (unhide HAF).mono ?_
        rintro e w2 ⟨v2, rfl, q2, b2⟩
        rw [List.append_assoc, ← unhide HT] at q2
        have Q2 := hide q2
        have B2 := hide ((unhide HBV).trans b2)
        clear q2 b2 y0 yl x0 x1
        go_wp2
        exact ⟨⟨k + 1, by omega, by go_num, Or.inl (unhide Q2), B2⟩, by simp [intOf]; omega⟩
      · obtain rfl : k = L.length := by omega
        have hq := unhide HK
        rw [List.take_length] at hq
        have hc := hq.string
        have HE2 := hide (show (⟨(([0, 0] : List UInt8) ++ L.flatMap fbF).toArray⟩ : ByteArray) = fbT L from rfl)
        rw [unhide HE2] at hc
        clear HE2 hq
        go_wp2
        go_ret2
        exact ⟨by rw [unhide HE, unhide HGT]; rfl, unhide HB⟩
  · have HE := hide (show fbR L = ⟨#[]⟩ by unfold fbR; rw [if_neg (by rw [hg]; decide)])
    have HGT := hide hg
    rw [hg] at HG
    clear hg
    go_enter Tryd.func11, Tryd.ntmps11
    go_wp2_with fail
    refine (unhide HG).mono ?_
    rintro e w1 ⟨rfl, b1⟩
    go_wp2
    go_ret2
    exact ⟨by rw [unhide HE, unhide HGT]; rfl, b1⟩
end Go.Proofs.YtidgjjbdabifnabDoor.Rc
