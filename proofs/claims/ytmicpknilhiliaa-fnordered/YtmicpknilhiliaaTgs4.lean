/-
  Contract of the program: PlayStream where all is good.
-/
import Derived.Test.YtmicpknilhiliaaLwt
namespace Go.Proofs.Ytmicpknilhiliaa.Rc
open Go.ChangeShapes Go.WideShapes Go.ChangeAt Go.RowKit Go.Deep Go.Conc
set_option linter.unusedVariables false
set_option maxRecDepth 100000

theorem Bo.string {base : Nat} {w : World} {v : Value} {s : ByteArray} (h : Bo base w v s) : (convert 22 9 v).run Try.prog w = .ok (.string s) w := by
  have hc := fun g => @World.ownsRow.cells w base 5 1 v s.size (Lib.strCells s) h g
  rcases h.2 with ⟨rfl, h0⟩ | ⟨g, cap, cur, rfl, _, _, _, _, _, _⟩
  · have e : s = ⟨#[]⟩ := by
      obtain ⟨b⟩ := s
      have : b.size = 0 := h0
      rw [Array.size_eq_zero_iff.1 this]
    rw [e]
    exact run_convert_bytes_nil w 22 5 Try.underlying22 Try.underlying5 0 0 9 Try.underlying9
  · have := run_convert_bytes_back (P := Try.prog) w 22 9 5 ⟨g, 0, none⟩ cap s.data.toList Try.underlying22 Try.underlying5 Try.underlying9 (by
      intro j hj
      refine hc g rfl j _ ?_
      unfold Lib.strCells
      rw [List.getElem?_map, List.getElem?_eq_getElem hj]
      rfl)
    simpa using this
set_option maxHeartbeats 8000000 in
theorem implPSy (d : ByteArray) (limit : Int) (cuts order : List Int) (W : World) (hB : psB d limit cuts order = true) (aC : Option Addr) (cC : Nat) (aO : Option Addr) (cO : Nat) (hC : Rd intK W aC cuts) (hO : Rd intK W aO order) :
    Calls Try.prog 5 #[.string d, .int .i64 limit, .slice aC cuts.length cC, .slice aO order.length cO] W fun e w' => e = .returned (.tuple #[.string (psF (cutP d 0 cuts) limit order).2, .bool (decide ((psF (cutP d 0 cuts) limit order).1.fi = (psF (cutP d 0 cuts) limit order).1.re)), .bool true]) ∧ Below W.heap.size W w' := by
  unfold psB at hB
  simp only [Bool.and_eq_true, decide_eq_true_eq] at hB
  obtain ⟨h1, h2, h3, h4, h5⟩ := hB
  have hl : 0 ≤ limit ∧ limit ≤ 4000 := by unfold niB at h1; simpa using h1
  have HNI := implNI limit W
  rw [h1, show niD limit true = ⟨limit, 0, -1, []⟩ from rfl] at HNI
  have HN := hide HNI
  have HC := hide (fun V (b : Below W.heap.size W V) => hC.below b)
  have HO := hide (fun V (b : Below W.heap.size W V) => hO.below b)
  have HGC := hide (fun V (b : Below W.heap.size W V) => implGC cuts d.size V aC cC (by omega) (by omega) (by omega) (hC.below b))
  rw [h5, decide_eq_true h3] at HGC
  have HCA := hide (fun V (b : Below W.heap.size W V) => implCA d cuts V aC cC h2 h3 h5 (hC.below b))
  have HWI := hide (fun V g c => win4 d 4000 (by decide) (by omega) V g c)
  rw [decide_eq_true h2] at HWI
  have CIN := cutP_in d cuts 0 true (Int.le_refl _) (by omega) h5
  clear HNI hC hO h1 h5
  have hPn : (cutP d 0 cuts).length = cuts.length + 1 := cutP_len d cuts 0
  have HPn := hide hPn
  clear hPn
  have HF : Hid (psF (cutP d 0 cuts) limit order = order.foldl (psS (cutP d 0 cuts)) (⟨limit, 0, -1, []⟩, ⟨#[]⟩)) := rfl
  generalize cutP d 0 cuts = PS at *
  generalize psF PS limit order = FF at *
  have t4 : ¬ (100 : Int) < (order.length : Int) := by omega
  go_enter Try.func5, Try.ntmps5
  go_wp2_with fail
  refine (unhide HN).mono ?_
  rintro e w1 ⟨rfl, b1⟩
  obtain ⟨V1, hV1⟩ : ∃ V, V = w1.alloc (.cells #[.int .i64 limit, .int .i64 0, .int .i64 (-1), .slice none 0 0] 39) := ⟨_, rfl⟩
  have al1 : Below w1.heap.size w1 V1 := by rw [hV1]; exact (Below.refl _ _).alloc (Nat.le_refl _) _
  have X1 := hide (show Bx V1 w1.heap.size (inflowC ⟨limit, 0, -1, []⟩ none 0) by rw [hV1]; exact Bx.new w1 _ _)
  have B1 := hide (b1.trans (al1.mono b1.size))
  obtain ⟨V2, hV2⟩ : ∃ V, V = V1.alloc (.cells #[.string d] 9) := ⟨_, rfl⟩
  have al2 : Below V1.heap.size V1 V2 := by rw [hV2]; exact (Below.refl _ _).alloc (Nat.le_refl _) _
  have X2 := hide ((unhide X1).below al2)
  have B2 := hide ((unhide B1).trans (al2.mono (unhide B1).size))
  have HWJ := hide (unhide HWI V2 V1.heap.size 1 (by rw [hV2]; exact (Bx.new V1 [Value.string d] _).cv 0))
  have HGJ := hide (unhide HGC V2 (unhide B2))
  have HCJ := hide (unhide HCA V2 (unhide B2))
  have HV1 := hide hV1
  have HV2 := hide hV2
  obtain ⟨p, hp⟩ : ∃ p, p = w1.heap.size := ⟨_, rfl⟩
  rw [← hp] at X1 X2
  have Hp := hide hp
  clear hV1 hV2 al1 al2 b1 HWI HGC HCA HN hp
  go_upto_region 2 with fail
  rw [← unhide HV1, ← unhide Hp]
  clear HV1 Hp
  have x2 := (unhide X2).cv
  have x2l := (unhide X2).lt
  go_upto_region 4 with (first | (rw [← unhide HV2]; go_at_call 11; refine (unhide HWJ).mono ?_; rintro e w9 ⟨rfl, h9⟩; rw [h9]; clear h9 w9) | (go_at_call 12; refine (unhide HGJ).mono ?_; rintro e w9 ⟨rfl, h9⟩; rw [h9]; clear h9 w9))
  clear HV2 HWJ HGJ X1 B1
  go_wp2_with fail
  refine (unhide HCJ).mono ?_
  rintro e w4 ⟨aP, cP, rfl, oP, b4⟩
  have X4 := hide ((unhide X2).below b4)
  have B4 := hide ((unhide B2).trans (b4.mono (unhide B2).size))
  have P4 := hide oP
  have HND := hide (implND ⟨limit, 0, -1, []⟩ none 0 w4)
  clear X2 B2 b4 oP HCJ x2 x2l
  have x4 := (unhide X4).cv
  have x4l := (unhide X4).lt
  go_wp2_with fail
  refine (unhide HND).mono ?_
  rintro e w5 ⟨x, y, q, rfl, ⟨hx, hy, hxy, hxq, hyq⟩, c1, c2, A5, b5⟩
  have X5 : Bx w5 q (deskC ⟨limit, 0, -1, []⟩ none 0 x y (.slice none 0 0)) := A5
  have I0 := hide X5
  have I1 := hide c1
  have I2 := hide c2
  have I3 := hide b5
  have I4 : Hid (Ro pieceK 53 (q + 1) w5 (.slice none (0 : Nat) 0) ([] : List PieceD)) := Ro.nil _ _ _ _
  have I5 : Hid (Bo (q + 1) w5 (.slice none 0 0) ⟨#[]⟩) := Bo.nil _ _
  have I6 : Hid (GoodI ⟨limit, 0, -1, []⟩ ∧ (⟨limit, 0, -1, []⟩ : InflowD).re = ((⟨#[]⟩ : ByteArray).size : Int)) := ⟨⟨hl.1, hl.2, Int.le_refl _, hl.1, Or.inl rfl, Nat.zero_le _, trivial, fun p hp => by cases hp⟩, rfl⟩
  have I7 : Hid (rdE ⟨limit, 0, -1, []⟩ 4000 = ⟨limit, 0, -1, []⟩ ∧ rdO ⟨limit, 0, -1, []⟩ 4000 = ⟨#[]⟩) := ⟨rfl, rfl⟩
  have HPV := hide (fun V (b : Below w4.heap.size w4 V) => ((unhide P4).below b).sl.2.2)
  have HOV := hide (fun V (b : Below w4.heap.size w4 V) => unhide HO V ((unhide B4).trans (b.mono (unhide B4).size)))
  have PIN := hide CIN
  have F0 : Hid ((order.take 0).foldl (psS PS) (⟨limit, 0, -1, []⟩, ⟨#[]⟩) = (⟨limit, 0, -1, []⟩, ⟨#[]⟩)) := rfl
  clear A5 X5 c1 c2 b5 P4 X4 HND x4 x4l CIN HO HC
  obtain ⟨M, hM⟩ : ∃ M : Nat, Hid (PS.length = M + 1) := ⟨cuts.length, HPn⟩
  have hM40 : M ≤ 40 := by have := unhide hM; have := unhide HPn; omega
  clear HPn
  go_wp2_with fail
  go_loopw [16, 51] (fun _ iv wr => ∃ (k : Nat) (D : InflowD) (out : ByteArray) (a : Option Addr) (c : Nat) (v : Value) (s r s' r' : Nat), k ≤ order.length ∧ iv = .int .i64 k ∧ Hid ((order.take k).foldl (psS PS) (⟨limit, 0, -1, []⟩, ⟨#[]⟩) = (D, out)) ∧ Hid (GoodI D ∧ D.re = out.size) ∧ Hid (rdE D 4000 = D ∧ rdO D 4000 = ⟨#[]⟩) ∧ Hid (Bx wr q (deskC D a c x y v)) ∧ Hid (Ro pieceK 53 (q + 1) wr (.slice a D.P.length c) D.P) ∧ Hid (Bo (q + 1) wr v out) ∧ Hid (Chn wr x #[] s r) ∧ Hid (Chn wr y #[] s' r') ∧ Hid (Below w4.heap.size w4 wr)) (fun _ iv _ => order.length - (intOf iv).toNat)
  case atStart => exact ⟨0, _, _, none, 0, _, 0, 0, 0, 0, Nat.zero_le _, rfl, F0, I6, I7, I0, I4, I5, I1, I2, I3⟩
  case round =>
    obtain ⟨k, D, out, a, c, v, s, r, s', r', hk, rfl, hF, hG, hA, hX, hR, hS, hc1, hc2, hB⟩ := hrel
    clear I0 I1 I2 I3 I4 I5 I6 I7 F0
    by_cases hlt : k < order.length
    · rcases unhide HOV wr (unhide hB) with h9 | ⟨b, oo, rfl, _, hel⟩
      · rw [h9] at hlt; exact absurd hlt (Nat.not_lt_zero _)
      have c0 := int_r hel hlt
      have hF2 : Hid ((order.take (k + 1)).foldl (psS PS) (⟨limit, 0, -1, []⟩, ⟨#[]⟩) = psS PS (D, out) (gt intK order k)) := by show _ = _; rw [takeI hlt, List.foldl_append, unhide hF]; rfl
      generalize gt intK order k = n at *
      have HBT := hide (bt4 0 n M)
      have wM : IntKind.i64.wrap ((PS.length : Int) - 1) = (M : Int) := by have := unhide hM; rw [IntKind.wrap_i64]; omega
      have hnk : (k : Int) < (order.length : Int) := by omega
      have hk0 : (0 : Int) ≤ (k : Int) := by omega
      clear hel hF
      go_upto_if 59 with (go_at_call 15; (with_reducible refine (unhide HBT _).mono ?_); rintro e w9 ⟨rfl, h9⟩; rw [h9]; clear h9 w9)
      go_cut [14] (fun s14 wx => s14 = .pointer (some ⟨q, 0, none⟩) ∧ ∃ (D2 : InflowD) (a2 : Option Addr) (c2 s2 r2 : Nat), Hid (D2.re = D.re) ∧ Hid (GoodI D2 ∧ psS PS (D, out) n = (rdE D2 4000, out ++ rdO D2 4000)) ∧ Hid (Bx wx q (deskC D2 a2 c2 x y v)) ∧ Hid (Ro pieceK 53 (q + 1) wx (.slice a2 D2.P.length c2) D2.P) ∧ Hid (Bo (q + 1) wx v out) ∧ Hid (Chn wx x #[] s2 r2) ∧ Hid (Chn wx y #[] s' r') ∧ Hid (Below w4.heap.size w4 wx))
      case first =>
        by_cases hin : 0 ≤ n ∧ n ≤ (M : Int)
        · obtain ⟨j, rfl⟩ : ∃ j : Nat, n = j := ⟨n.toNat, by omega⟩
          have tin : (decide ((0 : Int) ≤ (j : Int)) && decide ((j : Int) ≤ (M : Int))) = true := by rw [decide_eq_true hin.1, decide_eq_true hin.2]; rfl
          have hjP : j < PS.length := by have := unhide hM; omega
          have hjI : (j : Int) < (PS.length : Int) := by omega
          have hj0 : (0 : Int) ≤ (j : Int) := by omega
          obtain ⟨fin, hfin⟩ : ∃ fin : Bool, fin = decide ((j : Int) = (M : Int)) := ⟨_, rfl⟩
          have e1 : psT PS (D, out) (j : Int) = dtE D (gt pieceK PS j).f0 (gt pieceK PS j).f1 fin := by
            have e : decide ((j : Int) = (PS.length : Int) - 1) = fin := by rw [hfin, unhide hM, show (((M + 1 : Nat) : Int) - 1) = (M : Int) by omega]
            unfold psT dtE
            dsimp only
            rw [e, show ((j : Int)).toNat = j from rfl]
          have HP : Hid (GoodI (dtE D (gt pieceK PS j).f0 (gt pieceK PS j).f1 fin) ∧ psS PS (D, out) (j : Int) = (rdE (dtE D (gt pieceK PS j).f0 (gt pieceK PS j).f1 fin) 4000, out ++ rdO (dtE D (gt pieceK PS j).f0 (gt pieceK PS j).f1 fin) 4000)) := by
            rw [← e1]
            refine ⟨psT_good (unhide hG).1, ?_⟩
            unfold psS
            rw [if_pos (by have := unhide hM; omega)]
          have HRE : Hid ((dtE D (gt pieceK PS j).f0 (gt pieceK PS j).f1 fin).re = D.re) := by show _ = _; rw [← e1]; exact psT_re
          have hpin := unhide PIN _ (gt_mem pieceK PS j hjP)
          rcases unhide HPV wr (unhide hB) with h9 | ⟨gp, o2, e9, hgp, hel2⟩
          · rw [h9] at hjP; exact absurd hjP (Nat.not_lt_zero _)
          have r0 := piece_r0 hel2 hjP
          have r1 := piece_r1 hel2 hjP
          have HC0 := hide (fun V (b : Below wr.heap.size wr V) => (b.cell (p := ⟨gp, o2 + j * 2, none⟩) hgp).trans r0)
          have HC1 := hide (fun V (b : Below wr.heap.size wr V) => (b.cell (p := ⟨gp, o2 + j * 2 + 1, none⟩) hgp).trans r1)
          obtain ⟨U, hU⟩ : ∃ U, U = wr.drew.setChan x 1 #[.agg #[.int .i64 (gt pieceK PS j).f0, .string (gt pieceK PS j).f1, .bool fin]] false (s + 1) r false := ⟨_, rfl⟩
          have xl := (unhide hc1).lt
          have bd : Below wr.heap.size wr wr.drew := (Below.refl _ _).drew
          have kx : Kq (fun b => b = x) wr U := by rw [hU]; exact (Kq.of bd).trans (Kq.chan wr.drew x (s + 1) r _)
          have HSV := hide (implSV0 D a c x y q (s + 1) r s' r' v out (gt pieceK PS j).f0 (gt pieceK PS j).f1 fin w4.heap.size U (unhide hG).1 (by omega) ⟨hx, hxq⟩ ⟨hy, hyq⟩ hxy (by rw [hU]; exact bx_chan (unhide hX).drew (by omega)) ((unhide hR).kq kx (fun b (h : b = x) => by omega)) ((unhide hS).kq kx (fun b (h : b = x) => by omega)) (by rw [hU]; exact Chn.set wr.drew x (s + 1) r _ xl) (by rw [hU]; exact Chn.other (w := wr.drew) (unhide hc2) hxy))
          have sc := (unhide hB).size
          have BU := hide ((unhide hB).trans (kx.below (by omega) (fun b (h : b = x) => by omega)))
          have HU := hide hU
          have hf2 : ((j : Int) == (M : Int)) = fin := by rw [hfin]; rfl
          have hf1 : decide ((j : Int) = (M : Int)) = fin := hfin.symm
          subst e9
          generalize dtE D (gt pieceK PS j).f0 (gt pieceK PS j).f1 fin = E at *
          generalize gt pieceK PS j = xp at *
          clear hfin hU kx bd r0 r1 hel2 e1 hpin hin
          rw [tin]
          clear tin
          go_upto_region 10 with fail
          refine wp_region_noPanic ?_
          refine wp_send_then (n := 14) (S := fun V => Below wr.heap.size wr V) (by kernel_rfl) (by kernel_rfl) rfl rfl rfl ((Below.refl _ _).drew) (fun hHeld => ?_)
          simp only [mute, List.setIfInBounds_toArray, List.set_cons_succ, List.set_cons_zero]
          refine wpAnyH_take (i := 0) (v := ?_) rfl (by kernel_rfl) (by kernel_rfl) (by kernel_rfl) (fun _ _ _ h => h) (Or.inl ⟨by rfl, ?_⟩) hHeld ?_
          rotate_left
          · intro V hSw; have y0 := (Bx.below (unhide hX) hSw).cv; have y0l := (Bx.below (unhide hX) hSw).lt; have z0 := unhide HC0 V hSw; have z1 := unhide HC1 V hSw; have z2 := Nat.lt_of_lt_of_le hgp hSw.size; go_simp; rfl
          try simp only [Act.put, List.getElem_toArray, List.getElem_cons_succ, List.getElem_cons_zero, List.setIfInBounds_toArray, List.set_cons_zero, List.set_cons_succ]
          refine wpAnyH_take (i := 1) (v := ?_) rfl (by kernel_rfl) (by kernel_rfl) (by kernel_rfl) (fun _ _ _ h => h) (Or.inl ⟨by rfl, ?_⟩) hHeld ?_
          rotate_left
          · intro V hSw; have y0 := (Bx.below (unhide hX) hSw).cv; have y0l := (Bx.below (unhide hX) hSw).lt; have z0 := unhide HC0 V hSw; have z1 := unhide HC1 V hSw; have z2 := Nat.lt_of_lt_of_le hgp hSw.size; go_simp; rfl
          try simp only [Act.put, List.getElem_toArray, List.getElem_cons_succ, List.getElem_cons_zero, List.setIfInBounds_toArray, List.set_cons_zero, List.set_cons_succ]
          refine wpAnyH_take (i := 2) (v := ?_) rfl (by kernel_rfl) (by kernel_rfl) (by kernel_rfl) (fun _ _ _ h => h) (Or.inl ⟨by rfl, ?_⟩) hHeld ?_
          rotate_left
          · intro V hSw; have y0 := (Bx.below (unhide hX) hSw).cv; have y0l := (Bx.below (unhide hX) hSw).lt; have z0 := unhide HC0 V hSw; have z1 := unhide HC1 V hSw; have z2 := Nat.lt_of_lt_of_le hgp hSw.size; go_simp; rfl
          try simp only [Act.put, List.getElem_toArray, List.getElem_cons_succ, List.getElem_cons_zero, List.setIfInBounds_toArray, List.set_cons_zero, List.set_cons_succ]
          refine wpAnyH_take (i := 3) (v := ?_) rfl (by kernel_rfl) (by kernel_rfl) (by kernel_rfl) (fun _ _ _ h => h) (Or.inl ⟨by rfl, ?_⟩) hHeld ?_
          rotate_left
          · intro V hSw; have y0 := (Bx.below (unhide hX) hSw).cv; have y0l := (Bx.below (unhide hX) hSw).lt; have z0 := unhide HC0 V hSw; have z1 := unhide HC1 V hSw; have z2 := Nat.lt_of_lt_of_le hgp hSw.size; go_simp; rfl
          try simp only [Act.put, List.getElem_toArray, List.getElem_cons_succ, List.getElem_cons_zero, List.setIfInBounds_toArray, List.set_cons_zero, List.set_cons_succ]
          refine wpAnyH_take (i := 4) (v := ?_) rfl (by kernel_rfl) (by kernel_rfl) (by kernel_rfl) (fun _ _ _ h => h) (Or.inl ⟨by rfl, ?_⟩) hHeld ?_
          rotate_left
          · intro V hSw; have y0 := (Bx.below (unhide hX) hSw).cv; have y0l := (Bx.below (unhide hX) hSw).lt; have z0 := unhide HC0 V hSw; have z1 := unhide HC1 V hSw; have z2 := Nat.lt_of_lt_of_le hgp hSw.size; go_simp; rfl
          try simp only [Act.put, List.getElem_toArray, List.getElem_cons_succ, List.getElem_cons_zero, List.setIfInBounds_toArray, List.set_cons_zero, List.set_cons_succ]
          refine wpAnyH_take (i := 5) (v := ?_) rfl (by kernel_rfl) (by kernel_rfl) (by kernel_rfl) (fun _ _ _ h => h) (Or.inl ⟨by rfl, ?_⟩) hHeld ?_
          rotate_left
          · intro V hSw; have y0 := (Bx.below (unhide hX) hSw).cv; have y0l := (Bx.below (unhide hX) hSw).lt; have z0 := unhide HC0 V hSw; have z1 := unhide HC1 V hSw; have z2 := Nat.lt_of_lt_of_le hgp hSw.size; go_simp; rfl
          try simp only [Act.put, List.getElem_toArray, List.getElem_cons_succ, List.getElem_cons_zero, List.setIfInBounds_toArray, List.set_cons_zero, List.set_cons_succ]
          refine wpAnyH_take (i := 6) (v := ?_) rfl (by kernel_rfl) (by kernel_rfl) (by kernel_rfl) (fun _ _ _ h => h) (Or.inl ⟨by rfl, ?_⟩) hHeld ?_
          rotate_left
          · intro V hSw; have y0 := (Bx.below (unhide hX) hSw).cv; have y0l := (Bx.below (unhide hX) hSw).lt; have z0 := unhide HC0 V hSw; have z1 := unhide HC1 V hSw; have z2 := Nat.lt_of_lt_of_le hgp hSw.size; go_simp; rfl
          try simp only [Act.put, List.getElem_toArray, List.getElem_cons_succ, List.getElem_cons_zero, List.setIfInBounds_toArray, List.set_cons_zero, List.set_cons_succ]
          refine wpAnyH_take (i := 7) (v := ?_) rfl (by kernel_rfl) (by kernel_rfl) (by kernel_rfl) (fun _ _ _ h => h) (Or.inl ⟨by rfl, ?_⟩) hHeld ?_
          rotate_left
          · intro V hSw; have y0 := (Bx.below (unhide hX) hSw).cv; have y0l := (Bx.below (unhide hX) hSw).lt; have z0 := unhide HC0 V hSw; have z1 := unhide HC1 V hSw; have z2 := Nat.lt_of_lt_of_le hgp hSw.size; go_simp; rfl
          try simp only [Act.put, List.getElem_toArray, List.getElem_cons_succ, List.getElem_cons_zero, List.setIfInBounds_toArray, List.set_cons_zero, List.set_cons_succ]
          refine wpAnyH_take (i := 8) (v := ?_) rfl (by kernel_rfl) (by kernel_rfl) (by kernel_rfl) (fun _ _ _ h => h) (Or.inl ⟨by rfl, ?_⟩) hHeld ?_
          rotate_left
          · intro V hSw; have y0 := (Bx.below (unhide hX) hSw).cv; have y0l := (Bx.below (unhide hX) hSw).lt; have z0 := unhide HC0 V hSw; have z1 := unhide HC1 V hSw; have z2 := Nat.lt_of_lt_of_le hgp hSw.size; go_simp; rfl
          try simp only [Act.put, List.getElem_toArray, List.getElem_cons_succ, List.getElem_cons_zero, List.setIfInBounds_toArray, List.set_cons_zero, List.set_cons_succ]
          refine wpAnyH_take (i := 9) (v := ?_) rfl (by kernel_rfl) (by kernel_rfl) (by kernel_rfl) (fun _ _ _ h => h) (Or.inl ⟨by rfl, ?_⟩) hHeld ?_
          rotate_left
          · intro V hSw; have y0 := (Bx.below (unhide hX) hSw).cv; have y0l := (Bx.below (unhide hX) hSw).lt; have z0 := unhide HC0 V hSw; have z1 := unhide HC1 V hSw; have z2 := Nat.lt_of_lt_of_le hgp hSw.size; go_simp; rfl
          try simp only [Act.put, List.getElem_toArray, List.getElem_cons_succ, List.getElem_cons_zero, List.setIfInBounds_toArray, List.set_cons_zero, List.set_cons_succ]
          refine wpAnyH_take (i := 10) (v := ?_) rfl (by kernel_rfl) (by kernel_rfl) (by kernel_rfl) (fun _ _ _ h => h) (Or.inl ⟨by rfl, ?_⟩) hHeld ?_
          rotate_left
          · intro V hSw; have y0 := (Bx.below (unhide hX) hSw).cv; have y0l := (Bx.below (unhide hX) hSw).lt; have z0 := unhide HC0 V hSw; have z1 := unhide HC1 V hSw; have z2 := Nat.lt_of_lt_of_le hgp hSw.size; go_simp; rfl
          try simp only [Act.put, List.getElem_toArray, List.getElem_cons_succ, List.getElem_cons_zero, List.setIfInBounds_toArray, List.set_cons_zero, List.set_cons_succ]
          refine wpAnyH_take (i := 11) (v := ?_) rfl (by kernel_rfl) (by kernel_rfl) (by kernel_rfl) (fun _ _ _ h => h) (Or.inl ⟨by rfl, ?_⟩) hHeld ?_
          rotate_left
          · intro V hSw; have y0 := (Bx.below (unhide hX) hSw).cv; have y0l := (Bx.below (unhide hX) hSw).lt; have z0 := unhide HC0 V hSw; have z1 := unhide HC1 V hSw; have z2 := Nat.lt_of_lt_of_le hgp hSw.size; go_simp; rfl
          try simp only [Act.put, List.getElem_toArray, List.getElem_cons_succ, List.getElem_cons_zero, List.setIfInBounds_toArray, List.set_cons_zero, List.set_cons_succ]
          refine wpAnyH_take (i := 12) (v := ?_) rfl (by kernel_rfl) (by kernel_rfl) (by kernel_rfl) (fun _ _ _ h => h) (Or.inl ⟨by rfl, ?_⟩) hHeld ?_
          rotate_left
          · intro V hSw; have y0 := (Bx.below (unhide hX) hSw).cv; have y0l := (Bx.below (unhide hX) hSw).lt; have z0 := unhide HC0 V hSw; have z1 := unhide HC1 V hSw; have z2 := Nat.lt_of_lt_of_le hgp hSw.size; go_simp; rfl
          try simp only [Act.put, List.getElem_toArray, List.getElem_cons_succ, List.getElem_cons_zero, List.setIfInBounds_toArray, List.set_cons_zero, List.set_cons_succ]
          refine wpAnyH_take (i := 13) (v := ?_) rfl (by kernel_rfl) (by kernel_rfl) (by kernel_rfl) (fun _ _ _ h => h) (Or.inl ⟨by rfl, ?_⟩) hHeld ?_
          rotate_left
          · intro V hSw; have y0 := (Bx.below (unhide hX) hSw).cv; have y0l := (Bx.below (unhide hX) hSw).lt; have z0 := unhide HC0 V hSw; have z1 := unhide HC1 V hSw; have z2 := Nat.lt_of_lt_of_le hgp hSw.size; go_simp; rfl
          try simp only [Act.put, List.getElem_toArray, List.getElem_cons_succ, List.getElem_cons_zero, List.setIfInBounds_toArray, List.set_cons_zero, List.set_cons_succ]
          refine wpAnyH_take (i := 14) (v := ?_) rfl (by kernel_rfl) (by kernel_rfl) (by kernel_rfl) (fun _ _ _ h => h) (Or.inl ⟨by rfl, ?_⟩) hHeld ?_
          rotate_left
          · intro V hSw; have y0 := (Bx.below (unhide hX) hSw).cv; have y0l := (Bx.below (unhide hX) hSw).lt; have z0 := unhide HC0 V hSw; have z1 := unhide HC1 V hSw; have z2 := Nat.lt_of_lt_of_le hgp hSw.size; go_simp; rfl
          try simp only [Act.put, List.getElem_toArray, List.getElem_cons_succ, List.getElem_cons_zero]
          refine wpAnyH_done (by kernel_rfl) ?_ _
          change Lw _ _ _ _ _ _
          refine Lw.send (c := x) (cap := 1) (s := s) (r := r) (tm := false) (buf := #[]) (v := .agg #[.int .i64 xp.f0, .string xp.f1, .bool fin]) (z := .tuple #[]) (w₁ := wr.drew) rfl (by rfl) (by simp [execOp, scase, Act.eval]) (unhide hc1) (by simp) ?_
          simp only [Act.put, List.getElem_toArray, List.getElem_cons_succ, List.getElem_cons_zero]
          rw [show (#[] : Array Value).push (.agg #[.int .i64 xp.f0, .string xp.f1, .bool fin]) = #[.agg #[.int .i64 xp.f0, .string xp.f1, .bool fin]] from rfl, ← unhide HU]
          refine Lw.done ?_
          refine NoPanic.normal ?_
          clear HU hX hR hS hc1 hc2 hHeld HC0 HC1
          go_wp2_with fail
          refine (unhide HSV).mono ?_
          rintro e w7 ⟨rfl, a7, c7, X7, R7, S7, C7, C8, b7⟩
          have F1 := hide X7
          have F2 := hide R7
          have F3 := hide S7
          have F4 := hide C7
          have F5 := hide C8
          have F6 := hide ((unhide BU).trans b7)
          clear X7 R7 S7 C7 C8 b7 BU HSV
          go_wp2
          go_meet
          exact ⟨rfl, E, a7, c7, s + 1, r + 1, HRE, HP, F1, F2, F3, F4, F5, F6⟩
        · have tin : (decide ((0 : Int) ≤ n) && decide (n ≤ (M : Int))) = false := by
            by_cases q1 : 0 ≤ n
            · rw [decide_eq_false (show ¬ n ≤ (M : Int) from fun q2 => hin ⟨q1, q2⟩)]; simp
            · rw [decide_eq_false q1]; rfl
          have HP : Hid (GoodI D ∧ psS PS (D, out) n = (rdE D 4000, out ++ rdO D 4000)) := by
            refine ⟨(unhide hG).1, ?_⟩
            have e : psS PS (D, out) n = (D, out) := by unfold psS; rw [if_neg (by have := unhide hM; omega)]
            rw [e, (unhide hA).1, (unhide hA).2]
            exact Prod.ext rfl (ByteArray.ext (by rw [ByteArray.data_append]; simp))
          rw [tin]
          clear hin tin
          go_wp2
          go_meet
          exact ⟨rfl, D, a, c, s, r, hide rfl, HP, hX, hR, hS, hc1, hc2, hB⟩
      case rest =>
      obtain ⟨rfl, D2, a2, c2, s2, r2, hre, hP, hX2, hR2, hS2, hd1, hd2, hB2⟩ := hcut
      have OZ : Hid (D2.re = out.size ∧ (out.size : Int) ≤ 4000) := by
        have q1 := (unhide hG).1.r1
        have q2 := (unhide hG).1.l1
        have q3 := (unhide hG).2
        have q4 := unhide hre
        exact ⟨by omega, by omega⟩
      clear hG hA hX hR hS hc1 hc2 hB hre
      obtain ⟨U, hU⟩ : ∃ U, U = wc.setChan y 1 #[.int .i64 4000] false (s' + 1) r' false := ⟨_, rfl⟩
      have yl := (unhide hd2).lt
      have ky : Kq (fun b => b = y) wc U := by rw [hU]; exact Kq.chan wc y (s' + 1) r' _
      have g2 := (unhide hP).1
      have HSV := hide (implSV1 D2 a2 c2 x y q s2 r2 (s' + 1) r' v out w4.heap.size U g2 (by have := unhide OZ; omega) ⟨hx, hxq⟩ ⟨hy, hyq⟩ hxy (by rw [hU]; exact bx_chan (unhide hX2) (by omega)) ((unhide hR2).kq ky (fun b (h : b = y) => by omega)) ((unhide hS2).kq ky (fun b (h : b = y) => by omega)) (by rw [hU]; exact (unhide hd1).other (fun e => hxy e.symm)) (by rw [hU]; exact Chn.set wc y (s' + 1) r' _ yl))
      have BU := hide ((unhide hB2).trans (ky.below (by have := (unhide hB2).size; omega) (fun b (h : b = y) => by omega)))
      have HU := hide hU
      have x6 := (unhide hX2).cv
      have x6l := (unhide hX2).lt
      have sU := ky.size
      have sc := (unhide hB2).size
      have RG := hide (rd_good g2 (most := 4000) (by omega))
      have RA := hide (rd_again g2)
      clear hU ky
      go_upto_region 12 with fail
      refine wp_lw ?_
      refine Lw.value (w' := wc) (v := .pointer (some ⟨q, 0, none⟩)) rfl (by rfl) (by simp [go_sem, execOp, Act.eval]) ?_
      simp only [Act.put, List.getElem_toArray, List.getElem_cons_zero, List.setIfInBounds_toArray, List.set_cons_zero, List.set_cons_succ]
      refine Lw.value (w' := wc) (v := .pointer (some ⟨q, 0, none⟩)) rfl (by rfl) (by simp [go_sem, execOp, Act.eval, *]) ?_
      simp only [Act.put, List.getElem_toArray, List.getElem_cons_succ, List.getElem_cons_zero, List.setIfInBounds_toArray, List.set_cons_zero, List.set_cons_succ]
      refine Lw.value (w' := wc) (v := .pointer (some ⟨q, 5, none⟩)) rfl (by rfl) (by go_simp) ?_
      simp only [Act.put, List.getElem_toArray, List.getElem_cons_succ, List.getElem_cons_zero, List.setIfInBounds_toArray, List.set_cons_zero, List.set_cons_succ]
      refine Lw.value (w' := wc) (v := .chan (some y)) rfl (by rfl) (by go_simp) ?_
      simp only [Act.put, List.getElem_toArray, List.getElem_cons_succ, List.getElem_cons_zero, List.setIfInBounds_toArray, List.set_cons_zero, List.set_cons_succ]
      refine Lw.send (c := y) (cap := 1) (s := s') (r := r') (tm := false) (buf := #[]) (v := .int .i64 4000) (z := .tuple #[]) (w₁ := wc) rfl (by rfl) (by simp [execOp, scase, Act.eval]) (unhide hd2) (by simp) ?_
      simp only [Act.put, List.getElem_toArray, List.getElem_cons_succ, List.getElem_cons_zero]
      rw [show (#[] : Array Value).push (.int .i64 4000) = #[.int .i64 4000] from rfl, ← unhide HU]
      refine Lw.done ?_
      clear x6 x6l HU hd2 hX2 hR2 hS2 hd1 hB2
      go_wp2_with fail
      refine (unhide HSV).mono ?_
      rintro e w7 ⟨rfl, a7, c7, v7, X7, R7, S7, C7, C8, b7⟩
      have F1 := hide X7
      have F2 := hide R7
      have F3 := hide S7
      have F4 := hide C7
      have F5 := hide C8
      have F6 := hide ((unhide BU).trans (b7.mono (Nat.le_refl _)))
      have F7 : Hid ((order.take (k + 1)).foldl (psS PS) (⟨limit, 0, -1, []⟩, ⟨#[]⟩) = (rdE D2 4000, out ++ rdO D2 4000)) := (unhide hF2).trans (unhide hP).2
      have F8 : Hid (GoodI (rdE D2 4000) ∧ (rdE D2 4000).re = ((out ++ rdO D2 4000).size : Int)) := ⟨(unhide RG).1, by rw [(unhide RG).2.1, ByteArray.size_append]; have := unhide OZ; omega⟩
      have F9 : Hid (rdE (rdE D2 4000) 4000 = rdE D2 4000 ∧ rdO (rdE D2 4000) 4000 = ⟨#[]⟩) := unhide RA
      clear X7 R7 S7 C7 C8 b7 BU HSV hF2 hP RG RA
      go_wp2
      exact ⟨⟨k + 1, _, _, a7, c7, v7, s2, r2, s' + 1, r' + 1, by omega, by go_num, F7, F8, F9, F1, F2, F3, F4, F5, F6⟩, by simp [intOf]; omega⟩
    · obtain rfl : k = order.length := by omega
      rw [List.take_length] at hF
      have hFF : FF = (D, out) := (unhide HF).trans (unhide hF)
      clear HF hF
      subst hFF
      have g := (unhide hG).1
      have HID := hide (implID D a c wr (good_ok g) (unhide hR).sl.2.2 (giB_iff.2 g))
      have HD : Hid (decide (D.re = D.fi) = decide (D.fi = D.re)) := decide_eq_decide.2 eq_comm
      have x6 := (unhide hX).cv
      have x6l := (unhide hX).lt
      obtain ⟨bD, hbD⟩ : ∃ t, t = decide (D.re = D.fi) := ⟨_, rfl⟩
      rw [← hbD] at HID HD
      clear hbD g
      go_wp2_with fail
      refine (unhide HID).mono ?_
      rintro e w6 ⟨rfl, b6⟩
      have X6 := (unhide hX).below b6
      have y6 := X6.cv
      have y6l := X6.lt
      have cv := ((unhide hS).below b6).string
      have B6 := hide ((unhide B4).trans (((unhide hB).trans (b6.mono (unhide hB).size)).mono (unhide B4).size))
      obtain ⟨va, vn, vc, rfl⟩ := (unhide hS).opens
      clear x6 x6l X6 b6 HID
      go_wp2
      go_ret3
      exact ⟨by rw [← unhide HD]; rfl, unhide B6⟩
end Go.Proofs.Ytmicpknilhiliaa.Rc
