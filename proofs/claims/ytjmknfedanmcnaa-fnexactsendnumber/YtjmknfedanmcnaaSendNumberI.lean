/-
  Contract: SendNumber of the program.
-/
import Derived.Test.YtjmknfedanmcnaaGoodSpaceI
import Derived.Test.YtjmknfedanmcnaaSpn
import Derived.Test.YtjmknfedanmcnaaLps
namespace Go.Proofs.Ytjmknfedanmcnaa.Rc
open Go.ChangeShapes Go.WideShapes Go.ChangeAt Go.RowKit Go.Deep
set_option linter.unusedVariables false
set_option maxRecDepth 100000

theorem gt_l (S : List SentD) (x : SentD) (j : Nat) (h : j < S.length) : gt sentK (S ++ [x]) j = gt sentK S j := by simp [gt, List.getD, List.getElem?_append_left h]
theorem gt_r (S : List SentD) (x : SentD) : gt sentK (S ++ [x]) S.length = x := by simp [gt, List.getD]
theorem orB_l (S : List SentD) (x : SentD) (j : Nat) (h : j < S.length) : orB (S ++ [x]) j = orB S j := by
  unfold orB
  rw [gt_l S x j h]
  cases j with
  | zero => simp
  | succ i => rw [show i + 1 - 1 = i by omega, gt_l S x i (by omega)]
theorem orB_r (S : List SentD) (x : SentD) : orB (S ++ [x]) S.length = (osB x && foB S S.length x) := by
  unfold orB foB
  rw [gt_r]
  cases h : S.length with
  | zero => simp
  | succ i => rw [show i + 1 - 1 = i by omega, gt_l S x i (by omega)]
theorem allS_app (S : List SentD) (x : SentD) : allS (S ++ [x]) = (allS S && (osB x && foB S S.length x)) := by
  unfold allS
  rw [List.length_append, List.length_singleton, List.range_succ, List.all_append]
  have e1 : (List.range S.length).all (orB (S ++ [x])) = (List.range S.length).all (orB S) := by
    rw [Bool.eq_iff_iff, List.all_eq_true, List.all_eq_true]
    constructor
    · intro h j hj
      rw [← orB_l S x j (List.mem_range.1 hj)]
      exact h j hj
    · intro h j hj
      rw [orB_l S x j (List.mem_range.1 hj)]
      exact h j hj
  rw [e1]
  simp only [List.all_cons, List.all_nil, Bool.and_true]
  rw [orB_r]
/-- whether a packet goes out, as the program asks -/
theorem sn_alt (D : SpaceD) (x : SentD) (hg : gsB D = true) (h60 : D.S.length ≠ 60) : snB D x = (osB x && (foB D.S D.S.length x && decide (D.lg < x.f0))) := by
  have g := hg
  unfold gsB at g
  simp only [Bool.and_eq_true, decide_eq_true_eq] at g
  obtain ⟨g1, ⟨g2, g3⟩, g4, g5⟩ := g
  have e : gsB ⟨D.lg, D.S ++ [x], D.r⟩ = (osB x && foB D.S D.S.length x) := by
    unfold gsB
    dsimp only
    rw [allS_app, g1, decide_eq_true g2, decide_eq_true g3, g5, List.length_append, List.length_singleton, decide_eq_true (show D.S.length + 1 ≤ 60 by omega)]
    simp
  unfold snB
  rw [hg, decide_eq_true h60, e]
  rw [Bool.eq_iff_iff]
  simp only [Bool.and_eq_true, decide_eq_true_eq]
  unfold laS foB osB knB tkB
  simp only [Bool.and_eq_true, decide_eq_true_eq]
  split
  · rename_i h0
    simp only
    constructor
    · rintro ⟨_, _, h1, h2, h3, h4⟩
      exact ⟨h4.1, h4.2, h2⟩
    · rintro ⟨h1, h2, h3⟩
      exact ⟨trivial, trivial, by omega, h3, by omega, h1, h2⟩
  · rename_i h0
    constructor
    · rintro ⟨_, _, h1, h2, h3, h4⟩
      exact ⟨h4.1, h4.2, h2⟩
    · rintro ⟨h1, h2, h3⟩
      rcases h2 with h2 | h2
      · exact absurd h2 h0
      · exact ⟨trivial, trivial, h2.1, h3, h2.2, h1, Or.inr h2⟩
/-- what is answered -/
def SNQ (D : SpaceD) (x : SentD) (W : World) (e : Ending) (w' : World) : Prop := ∃ (a : Option Addr) (c : Nat), e = .returned (.tuple #[spaceV (snD D x (snB D x)) a c, .bool (snB D x)]) ∧ Ri sentK W.heap.size w'.heap.size w' a (snD D x (snB D x)).S ∧ Below W.heap.size W w'
theorem SNQ.no {D : SpaceD} {x : SentD} {W w' : World} (h : snB D x = false) (b : Below W.heap.size W w') : SNQ D x W (.returned (.tuple #[.agg spaceZ.toArray, .bool false])) w' := ⟨none, 0, by rw [h]; rfl, by rw [h]; exact Or.inl rfl, b⟩
theorem SNQ.yes {D : SpaceD} {x : SentD} {W w' : World} {a : Option Addr} {c : Nat} (h : snB D x = true) (hr : Ri sentK W.heap.size w'.heap.size w' a (D.S ++ [x])) (b : Below W.heap.size W w') : SNQ D x W (.returned (.tuple #[spaceV ⟨D.lg, D.S ++ [x], D.r⟩ a c, .bool true])) w' := ⟨a, c, by rw [h]; rfl, by rw [h]; exact hr, b⟩
set_option maxHeartbeats 8000000 in
theorem implSN (D : SpaceD) (x : SentD) (hn : D.S.length ≤ 1048576) (W : World) (a : Option Addr) (c : Nat) (hc : D.S.length ≤ c) (h : RdSpace W a D) :
    Calls Try.prog 31 #[spaceV D a c, sentV x] W (SNQ D x W) := by
  obtain ⟨V0, hV0⟩ : ∃ V, V = ((W.alloc (.cells (spaceC D a c).toArray 50)).alloc (.cells (sentC x).toArray 58)).alloc (.cells spaceZ.toArray 50) := ⟨_, rfl⟩
  have A0 := hide (show Bx V0 W.heap.size (spaceC D a c) by rw [hV0]; exact ((Bx.new W _ _).alloc _).alloc _)
  have X0 := hide (show Bx V0 (W.heap.size + 1) (sentC x) by rw [hV0]; exact (Bx.newAt (W.alloc _) _ _ _ (by simp)).alloc _)
  have R0 := hide (show Bx V0 (W.heap.size + 1 + 1) spaceZ by rw [hV0]; exact Bx.newAt ((W.alloc _).alloc _) _ _ _ (by simp))
  have B0 := hide (show Below W.heap.size W V0 by rw [hV0]; exact (((Below.refl W.heap.size W).alloc (Nat.le_refl _) _).alloc (by simp) _).alloc (by simp; omega) _)
  have HG := hide (implGS D hn V0 a c hc (h.below (unhide B0)))
  have HO := hide (implOs x)
  have HF := hide (fun V (b : Below W.heap.size W V) => implFo a D.S.length c D.S x V (Nat.le_refl _) hn (h.below b))
  have HL := hide (fun V (b : Below W.heap.size W V) => listSent a c D.S V hn (h.below b))
  have NO : Hid (∀ V, snB D x = false → Below W.heap.size W V → SNQ D x W (.returned (.tuple #[.agg spaceZ.toArray, .bool false])) V) := fun V h b => SNQ.no h b
  have HV0 := hide hV0
  have a0 := (unhide A0).cv
  clear h hV0
  cases hg : gsB D with
  | false =>
    have HE : Hid (snB D x = false) := by show _ = _; unfold snB; rw [hg]; rfl
    rw [hg] at HG
    clear HF HL HO hg hc
    go_enter Try.func31, Try.ntmps31
    go_upto_region 1 with fail
    rw [← unhide HV0]
    clear HV0
    go_wp2_with fail
    refine (unhide HG).mono ?_
    rintro e w2 ⟨rfl, b2⟩
    have B2 := hide ((unhide B0).trans (b2.mono (unhide B0).size))
    have r2 := ((unhide R0).below b2).cv
    have r2f := ((unhide R0).below b2).fz
    have r2l := ((unhide R0).below b2).lt
    clear b2 A0 X0 R0 B0 a0
    go_wp2
    refine bodyPost_ret (v := .tuple #[.agg spaceZ.toArray, .bool false]) (by simp [results, Try.results31, go_sem, r2]) rfl (unhide NO _ (unhide HE) ?_)
    iterate 7 refine Below.setCell ?_ (by simp <;> omega) _
    exact unhide B2
  | true =>
    rw [hg] at HG
    by_cases g1 : D.S.length = 60
    · have HE : Hid (snB D x = false) := by show _ = _; unfold snB; rw [hg, decide_eq_false (fun h => h g1)]; rfl
      have t1 : ((D.S.length : Int) == 60) = true := beq_iff_eq.2 (by omega)
      clear HF HL HO hg hc g1
      go_enter Try.func31, Try.ntmps31
      go_upto_region 1 with fail
      rw [← unhide HV0]
      clear HV0
      go_wp2_with fail
      refine (unhide HG).mono ?_
      rintro e w2 ⟨rfl, b2⟩
      have B2 := hide ((unhide B0).trans (b2.mono (unhide B0).size))
      have a2 := ((unhide A0).below b2).cv
      have r2 := ((unhide R0).below b2).cv
      have r2f := ((unhide R0).below b2).fz
      have r2l := ((unhide R0).below b2).lt
      clear b2 A0 X0 R0 B0 a0
      go_wp2
      refine bodyPost_ret (v := .tuple #[.agg spaceZ.toArray, .bool false]) (by simp [results, Try.results31, go_sem, r2]) rfl (unhide NO _ (unhide HE) ?_)
      iterate 7 refine Below.setCell ?_ (by simp <;> omega) _
      exact unhide B2
    · have t1 : ((D.S.length : Int) == 60) = false := beq_eq_false_iff_ne.2 (by omega)
      have h60 : D.S.length ≤ 60 := by have h9 := hg; unfold gsB at h9; simp only [Bool.and_eq_true, decide_eq_true_eq] at h9; exact h9.2.2.1
      have hsn := hide (sn_alt D x hg g1)
      obtain ⟨x0, x1, x2'⟩ := x
      clear hg g1 hc
      generalize osB ⟨x0, x1, x2'⟩ = r1 at *
      generalize foB D.S D.S.length ⟨x0, x1, x2'⟩ = r2 at *
      go_enter Try.func31, Try.ntmps31
      go_upto_region 1 with fail
      rw [← unhide HV0]
      clear HV0
      go_wp2_with fail
      refine (unhide HG).mono ?_
      rintro e w2 ⟨rfl, b2⟩
      have B2 := hide ((unhide B0).trans (b2.mono (unhide B0).size))
      have A2 := hide ((unhide A0).below b2)
      have X2 := hide ((unhide X0).below b2)
      have R2 := hide ((unhide R0).below b2)
      clear b2 A0 X0 R0 B0 a0 HG
      have a2 := (unhide A2).cv
      have x2 := (unhide X2).cv
      go_wp2_with fail
      refine (unhide HO _).mono ?_
      rintro e w3 ⟨rfl, b3⟩
      have B3 := hide ((unhide B2).trans (b3.mono (unhide B2).size))
      have A3 := hide ((unhide A2).below b3)
      have X3 := hide ((unhide X2).below b3)
      have R3 := hide ((unhide R2).below b3)
      clear b3 A2 X2 R2 B2 a2 x2 HO
      cases r1 with
      | false =>
        have HE : Hid (snB D ⟨x0, x1, x2'⟩ = false) := by show _ = _; rw [unhide hsn]; rfl
        have r3 := (unhide R3).cv
        have r3f := (unhide R3).fz
        have r3l := (unhide R3).lt
        clear hsn HF HL A3 X3 R3
        go_wp2
        refine bodyPost_ret (v := .tuple #[.agg spaceZ.toArray, .bool false]) (by simp [results, Try.results31, go_sem, r3]) rfl (unhide NO _ (unhide HE) ?_)
        iterate 7 refine Below.setCell ?_ (by simp <;> omega) _
        exact unhide B3
      | true =>
        have a3 := (unhide A3).cv
        have x3 := (unhide X3).cv
        go_wp2_with fail
        refine (unhide HF _ (unhide B3)).mono ?_
        rintro e w4 ⟨rfl, b4⟩
        have B4 := hide ((unhide B3).trans (b4.mono (unhide B3).size))
        have A4 := hide ((unhide A3).below b4)
        have X4 := hide ((unhide X3).below b4)
        have R4 := hide ((unhide R3).below b4)
        clear b4 A3 X3 R3 B3 a3 x3 HF
        have r4 := (unhide R4).cv
        have r4f := (unhide R4).fz
        have r4l := (unhide R4).lt
        cases r2 with
        | false =>
          have HE : Hid (snB D ⟨x0, x1, x2'⟩ = false) := by show _ = _; rw [unhide hsn]; rfl
          clear hsn HL A4 X4 R4
          go_wp2
          refine bodyPost_ret (v := .tuple #[.agg spaceZ.toArray, .bool false]) (by simp [results, Try.results31, go_sem, r4]) rfl (unhide NO _ (unhide HE) ?_)
          iterate 7 refine Below.setCell ?_ (by simp <;> omega) _
          exact unhide B4
        | true =>
          have a4 := (unhide A4).cv
          have x4 := (unhide X4).cv
          by_cases g3 : D.lg < x0
          · have HE : Hid (snB D ⟨x0, x1, x2'⟩ = true) := by show _ = _; rw [unhide hsn, decide_eq_true g3]; rfl
            have t3 : ¬ x0 ≤ D.lg := by omega
            have YES : Hid (∀ V aa cc, Below W.heap.size W V → Ri sentK W.heap.size V.heap.size V aa (D.S ++ [(⟨x0, x1, x2'⟩ : SentD)]) → SNQ D ⟨x0, x1, x2'⟩ W (.returned (.tuple #[.agg #[.int .i64 D.lg, .slice aa (D.S.length + 1) cc, .bool D.r.kn, .int .i64 D.r.la, .int .i64 D.r.mi, .int .i64 D.r.sm, .int .i64 D.r.va], .bool true])) V) := fun V aa cc b hr => by
              have h9 := SNQ.yes (c := cc) (unhide HE) hr b
              unfold spaceV at h9
              dsimp only at h9
              rw [List.length_append, List.length_singleton] at h9
              exact h9
            clear hsn g3 r4 r4f r4l
            go_wp2_with fail
            refine (unhide HL _ (unhide B4)).mono ?_
            rintro e w5 ⟨v5, rfl, o5, b5⟩
            obtain ⟨aa5, cc5, rfl⟩ := o5.opens
            obtain ⟨V, hV⟩ : ∃ V, V = w5.alloc (.cells #[.slice aa5 D.S.length cc5] 85) := ⟨_, rfl⟩
            have hAl : Below w5.heap.size w5 V := by rw [hV]; exact (Below.refl _ _).alloc (Nat.le_refl _) _
            have bV := b5.trans (hAl.mono b5.size)
            have LV := (show Bx V w5.heap.size [.slice aa5 D.S.length cc5] by rw [hV]; exact Bx.new w5 _ _)
            have AV := hide ((unhide A4).below bV)
            have XV := hide ((unhide X4).below bV)
            have RV := hide ((unhide R4).below bV)
            have BV := hide ((unhide B4).trans (bV.mono (unhide B4).size))
            have hwl : W.heap.size + 1 + 1 < w4.heap.size := (unhide R4).lt
            have hw5 := b5.size
            have OV := o5.below hAl
            have hob : ∀ q, (Value.slice aa5 D.S.length cc5).ownBlock = some q → w4.heap.size + 1 ≤ q ∧ q < w5.heap.size := fun q e => World.ownsRow.lt (w := w5) o5 q e
            have HP := hide (putGSent w5.heap.size (w4.heap.size + 1) _ D.S ⟨x0, x1, x2'⟩ V (by omega) (by have := hAl.size; have := LV.lt; omega) LV OV (fun e => by have := hob _ e; omega))
            have HOB := hide hob
            have HV := hide hV
            have hg5 : w4.heap.size ≤ w5.heap.size := hw5
            have x9 := (unhide XV).cv
            have x9l := (unhide XV).lt
            clear hV hAl bV LV o5 OV b5 hw5 hob B4 A4 X4 R4 a4 x4 HL
            go_upto_region 6 with fail
            rw [← unhide HV]
            clear HV
            go_wp2_with fail
            refine (unhide HP).mono ?_
            rintro e w6 ⟨rfl, v6, g6, o6, _, k6⟩
            obtain ⟨a6, c6, rfl, _, i6⟩ := o6.form
            have hln : (D.S ++ [(⟨x0, x1, x2'⟩ : SentD)]).length = D.S.length + 1 := by rw [List.length_append]; rfl
            rw [hln] at g6
            have K6 : Kq (fun q => w4.heap.size ≤ q) V w6 := k6.imp (fun q hq => by
              rcases hq with rfl | hq
              · exact hg5
              · have := unhide HOB q hq; omega)
            have A6 := (unhide AV).kept K6.size (K6.block _ (unhide AV).lt (by omega))
            have R6 := (unhide RV).kept K6.size (K6.block _ (unhide RV).lt (by omega))
            have B6 := (unhide BV).trans (K6.below (unhide BV).size (fun q hq => by omega))
            obtain ⟨V9, hV9⟩ : ∃ V, V = w6.setCell ⟨W.heap.size, 1, none⟩ (.slice a6 (D.S.length + 1) c6) := ⟨_, rfl⟩
            have A9 : Bx V9 W.heap.size [.int .i64 D.lg, .slice a6 (D.S.length + 1) c6, .bool D.r.kn, .int .i64 D.r.la, .int .i64 D.r.mi, .int .i64 D.r.sm, .int .i64 D.r.va] := by rw [hV9]; exact A6.set (i := 1) (by simp)
            have R9 : Bx V9 (W.heap.size + 1 + 1) spaceZ := by rw [hV9]; exact R6.other (by omega)
            have kq9 : Kq (fun q => q = W.heap.size) w6 V9 := by rw [hV9]; exact (Kq.refl _ _).set rfl
            have I9 := hide (i6.kq kq9 (fun q hq => Or.inl (by omega)))
            have B9 := hide (show Below W.heap.size W V9 by rw [hV9]; exact B6.setCell (p := ⟨W.heap.size, 1, none⟩) (Nat.le_refl _) _)
            have hz9 : w6.heap.size = V9.heap.size := by rw [hV9]; simp
            have HZ9 := hide hz9
            have HV9 := hide hV9
            have a6c := A6.cv
            have a6f := A6.fz
            have a6l := A6.lt
            have g6c := g6.cv
            have g6l := g6.lt
            have a9c := A9.cv
            have r9 := R9.cv
            have r9f := R9.fz
            have r9l := R9.lt
            have hne9 : W.heap.size ≠ w5.heap.size := by omega
            clear k6 o6 i6 K6 A6 R6 B6 hV9 kq9 hz9 A9 R9 g6 AV XV RV BV HP HOB x9 x9l hln
            go_upto_region 8 with fail
            rw [← unhide HV9]
            clear HV9 a6c a6f g6c
            have RDF : Hid (∀ U, Kq (fun q => q = W.heap.size + 1 + 1) V9 U → w6.heap.size ≤ U.heap.size → Ri sentK W.heap.size U.heap.size U a6 (D.S ++ [(⟨x0, x1, x2'⟩ : SentD)])) := fun U k hz => ((unhide I9).kq k (fun q hq => Or.inl (by omega))).mono (by omega) hz
            go_wp2
            refine bodyPost_ret (v := .tuple #[.agg #[.int .i64 D.lg, .slice a6 (D.S.length + 1) c6, .bool D.r.kn, .int .i64 D.r.la, .int .i64 D.r.mi, .int .i64 D.r.sm, .int .i64 D.r.va], .bool true]) (by simp [results, Try.results31, go_sem, r9]) rfl (unhide YES _ _ _ ?_ (unhide RDF _ ?_ ?_))
            · iterate 7 refine Below.setCell ?_ (by simp <;> omega) _
              exact unhide B9
            · iterate 7 refine Kq.set ?_ rfl
              exact Kq.refl _ _
            · have := unhide HZ9; simp; omega
          · have HE : Hid (snB D ⟨x0, x1, x2'⟩ = false) := by show _ = _; rw [unhide hsn, decide_eq_false g3]; simp
            have t3 : x0 ≤ D.lg := by omega
            clear hsn HL A4 X4 R4 g3
            go_wp2
            refine bodyPost_ret (v := .tuple #[.agg spaceZ.toArray, .bool false]) (by simp [results, Try.results31, go_sem, r4]) rfl (unhide NO _ (unhide HE) ?_)
            iterate 7 refine Below.setCell ?_ (by simp <;> omega) _
            exact unhide B4
end Go.Proofs.Ytjmknfedanmcnaa.Rc
