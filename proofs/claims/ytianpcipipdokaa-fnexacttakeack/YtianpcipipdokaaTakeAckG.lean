/-
  The law on TakeAck, walked out of the contracts of both sides.
-/
import Derived.Test.YtianpcipipdokaaSpc
import Derived.Test.YtianpcipipdokaaRci
import Derived.Test.YtianpcipipdokaaRcRange
import Derived.Deep.RegionHeld3
namespace Go.Proofs.Ytianpcipipdokaa.Rc
open Go.ChangeShapes Go.WideShapes Go.ChangeAt Go.RowKit Go.Deep
set_option linter.unusedVariables false
set_option maxRecDepth 100000

theorem Rb.pl {α : Type} {K : Kd α} {base g : Nat} {w : World} {a : Option Addr} {L : List α} (h : Rb K base w a L g) (hn : L ≠ []) : base ≤ g ∧ g < w.heap.size := by
  rcases h with h | ⟨_, h1, h2⟩
  · exact absurd h hn
  · exact ⟨h1, h2.lt⟩
theorem Kq.top {P : Nat → Prop} {w w' : World} {n : Nat} (h : Kq (fun q => n ≤ q) w w') (hn : w.heap.size ≤ n) : Kq P w w' := ⟨h.os, h.tape, h.output, h.size, fun q hq _ => h.block q hq (fun p => by omega)⟩
/-- a row of numbers marked, wherever it lies -/
theorem markI_rb (g base : Nat) (a : Option Addr) (cap : Nat) (L : List Int) (k0 : Nat) (w : World) (hn : L.length ≤ 1048576) (hk0 : k0 ≤ 100000000) (h : Rb intK base w a L g) :
    Calls Try.prog 15 #[.slice a L.length cap, .int .i64 k0] w fun e w' => e = .returned (.int .i64 ((k0 + L.length : Nat) : Int)) ∧ Rn w' a L.length (intM k0) g ∧ Kq (fun q => L ≠ [] ∧ q = g) w w' := by
  by_cases h0 : L = []
  · refine (markIntS_any w.heap.size base a cap L k0 w hn hk0 (Or.inl h0)).mono ?_
    rintro e w' ⟨rfl, h1, h2⟩
    exact ⟨rfl, Or.inl (by rw [h0]; rfl), (h2.imp (fun q hq => Nat.le_of_eq hq.symm)).top (Nat.le_refl _)⟩
  · refine (markIntS_any g base a cap L k0 w hn hk0 h).mono ?_
    rintro e w' ⟨rfl, h1, h2⟩
    exact ⟨rfl, h1, h2.imp (fun q hq => ⟨h0, hq⟩)⟩
/-- a space marked, wherever its row lies -/
theorem markSp_rb (g base : Nat) (D : SpaceD) (a : Option Addr) (c k0 : Nat) (w : World) (hn : D.S.length ≤ 1048576) (hk0 : k0 ≤ 100000000) (h : Rb sentK base w a D.S g) :
    Calls Try.prog 13 #[spaceV D a c, .int .i64 k0] w fun e w' => e = .returned (.int .i64 ((k0 + D.S.length * 3 : Nat) : Int)) ∧ Rn w' a (D.S.length * 3) (sentM k0) g ∧ Kq (fun q => D.S ≠ [] ∧ q = g) w w' := by
  by_cases h0 : D.S = []
  · refine (markSpace_any w.heap.size w.heap.size D a c k0 w hn hk0 (Nat.le_refl _) (Or.inl h0)).mono ?_
    rintro e w' ⟨rfl, h1, h2⟩
    exact ⟨rfl, Or.inl (by rw [h0]; rfl), (h2.imp (fun q hq => hq.1)).top (Nat.le_refl _)⟩
  · have hp := h.pl h0
    have hr : Ri sentK g (g + 1) w a D.S := by
      rcases h with h | ⟨e, _, h⟩
      · exact absurd h h0
      · exact Or.inr ⟨g, e, ⟨Nat.le_refl _, Nat.lt_succ_self _⟩, h⟩
    refine (markSpace_any g (g + 1) D a c k0 w hn hk0 (by omega) hr).mono ?_
    rintro e w' ⟨rfl, h1, h2⟩
    refine ⟨rfl, ?_, h2.imp (fun q hq => ⟨h0, by omega⟩)⟩
    rcases h1 with h1 | ⟨g', e, hg, h1⟩
    · exact Or.inl h1
    · have : g' = g := by omega
      subst this
      exact Or.inr ⟨e, h1⟩
theorem heldSp_rn (g : Nat) (D : SpaceD) (a : Option Addr) (c k0 : Nat) (w : World) (hn : D.S.length ≤ 1048576) (hk0 : k0 ≤ 100000000) (h : Rn w a (D.S.length * 3) (sentM k0) g) :
    Calls Try.prog 16 #[spaceV D a c, .int .i64 k0] w fun e w' => e = .returned (.int .i64 ((k0 + D.S.length * 3 : Nat) : Int)) ∧ Below w.heap.size w w' :=
  heldSpace_any g (g + 1) D a c k0 w hn hk0 (h.imp id fun ⟨e, h⟩ => ⟨g, e, ⟨Nat.le_refl _, Nat.lt_succ_self _⟩, h⟩)
theorem Rb.kz {α : Type} {K : Kd α} {base g : Nat} {w w' : World} {a : Option Addr} {L : List α} {P : Nat → Prop} (h : Rb K base w a L g) (k : Kq P w w') (hP : L ≠ [] → ¬ P g) : Rb K base w' a L g := by
  by_cases h0 : L = []
  · exact Or.inl h0
  · exact h.kq k (hP h0)
theorem Rn.kz {w w' : World} {a : Option Addr} {N : Nat} {f : Nat → Value} {g : Nat} {P : Nat → Prop} (h : Rn w a N f g) (k : Kq P w w') (hP : N ≠ 0 → ¬ P g) : Rn w' a N f g := by
  by_cases h0 : N = 0
  · exact Or.inl h0
  · exact h.kq k (hP h0)
/-- what is answered: a space and two rows of numbers, each in a block of its own -/
def TQ (E : SpaceD) (A1 A2 : List Int) (r : Bool) (W : World) (e : Ending) (w' : World) : Prop :=
  ∃ (a0 : Option Addr) (c0 : Nat) (a1 : Option Addr) (c1 : Nat) (a2 : Option Addr) (c2 g0 g1 g2 : Nat),
    e = .returned (.tuple #[spaceV E a0 c0, .slice a1 A1.length c1, .slice a2 A2.length c2, .bool r]) ∧
    Rb sentK W.heap.size w' a0 E.S g0 ∧ Rb intK W.heap.size w' a1 A1 g1 ∧ Rb intK W.heap.size w' a2 A2 g2 ∧ g0 ≠ g1 ∧ g0 ≠ g2 ∧ g1 ≠ g2 ∧ Below W.heap.size W w'
set_option maxHeartbeats 16000000 in
theorem takeAck_given (D : SpaceD) (L : List RangeD) (now de : Int) (E : SpaceD) (A1 A2 : List Int) (r3 : Bool) (w : World) (a : Option Addr) (c : Nat) (aL : Option Addr) (cL : Nat) (m : D.S.length ≤ maxLen) (mL : L.length ≤ maxLen) (h : RdSpace w a D) (hL : Rd rangeK w aL L) (hE : E.S.length ≤ 1048576) (hA1 : A1.length ≤ 1048576) (hA2 : A2.length ≤ 1048576)
    (HS : D.S.length ≤ 1048576 → L.length ≤ 1048576 → ∀ (W : World) (a : Option Addr) (c : Nat) (aL : Option Addr) (cL : Nat) (_ : RdSpace W a D) (_ : Rd rangeK W aL L), Calls Try.prog 6 #[spaceV D a c, .slice aL L.length cL, .int .i64 now, .int .i64 de] W (TQ E A1 A2 r3 W))
    (HI : D.S.length ≤ 1048576 → L.length ≤ 1048576 → ∀ (W : World) (a : Option Addr) (c : Nat) (aL : Option Addr) (cL : Nat) (_ : RdSpace W a D) (_ : Rd rangeK W aL L) (_ : D.S.length ≤ c), Calls Try.prog 9 #[spaceV D a c, .slice aL L.length cL, .int .i64 now, .int .i64 de] W (TQ E A1 A2 r3 W)) :
    Calls Try.prog 3 #[spaceV D a c, .slice aL L.length cL, .int .i64 now, .int .i64 de] w fun e w' => e = .returned (.bool true) ∧ Below w.heap.size w w' := by
  have HZ := hide (fun W => szSpace_any D a c 1048576 W m (Nat.le_refl _))
  have HZL := hide (fun (z : Nat) W (hz : z ≤ 1048576) => szRangeS_any aL L.length cL z W mL hz)
  have H1' := hide (fun (hs : D.S.length ≤ 1048576) W (b : Below w.heap.size w W) => toSpace_any D a c W hs (h.below b))
  have HT' := hide (fun (hs : L.length ≤ 1048576) W (b : Below w.heap.size w W) => toRangeS_any aL cL L W hs (hL.below b))
  obtain ⟨V0, hV0⟩ : ∃ V, V = w.alloc (.cells (spaceC D a c).toArray 26) := ⟨_, rfl⟩
  have P4 := hide (show Bx V0 w.heap.size (spaceC D a c) by rw [hV0]; exact Bx.new w _ _)
  have B0 := hide (show Below w.heap.size w V0 by rw [hV0]; exact (Below.refl w.heap.size w).alloc (Nat.le_refl _) _)
  have HV0 := hide hV0
  have H2' := hide HS
  have H3' := hide HI
  have z0 := (unhide P4).cv
  clear h hL HS HI hV0
  go_enter Try.func3, Try.ntmps3
  go_upto_region 1 with fail
  rw [← unhide HV0]
  clear HV0
  go_wp2_with fail
  refine (unhide HZ _).mono ?_
  rintro e V1 ⟨he, b1⟩
  replace B0 := hide ((unhide B0).trans (b1.mono (unhide B0).size))
  replace P4 := hide ((unhide P4).below b1)
  clear b1 HZ z0
  rcases he with rfl | ⟨z, rfl, hz1, hs⟩
  · go_wp2
    go_ret
    exact ⟨rfl, unhide B0⟩
  have hz : ¬ (z : Int) < 0 := by omega
  go_wp2_with fail
  refine (unhide HZL z _ hz1).mono ?_
  rintro e w9 ⟨he, h9⟩
  rw [h9]
  clear h9 w9 HZL
  rcases he with rfl | ⟨y, rfl, hy1, hsL⟩
  · go_wp2
    go_ret
    exact ⟨rfl, unhide B0⟩
  have hy : ¬ (y : Int) < 0 := by omega
  have hsL' : L.length ≤ 1048576 := by omega
  have H1 := hide (unhide H1' hs)
  have HT := hide (unhide HT' hsL')
  have H2 := hide (unhide H2' hs hsL')
  have H3 := hide (unhide H3' hs hsL')
  have H4 := hide (fun a c a' c' W (h : RdSpace W a D) (h' : RdSpace W a' D) => eqSpace_same D a a' c c' W hs h h')
  have H5 := hide (fun a c a' c' W (h : RdSpace W a E) (h' : RdSpace W a' E) => eqSpace_same E a a' c c' W hE h h')
  have H6 := hide (fun a c a' c' W (h : Rd rangeK W a L) (h' : Rd rangeK W a' L) => eqRangeS_same a a' c c' L W hsL' h h')
  have H7 := hide (fun a c a' c' W (h : Rd intK W a A1) (h' : Rd intK W a' A1) => eqIntS_same a a' c c' A1 W hA1 h h')
  have H8 := hide (fun a c a' c' W (h : Rd intK W a A2) (h' : Rd intK W a' A2) => eqIntS_same a a' c c' A2 W hA2 h h')
  have HSZ := hide (And.intro hs hsL')
  clear hs hsL hsL' H1' HT' H2' H3' hz1 hy1
  have z1 := (unhide P4).cv
  go_wp2_with fail
  refine (unhide H1 _ (unhide B0)).mono ?_
  rintro e w2 ⟨g2, rfl, i2, b2⟩
  have TR := hide (Ri.rd i2)
  replace B0 := hide ((unhide B0).trans (b2.mono (unhide B0).size))
  replace P4 := hide ((unhide P4).below b2)
  clear i2 b2 z1
  go_wp2_with fail
  refine (unhide HT _ (unhide B0)).mono ?_
  rintro e w3 ⟨g3, rfl, i3, b3⟩
  have TL := hide (Ri.rd i3)
  replace TR := hide ((unhide TR).below b3)
  replace B0 := hide ((unhide B0).trans (b3.mono (unhide B0).size))
  replace P4 := hide ((unhide P4).below b3)
  clear i3 b3
  go_wp2_with fail
  refine (unhide H2 _ _ _ _ _ (unhide TR) (unhide TL)).mono ?_
  rintro e w4 ⟨aw0, cw0, aw1, cw1, aw2, cw2, gw0, gw1, gw2, rfl, i0, i1, i2, _, _, _, b4⟩
  obtain ⟨V4, hV4⟩ : ∃ V, V = w4.alloc (.cells (spaceC E aw0 cw0).toArray 33) := ⟨_, rfl⟩
  have AL : Below w4.heap.size w4 V4 := by rw [hV4]; exact (Below.refl _ _).alloc (Nat.le_refl _) _
  have bV := b4.trans (AL.mono b4.size)
  have P10 := hide (show Bx V4 w4.heap.size (spaceC E aw0 cw0) by rw [hV4]; exact Bx.new w4 _ _)
  have WR0 := hide ((i0.below AL).rd)
  have WR1 := hide ((i1.below AL).rd)
  have WR2 := hide ((i2.below AL).rd)
  replace P4 := hide ((unhide P4).below bV)
  have B04 := hide ((unhide B0).trans (bV.mono (unhide B0).size))
  have s4 : w4.heap.size < V4.heap.size := (unhide P10).lt
  have B4 := hide (Below.refl V4.heap.size V4)
  have HV4 := hide hV4
  clear hV4 AL bV i0 i1 i2 b4 TR TL B0 H2
  go_upto_region 9 with fail
  rw [← unhide HV4]
  clear HV4
  have z1 := (unhide P4).cv
  go_wp2_with fail
  refine (unhide H1 _ (unhide B04)).mono ?_
  rintro e w5 ⟨g5, rfl, i5, b5⟩
  obtain ⟨V5, hV5⟩ : ∃ V, V = w5.alloc (.cells (spaceC D (some ⟨g5, 0, none⟩) D.S.length).toArray 33) := ⟨_, rfl⟩
  have AL : Below w5.heap.size w5 V5 := by rw [hV5]; exact (Below.refl _ _).alloc (Nat.le_refl _) _
  have bV := b5.trans (AL.mono b5.size)
  have P14 := hide (show Bx V5 w5.heap.size (spaceC D (some ⟨g5, 0, none⟩) D.S.length) by rw [hV5]; exact Bx.new w5 _ _)
  have X0 := hide (i5.below AL)
  replace B4 := hide ((unhide B4).trans (bV.mono (unhide B4).size))
  have s5 : V4.heap.size ≤ w5.heap.size := b5.size
  have s5' : w5.heap.size < V5.heap.size := (unhide P14).lt
  have HV5 := hide hV5
  clear hV5 AL bV i5 b5 z1
  go_upto_region 10 with fail
  rw [← unhide HV5]
  clear HV5
  go_wp2_with fail
  refine (unhide HT _ ((unhide B04).trans ((unhide B4).mono (unhide B04).size))).mono ?_
  rintro e w6 ⟨g6, rfl, i6, b6⟩
  have X1 := hide i6
  replace X0 := hide ((unhide X0).below b6)
  replace P14 := hide ((unhide P14).below b6)
  replace B4 := hide ((unhide B4).trans (b6.mono (unhide B4).size))
  have s6 : V5.heap.size ≤ w6.heap.size := b6.size
  clear i6 b6
  have y14 := (unhide P14).cv
  have y14l := (unhide P14).lt
  go_wp2_with fail
  refine (unhide H3 _ _ _ _ _ (Ri.rd (unhide X0)) (Ri.rd (unhide X1)) (Nat.le_refl _)).mono ?_
  rintro e w7 ⟨a0, c0, a1, c1, a2, c2, g0, g1, g2, rfl, i0, i1, i2, n01, n02, n12, b7⟩
  obtain ⟨V7, hV7⟩ : ∃ V, V = w7.alloc (.cells (spaceC E a0 c0).toArray 33) := ⟨_, rfl⟩
  have AL : Below w7.heap.size w7 V7 := by rw [hV7]; exact (Below.refl _ _).alloc (Nat.le_refl _) _
  have bV := b7.trans (AL.mono b7.size)
  have P16 := hide (show Bx V7 w7.heap.size (spaceC E a0 c0) by rw [hV7]; exact Bx.new w7 _ _)
  have p0 := hide i0.pl
  have p1 := hide i1.pl
  have p2 := hide i2.pl
  have G0 := hide (i0.below AL)
  have G1 := hide (i1.below AL)
  have G2 := hide (i2.below AL)
  replace X0 := hide ((unhide X0).below bV)
  replace X1 := hide ((unhide X1).below bV)
  replace P14 := hide ((unhide P14).below bV)
  replace B4 := hide ((unhide B4).trans (bV.mono (unhide B4).size))
  have s7 : w6.heap.size ≤ w7.heap.size := b7.size
  have s7' : w7.heap.size < V7.heap.size := (unhide P16).lt
  have HV7 := hide hV7
  clear hV7 AL bV i0 i1 i2 b7 y14 y14l
  go_upto_region 12 with fail
  rw [← unhide HV7]
  clear HV7
  have y16 := (unhide P16).cv
  have y16l := (unhide P16).lt
  have y10 := ((unhide P10).below (unhide B4)).cv
  have y10l := ((unhide P10).below (unhide B4)).lt
  go_wp2_with fail
  refine (unhide H5 _ _ _ _ _ (Rb.rd (unhide G0)) ((unhide WR0).below (unhide B4))).mono ?_
  rintro e u108 ⟨rfl, b108⟩
  replace P14 := hide ((unhide P14).below b108)
  replace P16 := hide ((unhide P16).below b108)
  replace X0 := hide ((unhide X0).below b108)
  replace X1 := hide ((unhide X1).below b108)
  replace G0 := hide ((unhide G0).below b108)
  replace G1 := hide ((unhide G1).below b108)
  replace G2 := hide ((unhide G2).below b108)
  replace B4 := hide ((unhide B4).trans (b108.mono (unhide B4).size))
  have s108 := b108.size
  clear b108
  clear y16 y16l y10 y10l
  go_wp2_with fail
  refine (unhide H7 _ _ _ _ _ (Rb.rd (unhide G1)) ((unhide WR1).below (unhide B4))).mono ?_
  rintro e u109 ⟨rfl, b109⟩
  replace P14 := hide ((unhide P14).below b109)
  replace P16 := hide ((unhide P16).below b109)
  replace X0 := hide ((unhide X0).below b109)
  replace X1 := hide ((unhide X1).below b109)
  replace G0 := hide ((unhide G0).below b109)
  replace G1 := hide ((unhide G1).below b109)
  replace G2 := hide ((unhide G2).below b109)
  replace B4 := hide ((unhide B4).trans (b109.mono (unhide B4).size))
  have s109 := b109.size
  clear b109
  go_wp2_with fail
  refine (unhide H8 _ _ _ _ _ (Rb.rd (unhide G2)) ((unhide WR2).below (unhide B4))).mono ?_
  rintro e u110 ⟨rfl, b110⟩
  replace P14 := hide ((unhide P14).below b110)
  replace P16 := hide ((unhide P16).below b110)
  replace X0 := hide ((unhide X0).below b110)
  replace X1 := hide ((unhide X1).below b110)
  replace G0 := hide ((unhide G0).below b110)
  replace G1 := hide ((unhide G1).below b110)
  replace G2 := hide ((unhide G2).below b110)
  replace B4 := hide ((unhide B4).trans (b110.mono (unhide B4).size))
  have s110 := b110.size
  clear b110
  have P4c := hide ((unhide P4).below (unhide B4))
  have B0c := hide ((unhide B04).trans ((unhide B4).mono (unhide B04).size))
  go_upto_region 14 with fail
  go_cut [88] (fun ss wx => ss = .bool false ∧ Hid (Below u110.heap.size u110 wx))
  case first =>
    refine wp_region_noPanic ?_
    refine wp_region_held_drew (S := fun V => Below u110.heap.size u110 V) (by kernel_rfl) (Below.refl _ _).drew (fun hHeld => ?_)
    refine wpAnyH_take (i := 0) (v := ?_) rfl (by kernel_rfl) (by kernel_rfl) (by kernel_rfl) (fun _ _ _ h => h) (Or.inl ⟨by rfl, ?_⟩) hHeld ?_
    rotate_left
    · intro V hSw; have y1 := (Bx.below (unhide P14) hSw).cv; have y2 := (Bx.below (unhide P14) hSw).lt; go_simp; rfl
    try simp only [Act.put, List.getElem_toArray, List.getElem_cons_zero, List.setIfInBounds_toArray, List.set_cons_zero, List.set_cons_succ]
    refine wpAnyH_take (i := 1) (v := ?_) rfl (by kernel_rfl) (by kernel_rfl) (by kernel_rfl) (fun _ _ _ h => h) (Or.inl ⟨by rfl, ?_⟩) hHeld ?_
    rotate_left
    · intro V hSw; have y1 := (Bx.below (unhide P4c) hSw).cv; have y2 := (Bx.below (unhide P4c) hSw).lt; go_simp; rfl
    try simp only [Act.put, List.getElem_toArray, List.getElem_cons_succ, List.getElem_cons_zero, List.setIfInBounds_toArray, List.set_cons_zero, List.set_cons_succ]
    refine wpAnyH_ready (rs := [2]) (by kernel_rfl) (by simp) ?_
    refine (AllReadyH.cons rfl (fun K hK => ?_) AllReadyH.nil)
    go_simp
    go_at_call 7
    refine (unhide H1 _ ((unhide B0c).trans (hHeld.mono (unhide B0c).size))).mono ?_
    rintro e v7 ⟨g9, rfl, i9, b9⟩
    have XX := hide ((unhide X0).below hHeld)
    replace XX := hide ((unhide XX).below b9)
    refine hK.out _ _ (hHeld.trans (b9.mono hHeld.size)) (fun hHeld => ?_)
    clear hK K
    try simp only [Act.put, List.getElem_toArray, List.getElem_cons_succ, List.getElem_cons_zero, List.setIfInBounds_toArray, List.set_cons_zero, List.set_cons_succ]
    have TR := hide (Ri.rd i9)
    clear i9 b9
    refine wpAnyH_ready (rs := [3]) (by kernel_rfl) (by simp) ?_
    refine (AllReadyH.cons rfl (fun K hK => ?_) AllReadyH.nil)
    go_simp
    go_at_call 10
    refine (unhide H4 _ _ _ _ _ (Ri.rd (unhide XX)) (unhide TR)).mono ?_
    rintro e v8 ⟨rfl, b8⟩
    refine hK.out _ _ (hHeld.trans (b8.mono hHeld.size)) (fun hHeld => ?_)
    clear hK K b8
    try simp only [Act.put, List.getElem_toArray, List.getElem_cons_succ, List.getElem_cons_zero, List.setIfInBounds_toArray, List.set_cons_zero, List.set_cons_succ]
    refine wpAnyH_take (i := 4) (v := ?_) rfl (by kernel_rfl) (by kernel_rfl) (by kernel_rfl) (fun _ _ _ h => h) (Or.inl ⟨by rfl, ?_⟩) hHeld ?_
    rotate_left
    · intro V hSw; go_simp; rfl
    try simp only [Act.put, List.getElem_toArray, List.getElem_cons_succ, List.getElem_cons_zero, List.setIfInBounds_toArray, List.set_cons_zero, List.set_cons_succ]
    refine wpAnyH_done (by kernel_rfl) ?_ _
    refine NoPanic.normal ?_
    have HHB := hide hHeld
    clear hHeld
    go_wp2_with fail
    go_meet
    exact ⟨rfl, unhide HHB⟩
  case rest =>
  obtain ⟨rfl, bc⟩ := hcut
  obtain ⟨w14, hV⟩ : ∃ V, V = wc := ⟨_, rfl⟩
  rw [← hV] at bc ⊢
  clear hV P4c B0c
  replace P14 := hide ((unhide P14).below (unhide bc))
  replace P16 := hide ((unhide P16).below (unhide bc))
  replace X0 := hide ((unhide X0).below (unhide bc))
  replace X1 := hide ((unhide X1).below (unhide bc))
  replace G0 := hide ((unhide G0).below (unhide bc))
  replace G1 := hide ((unhide G1).below (unhide bc))
  replace G2 := hide ((unhide G2).below (unhide bc))
  replace B4 := hide ((unhide B4).trans ((unhide bc).mono (unhide B4).size))
  have s14 := (unhide bc).size
  clear bc
  go_wp2_with fail
  refine (unhide HT _ ((unhide B04).trans ((unhide B4).mono (unhide B04).size))).mono ?_
  rintro e w15 ⟨g15, rfl, i15, b15⟩
  have TL := hide (Ri.rd i15)
  replace P14 := hide ((unhide P14).below b15)
  replace P16 := hide ((unhide P16).below b15)
  replace X0 := hide ((unhide X0).below b15)
  replace X1 := hide ((unhide X1).below b15)
  replace G0 := hide ((unhide G0).below b15)
  replace G1 := hide ((unhide G1).below b15)
  replace G2 := hide ((unhide G2).below b15)
  replace B4 := hide ((unhide B4).trans (b15.mono (unhide B4).size))
  have s15 := b15.size
  clear i15 b15
  go_wp2_with fail
  refine (unhide H6 _ _ _ _ _ (Ri.rd (unhide X1)) (unhide TL)).mono ?_
  rintro e u111 ⟨rfl, b111⟩
  replace P14 := hide ((unhide P14).below b111)
  replace P16 := hide ((unhide P16).below b111)
  replace X0 := hide ((unhide X0).below b111)
  replace X1 := hide ((unhide X1).below b111)
  replace G0 := hide ((unhide G0).below b111)
  replace G1 := hide ((unhide G1).below b111)
  replace G2 := hide ((unhide G2).below b111)
  replace B4 := hide ((unhide B4).trans (b111.mono (unhide B4).size))
  have s111 := b111.size
  clear b111
  obtain ⟨hs, hsL⟩ := unhide HSZ
  have MK := hide (fun W hw h => markSpace_any V4.heap.size w5.heap.size D (some ⟨g5, 0, none⟩) D.S.length 1 W hs (by omega) hw h)
  have hb8 : 1 + D.S.length * 3 ≤ 20000000 := by omega
  generalize 1 + D.S.length * 3 = k8 at *
  have ML := hide (fun W h => markRangeS_any V5.heap.size w6.heap.size (some ⟨g6, 0, none⟩) L.length L k8 W hsL (by omega) h)
  have hb9 : k8 + L.length * 2 ≤ 60000000 := by omega
  generalize k8 + L.length * 2 = k9 at *
  have hn9 : ¬ (k9 : Int) < 0 := by omega
  clear hs hsL TL
  have hp0 : ∀ q, E.S ≠ [] → q = g0 → w6.heap.size ≤ q ∧ q < w7.heap.size := fun q h e => e ▸ unhide p0 h
  have hp1 : ∀ q, A1 ≠ [] → q = g1 → w6.heap.size ≤ q ∧ q < w7.heap.size := fun q h e => e ▸ unhide p1 h
  have hp2 : ∀ q, A2 ≠ [] → q = g2 → w6.heap.size ≤ q ∧ q < w7.heap.size := fun q h e => e ▸ unhide p2 h
  have HP := hide (And.intro hp0 (And.intro hp1 hp2))
  clear hp0 hp1 hp2 p0 p1 p2
  have y14 := (unhide P14).cv
  have y14l := (unhide P14).lt
  go_wp2_with fail
  refine (unhide MK _ (by omega) (unhide X0)).mono ?_
  rintro e u112 ⟨rfl, m112, q112⟩
  have s112 := q112.size
  replace P14 := hide ((unhide P14).kept q112.size (q112.block _ (unhide P14).lt (by omega)))
  replace P16 := hide ((unhide P16).kept q112.size (q112.block _ (unhide P16).lt (by omega)))
  replace X1 := hide ((unhide X1).kq q112 (fun q hq => by omega))
  replace G0 := hide ((unhide G0).kz q112 (fun h9 => by have := (unhide HP).1 g0 h9 rfl; omega))
  replace G1 := hide ((unhide G1).kz q112 (fun h9 => by have := (unhide HP).2.1 g1 h9 rfl; omega))
  replace G2 := hide ((unhide G2).kz q112 (fun h9 => by have := (unhide HP).2.2 g2 h9 rfl; omega))
  replace B4 := hide ((unhide B4).trans (q112.below (unhide B4).size (fun q hq => by omega)))
  clear m112 q112
  clear y14 y14l X0
  go_wp2_with fail
  refine (unhide ML _ (unhide X1)).mono ?_
  rintro e u113 ⟨rfl, m113, q113⟩
  have s113 := q113.size
  replace P16 := hide ((unhide P16).kept q113.size (q113.block _ (unhide P16).lt (by omega)))
  replace G0 := hide ((unhide G0).kz q113 (fun h9 => by have := (unhide HP).1 g0 h9 rfl; omega))
  replace G1 := hide ((unhide G1).kz q113 (fun h9 => by have := (unhide HP).2.1 g1 h9 rfl; omega))
  replace G2 := hide ((unhide G2).kz q113 (fun h9 => by have := (unhide HP).2.2 g2 h9 rfl; omega))
  replace B4 := hide ((unhide B4).trans (q113.below (unhide B4).size (fun q hq => by omega)))
  clear m113 q113
  clear X1 P14
  have y16 := (unhide P16).cv
  have y16l := (unhide P16).lt
  have y10 := ((unhide P10).below (unhide B4)).cv
  have y10l := ((unhide P10).below (unhide B4)).lt
  go_wp2_with fail
  refine (unhide H5 _ _ _ _ _ (Rb.rd (unhide G0)) ((unhide WR0).below (unhide B4))).mono ?_
  rintro e u114 ⟨rfl, b114⟩
  replace P16 := hide ((unhide P16).below b114)
  replace G0 := hide ((unhide G0).below b114)
  replace G1 := hide ((unhide G1).below b114)
  replace G2 := hide ((unhide G2).below b114)
  replace B4 := hide ((unhide B4).trans (b114.mono (unhide B4).size))
  have s114 := b114.size
  clear b114
  clear y16 y16l y10 y10l
  go_wp2_with fail
  refine (unhide H7 _ _ _ _ _ (Rb.rd (unhide G1)) ((unhide WR1).below (unhide B4))).mono ?_
  rintro e u115 ⟨rfl, b115⟩
  replace P16 := hide ((unhide P16).below b115)
  replace G0 := hide ((unhide G0).below b115)
  replace G1 := hide ((unhide G1).below b115)
  replace G2 := hide ((unhide G2).below b115)
  replace B4 := hide ((unhide B4).trans (b115.mono (unhide B4).size))
  have s115 := b115.size
  clear b115
  go_wp2_with fail
  refine (unhide H8 _ _ _ _ _ (Rb.rd (unhide G2)) ((unhide WR2).below (unhide B4))).mono ?_
  rintro e u116 ⟨rfl, b116⟩
  replace P16 := hide ((unhide P16).below b116)
  replace G0 := hide ((unhide G0).below b116)
  replace G1 := hide ((unhide G1).below b116)
  replace G2 := hide ((unhide G2).below b116)
  replace B4 := hide ((unhide B4).trans (b116.mono (unhide B4).size))
  have s116 := b116.size
  clear b116
  have M0 := hide (fun W h => markSp_rb g0 w6.heap.size E a0 c0 1 W hE (by omega) h)
  have K0 := hide (fun W h => heldSp_rn g0 E a0 c0 1 W hE (by omega) h)
  have hc1 : 1 + E.S.length * 3 ≤ 4000000 := by omega
  have GN0 := hide (rfl : E.S.length * 3 = E.S.length * 3)
  generalize 1 + E.S.length * 3 = j1 at *
  have M1 := hide (fun W h => markI_rb g1 w6.heap.size a1 c1 A1 j1 W hA1 (by omega) h)
  have K1 := hide (fun W h => heldIntS_any g1 a1 A1.length c1 j1 W hA1 (by omega) h)
  have hc2 : j1 + A1.length ≤ 8000000 := by omega
  generalize j1 + A1.length = j2 at *
  have M2 := hide (fun W h => markI_rb g2 w6.heap.size a2 c2 A2 j2 W hA2 (by omega) h)
  have K2 := hide (fun W h => heldIntS_any g2 a2 A2.length c2 j2 W hA2 (by omega) h)
  have hc3 : j2 + A2.length ≤ 16000000 := by omega
  generalize j2 + A2.length = j3 at *
  have hn1 : ¬ (j1 : Int) < 0 := by omega
  have hn2 : ¬ (j2 : Int) < 0 := by omega
  have hn3 : ¬ (j3 : Int) < 0 := by omega
  have NE0 : E.S.length * 3 ≠ 0 → E.S ≠ [] := fun h e => h (by rw [e]; rfl)
  have NE1 : A1.length ≠ 0 → A1 ≠ [] := fun h e => h (by rw [e]; rfl)
  have HNE := hide (And.intro NE0 NE1)
  clear NE0 NE1 GN0
  have y16 := (unhide P16).cv
  have y16l := (unhide P16).lt
  go_wp2_with fail
  refine (unhide M0 _ (unhide G0)).mono ?_
  rintro e u117 ⟨rfl, m117, q117⟩
  have s117 := q117.size
  replace P16 := hide ((unhide P16).kept q117.size (q117.block _ (unhide P16).lt (fun hq => by have := (unhide HP).1 _ hq.1 hq.2; omega)))
  replace G1 := hide ((unhide G1).kz q117 (fun _ hq => by have := hq.2; omega))
  replace G2 := hide ((unhide G2).kz q117 (fun _ hq => by have := hq.2; omega))
  replace G0 := hide m117
  replace B4 := hide ((unhide B4).trans (q117.below (unhide B4).size (fun q hq => by have := (unhide HP).1 q hq.1 hq.2; omega)))
  clear m117 q117
  clear y16 y16l
  go_wp2_with fail
  refine (unhide M1 _ (unhide G1)).mono ?_
  rintro e u118 ⟨rfl, m118, q118⟩
  have s118 := q118.size
  replace P16 := hide ((unhide P16).kept q118.size (q118.block _ (unhide P16).lt (fun hq => by have := (unhide HP).2.1 _ hq.1 hq.2; omega)))
  replace G2 := hide ((unhide G2).kz q118 (fun _ hq => by have := hq.2; omega))
  replace G0 := hide ((unhide G0).kz q118 (fun _ hq => by have := hq.2; omega))
  replace G1 := hide m118
  replace B4 := hide ((unhide B4).trans (q118.below (unhide B4).size (fun q hq => by have := (unhide HP).2.1 q hq.1 hq.2; omega)))
  clear m118 q118
  go_wp2_with fail
  refine (unhide M2 _ (unhide G2)).mono ?_
  rintro e u119 ⟨rfl, m119, q119⟩
  have s119 := q119.size
  replace P16 := hide ((unhide P16).kept q119.size (q119.block _ (unhide P16).lt (fun hq => by have := (unhide HP).2.2 _ hq.1 hq.2; omega)))
  replace G0 := hide ((unhide G0).kz q119 (fun _ hq => by have := hq.2; omega))
  replace G1 := hide ((unhide G1).kz q119 (fun _ hq => by have := hq.2; omega))
  replace G2 := hide m119
  replace B4 := hide ((unhide B4).trans (q119.below (unhide B4).size (fun q hq => by have := (unhide HP).2.2 q hq.1 hq.2; omega)))
  clear m119 q119
  have y16 := (unhide P16).cv
  have y16l := (unhide P16).lt
  go_wp2_with fail
  refine (unhide K0 _ (unhide G0)).mono ?_
  rintro e u120 ⟨rfl, b120⟩
  replace P16 := hide ((unhide P16).below b120)
  replace G0 := hide ((unhide G0).below b120)
  replace G1 := hide ((unhide G1).below b120)
  replace G2 := hide ((unhide G2).below b120)
  replace B4 := hide ((unhide B4).trans (b120.mono (unhide B4).size))
  have s120 := b120.size
  clear b120
  clear y16 y16l
  go_wp2_with fail
  refine (unhide K1 _ (unhide G1)).mono ?_
  rintro e u121 ⟨rfl, b121⟩
  replace P16 := hide ((unhide P16).below b121)
  replace G0 := hide ((unhide G0).below b121)
  replace G1 := hide ((unhide G1).below b121)
  replace G2 := hide ((unhide G2).below b121)
  replace B4 := hide ((unhide B4).trans (b121.mono (unhide B4).size))
  have s121 := b121.size
  clear b121
  go_wp2_with fail
  refine (unhide K2 _ (unhide G2)).mono ?_
  rintro e u122 ⟨rfl, b122⟩
  replace P16 := hide ((unhide P16).below b122)
  replace G0 := hide ((unhide G0).below b122)
  replace G1 := hide ((unhide G1).below b122)
  replace G2 := hide ((unhide G2).below b122)
  replace B4 := hide ((unhide B4).trans (b122.mono (unhide B4).size))
  have s122 := b122.size
  clear b122
  have z1 := ((unhide P4).below (unhide B4)).cv
  have z1l := ((unhide P4).below (unhide B4)).lt
  go_wp2_with fail
  refine (unhide H1 _ ((unhide B04).trans ((unhide B4).mono (unhide B04).size))).mono ?_
  rintro e w22 ⟨g22, rfl, i22, b22⟩
  have TR := hide (Ri.rd i22)
  replace P16 := hide ((unhide P16).below b22)
  replace G0 := hide ((unhide G0).below b22)
  replace G1 := hide ((unhide G1).below b22)
  replace G2 := hide ((unhide G2).below b22)
  replace B4 := hide ((unhide B4).trans (b22.mono (unhide B4).size))
  clear i22 b22 z1 z1l
  go_wp2_with fail
  refine (unhide HT _ ((unhide B04).trans ((unhide B4).mono (unhide B04).size))).mono ?_
  rintro e w23 ⟨g23, rfl, i23, b23⟩
  have TL := hide (Ri.rd i23)
  replace TR := hide ((unhide TR).below b23)
  replace P16 := hide ((unhide P16).below b23)
  replace G0 := hide ((unhide G0).below b23)
  replace G1 := hide ((unhide G1).below b23)
  replace G2 := hide ((unhide G2).below b23)
  replace B4 := hide ((unhide B4).trans (b23.mono (unhide B4).size))
  clear i23 b23
  go_wp2_with fail
  refine (unhide H3 _ _ _ _ _ (unhide TR) (unhide TL) (Nat.le_refl _)).mono ?_
  rintro e w24 ⟨ah0, ch0, ah1, ch1, ah2, ch2, _, _, _, rfl, i0, i1, i2, _, _, _, b24⟩
  obtain ⟨V24, hV24⟩ : ∃ V, V = w24.alloc (.cells (spaceC E ah0 ch0).toArray 33) := ⟨_, rfl⟩
  have AL : Below w24.heap.size w24 V24 := by rw [hV24]; exact (Below.refl _ _).alloc (Nat.le_refl _) _
  have bV := b24.trans (AL.mono b24.size)
  have P23 := hide (show Bx V24 w24.heap.size (spaceC E ah0 ch0) by rw [hV24]; exact Bx.new w24 _ _)
  have R0 := hide ((i0.below AL).rd)
  have R1 := hide ((i1.below AL).rd)
  have R2 := hide ((i2.below AL).rd)
  replace P16 := hide ((unhide P16).below bV)
  replace G0 := hide ((unhide G0).below bV)
  replace G1 := hide ((unhide G1).below bV)
  replace G2 := hide ((unhide G2).below bV)
  replace B4 := hide ((unhide B4).trans (bV.mono (unhide B4).size))
  have HV24 := hide hV24
  clear hV24 AL bV i0 i1 i2 b24 TR TL
  go_upto_region 40 with fail
  rw [← unhide HV24]
  clear HV24
  have y16 := (unhide P23).cv
  have y16l := (unhide P23).lt
  have y10 := ((unhide P10).below (unhide B4)).cv
  have y10l := ((unhide P10).below (unhide B4)).lt
  go_wp2_with fail
  refine (unhide H5 _ _ _ _ _ (unhide R0) ((unhide WR0).below (unhide B4))).mono ?_
  rintro e u123 ⟨rfl, b123⟩
  replace P16 := hide ((unhide P16).below b123)
  replace G0 := hide ((unhide G0).below b123)
  replace G1 := hide ((unhide G1).below b123)
  replace G2 := hide ((unhide G2).below b123)
  replace P23 := hide ((unhide P23).below b123)
  replace R0 := hide ((unhide R0).below b123)
  replace R1 := hide ((unhide R1).below b123)
  replace R2 := hide ((unhide R2).below b123)
  replace B4 := hide ((unhide B4).trans (b123.mono (unhide B4).size))
  have s123 := b123.size
  clear b123
  clear y16 y16l y10 y10l
  go_wp2_with fail
  refine (unhide H7 _ _ _ _ _ (unhide R1) ((unhide WR1).below (unhide B4))).mono ?_
  rintro e u124 ⟨rfl, b124⟩
  replace P16 := hide ((unhide P16).below b124)
  replace G0 := hide ((unhide G0).below b124)
  replace G1 := hide ((unhide G1).below b124)
  replace G2 := hide ((unhide G2).below b124)
  replace P23 := hide ((unhide P23).below b124)
  replace R0 := hide ((unhide R0).below b124)
  replace R1 := hide ((unhide R1).below b124)
  replace R2 := hide ((unhide R2).below b124)
  replace B4 := hide ((unhide B4).trans (b124.mono (unhide B4).size))
  have s124 := b124.size
  clear b124
  go_wp2_with fail
  refine (unhide H8 _ _ _ _ _ (unhide R2) ((unhide WR2).below (unhide B4))).mono ?_
  rintro e u125 ⟨rfl, b125⟩
  replace P16 := hide ((unhide P16).below b125)
  replace G0 := hide ((unhide G0).below b125)
  replace G1 := hide ((unhide G1).below b125)
  replace G2 := hide ((unhide G2).below b125)
  replace P23 := hide ((unhide P23).below b125)
  replace R0 := hide ((unhide R0).below b125)
  replace R1 := hide ((unhide R1).below b125)
  replace R2 := hide ((unhide R2).below b125)
  replace B4 := hide ((unhide B4).trans (b125.mono (unhide B4).size))
  have s125 := b125.size
  clear b125
  have y16 := (unhide P16).cv
  have y16l := (unhide P16).lt
  go_wp2_with fail
  refine (unhide K0 _ (unhide G0)).mono ?_
  rintro e u126 ⟨rfl, b126⟩
  replace P16 := hide ((unhide P16).below b126)
  replace G0 := hide ((unhide G0).below b126)
  replace G1 := hide ((unhide G1).below b126)
  replace G2 := hide ((unhide G2).below b126)
  replace B4 := hide ((unhide B4).trans (b126.mono (unhide B4).size))
  have s126 := b126.size
  clear b126
  clear y16 y16l
  go_wp2_with fail
  refine (unhide K1 _ (unhide G1)).mono ?_
  rintro e u127 ⟨rfl, b127⟩
  replace P16 := hide ((unhide P16).below b127)
  replace G0 := hide ((unhide G0).below b127)
  replace G1 := hide ((unhide G1).below b127)
  replace G2 := hide ((unhide G2).below b127)
  replace B4 := hide ((unhide B4).trans (b127.mono (unhide B4).size))
  have s127 := b127.size
  clear b127
  go_wp2_with fail
  refine (unhide K2 _ (unhide G2)).mono ?_
  rintro e u128 ⟨rfl, b128⟩
  replace P16 := hide ((unhide P16).below b128)
  replace G0 := hide ((unhide G0).below b128)
  replace G1 := hide ((unhide G1).below b128)
  replace G2 := hide ((unhide G2).below b128)
  replace B4 := hide ((unhide B4).trans (b128.mono (unhide B4).size))
  have s128 := b128.size
  clear b128
  have BZ := hide ((unhide B04).trans ((unhide B4).mono (unhide B04).size))
  clear B4 P16 G0 G1 G2
  go_wp2
  go_ret
  exact ⟨rfl, unhide BZ⟩
end Go.Proofs.Ytianpcipipdokaa.Rc
