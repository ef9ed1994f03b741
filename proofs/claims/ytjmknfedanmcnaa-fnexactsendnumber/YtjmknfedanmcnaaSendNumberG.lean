/-
  The law on SendNumber, walked out of the contracts of both sides.
-/
import Derived.Test.YtjmknfedanmcnaaSpc
import Derived.Test.YtjmknfedanmcnaaOpSpace
import Derived.Test.YtjmknfedanmcnaaOpSent
import Derived.Deep.RegionHeld3
namespace Go.Proofs.Ytjmknfedanmcnaa.Rc
open Go.ChangeShapes Go.WideShapes Go.ChangeAt Go.RowKit Go.Deep
set_option linter.unusedVariables false
set_option maxRecDepth 100000

theorem st7 {U : World} {p : Nat} {z0 z1 z2 z3 z4 z5 z6 : Value} (h : Bx U p [z0, z1, z2, z3, z4, z5, z6]) (v0 v1 v2 v3 v4 v5 v6 : Value) :
    Bx (((((((U.setCell ⟨p, 0, none⟩ v0).setCell ⟨p, 1, none⟩ v1).setCell ⟨p, 2, none⟩ v2).setCell ⟨p, 3, none⟩ v3).setCell ⟨p, 4, none⟩ v4).setCell ⟨p, 5, none⟩ v5).setCell ⟨p, 6, none⟩ v6) p [v0, v1, v2, v3, v4, v5, v6] ∧
    Kq (fun q => q = p) U (((((((U.setCell ⟨p, 0, none⟩ v0).setCell ⟨p, 1, none⟩ v1).setCell ⟨p, 2, none⟩ v2).setCell ⟨p, 3, none⟩ v3).setCell ⟨p, 4, none⟩ v4).setCell ⟨p, 5, none⟩ v5).setCell ⟨p, 6, none⟩ v6) :=
  ⟨((((((h.set (i := 0) (by simp)).set (i := 1) (by simp)).set (i := 2) (by simp)).set (i := 3) (by simp)).set (i := 4) (by simp)).set (i := 5) (by simp)).set (i := 6) (by simp),
   (((((((Kq.refl (fun q => q = p) U).set rfl).set rfl).set rfl).set rfl).set rfl).set rfl).set rfl⟩
set_option maxHeartbeats 16000000 in
theorem sendNumber_given (D : SpaceD) (x : SentD) (E : SpaceD) (r1 : Bool) (w : World) (a : Option Addr) (c : Nat) (m : D.S.length ≤ maxLen) (h : RdSpace w a D) (hE : E.S.length ≤ 1048576)
    (HS : D.S.length ≤ 1048576 → ∀ (W : World) (a : Option Addr) (c : Nat) (_ : RdSpace W a D), Calls Try.prog 29 #[spaceV D a c, sentV x] W fun e w' => ∃ (a : Option Addr) (c : Nat), e = .returned (.tuple #[spaceV E a c, .bool r1]) ∧ Ri sentK W.heap.size w'.heap.size w' a E.S ∧ Below W.heap.size W w')
    (HI : D.S.length ≤ 1048576 → ∀ (W : World) (a : Option Addr) (c : Nat) (_ : RdSpace W a D) (_ : D.S.length ≤ c), Calls Try.prog 31 #[spaceV D a c, sentV x] W fun e w' => ∃ (a : Option Addr) (c : Nat), e = .returned (.tuple #[spaceV E a c, .bool r1]) ∧ Ri sentK W.heap.size w'.heap.size w' a E.S ∧ Below W.heap.size W w') :
    Calls Try.prog 8 #[spaceV D a c, sentV x] w fun e w' => e = .returned (.bool true) ∧ Below w.heap.size w w' := by
  have HZ := hide (fun W => szSpace_any D a c 1048576 W m (Nat.le_refl _))
  have H1' := hide (fun (hs : D.S.length ≤ 1048576) W (b : Below w.heap.size w W) => toSpace_any D a c W hs (h.below b))
  have HTX := hide (toSent_any x)
  obtain ⟨V0, hV0⟩ : ∃ V, V = (w.alloc (.cells (spaceC D a c).toArray 45)).alloc (.cells (sentC x).toArray 55) := ⟨_, rfl⟩
  have P2 := hide (show Bx V0 w.heap.size (spaceC D a c) by rw [hV0]; exact (Bx.new w _ _).alloc _)
  have P3 := hide (show Bx V0 (w.heap.size + 1) (sentC x) by rw [hV0]; exact Bx.newAt (w.alloc _) _ _ _ (by simp))
  have B0 := hide (show Below w.heap.size w V0 by rw [hV0]; exact ((Below.refl w.heap.size w).alloc (Nat.le_refl _) _).alloc (by simp) _)
  have HV0 := hide hV0
  have H2' := hide HS
  have H3' := hide HI
  clear h HS HI hV0
  have z0 := (unhide P2).cv
  go_enter Try.func8, Try.ntmps8
  go_upto_region 1 with fail
  rw [← unhide HV0]
  clear HV0
  go_wp2_with fail
  refine (unhide HZ _).mono ?_
  rintro e V1 ⟨he, b1⟩
  replace B0 := hide ((unhide B0).trans (b1.mono (unhide B0).size))
  replace P2 := hide ((unhide P2).below b1)
  replace P3 := hide ((unhide P3).below b1)
  clear b1 HZ z0
  rcases he with rfl | ⟨z, rfl, _, hs⟩
  · go_wp2
    go_ret
    exact ⟨rfl, unhide B0⟩
  have hz : ¬ (z : Int) < 0 := by omega
  have H1 := hide (unhide H1' hs)
  have H2 := hide (unhide H2' hs)
  have H3 := hide (unhide H3' hs)
  have H4 := hide (fun a c a' c' W (h : RdSpace W a D) (h' : RdSpace W a' D) => eqSpace_same D a a' c c' W hs h h')
  have H5 := hide (fun a c a' c' W (h : RdSpace W a E) (h' : RdSpace W a' E) => eqSpace_same E a a' c c' W hE h h')
  have HSZ := hide hs
  clear hs H1' H2' H3'
  go_upto_region 5 with fail
  go_cut [6, 7] (fun s6 s7 wx => ∃ p6 a6 c6, s6 = .pointer (some ⟨p6, 0, none⟩) ∧ s7 = .bool r1 ∧ Hid (Bx wx p6 (spaceC E a6 c6)) ∧ Hid (Rd sentK wx a6 E.S) ∧ Hid (Below V1.heap.size V1 wx) ∧ V1.heap.size ≤ p6)
  case first =>
    refine wp_region_noPanic ?_
    refine wp_region_held_drew (S := fun V => Below V1.heap.size V1 V) (by kernel_rfl) (Below.refl _ _).drew (fun hHeld => ?_)
    refine wpAnyH_take (i := 0) (v := ?_) rfl (by kernel_rfl) (by kernel_rfl) (by kernel_rfl) (fun _ _ _ h => h) (Or.inl ⟨by rfl, ?_⟩) hHeld ?_
    rotate_left
    · intro V hSw; have y1 := (Bx.below (unhide P2) hSw).cv; have y2 := (Bx.below (unhide P2) hSw).lt; go_simp; rfl
    try simp only [Act.put, List.getElem_toArray, List.getElem_cons_zero, List.setIfInBounds_toArray, List.set_cons_zero, List.set_cons_succ]
    refine wpAnyH_take (i := 2) (v := ?_) rfl (by kernel_rfl) (by kernel_rfl) (by kernel_rfl) (fun _ _ _ h => h) (Or.inl ⟨by rfl, ?_⟩) hHeld ?_
    rotate_left
    · intro V hSw; have y1 := (Bx.below (unhide P3) hSw).cv; have y2 := (Bx.below (unhide P3) hSw).lt; go_simp; rfl
    try simp only [Act.put, List.getElem_toArray, List.getElem_cons_succ, List.getElem_cons_zero, List.setIfInBounds_toArray, List.set_cons_zero, List.set_cons_succ]
    obtain ⟨U0, hU0⟩ : ∃ U, U = V1.drew := ⟨_, rfl⟩
    rw [← hU0] at hHeld ⊢
    clear hU0
    refine wpAnyH_ready (rs := [1, 8]) (by kernel_rfl) (by simp) ?_
    refine (AllReadyH.cons rfl (fun K hK => ?_) (AllReadyH.cons rfl (fun K hK => ?_) AllReadyH.nil))
    · -- the call first
      have hlb := hHeld.size
      go_simp
      go_at_call 26
      refine (unhide H1 _ ((unhide B0).trans (hHeld.mono (unhide B0).size))).mono ?_
      rintro e w2 ⟨g2, rfl, i9, b2⟩
      refine hK.out _ _ (hHeld.trans (b2.mono hHeld.size)) (fun hHeld => ?_)
      clear hK K
      try simp only [Act.put, List.getElem_toArray, List.getElem_cons_succ, List.getElem_cons_zero, List.setIfInBounds_toArray, List.set_cons_zero, List.set_cons_succ]
      have TR := hide (Ri.rd i9)
      clear i9 b2
      refine wpAnyH_ready (rs := [3, 8]) (by kernel_rfl) (by simp) ?_
      refine (AllReadyH.cons rfl (fun K hK => ?_) (AllReadyH.cons rfl (fun K hK => ?_) AllReadyH.nil))
      · -- the call first
        have hlb := hHeld.size
        go_simp
        go_at_call 30
        refine (unhide HTX _).mono ?_
        rintro e w3 ⟨rfl, b3⟩
        refine hK.out _ _ (hHeld.trans (b3.mono hHeld.size)) (fun hHeld => ?_)
        clear hK K
        try simp only [Act.put, List.getElem_toArray, List.getElem_cons_succ, List.getElem_cons_zero, List.setIfInBounds_toArray, List.set_cons_zero, List.set_cons_succ]
        replace TR := hide ((unhide TR).below b3)
        clear b3
        refine wpAnyH_ready (rs := [4, 8]) (by kernel_rfl) (by simp) ?_
        refine (AllReadyH.cons rfl (fun K hK => ?_) (AllReadyH.cons rfl (fun K hK => ?_) AllReadyH.nil))
        · -- the call first
          have hlb := hHeld.size
          go_simp
          go_at_call 29
          refine (unhide H2 _ _ _ (unhide TR)).mono ?_
          rintro e w4 ⟨a6, c6, rfl, i6, b4⟩
          refine hK.out _ _ (hHeld.trans (b4.mono hHeld.size)) (fun hHeld => ?_)
          clear hK K
          try simp only [Act.put, List.getElem_toArray, List.getElem_cons_succ, List.getElem_cons_zero, List.setIfInBounds_toArray, List.set_cons_zero, List.set_cons_succ]
          replace TR := hide ((unhide TR).below b4)
          have hlo := b4.size
          have I6 := hide i6
          clear i6 b4
          refine wpAnyH_take (i := 5) (v := ?_) rfl (by kernel_rfl) (by kernel_rfl) (by kernel_rfl) (fun _ _ _ h => h) (Or.inl ⟨by rfl, ?_⟩) hHeld ?_
          rotate_left
          · intro V hSw; go_simp; rfl
          try simp only [Act.put, List.getElem_toArray, List.getElem_cons_succ, List.getElem_cons_zero, List.setIfInBounds_toArray, List.set_cons_zero, List.set_cons_succ]
          refine wpAnyH_take (i := 6) (v := ?_) rfl (by kernel_rfl) (by kernel_rfl) (by kernel_rfl) (fun _ _ _ h => h) (Or.inl ⟨by rfl, ?_⟩) hHeld ?_
          rotate_left
          · intro V hSw; go_simp; rfl
          try simp only [Act.put, List.getElem_toArray, List.getElem_cons_succ, List.getElem_cons_zero, List.setIfInBounds_toArray, List.set_cons_zero, List.set_cons_succ]
          refine wpAnyH_take (i := 7) (v := ?_) rfl (by kernel_rfl) (by kernel_rfl) (by kernel_rfl) (fun _ _ _ h => h) (Or.inl ⟨by rfl, ?_⟩) hHeld ?_
          rotate_left
          · intro V hSw; go_simp; rfl
          try simp only [Act.put, List.getElem_toArray, List.getElem_cons_succ, List.getElem_cons_zero, List.setIfInBounds_toArray, List.set_cons_zero, List.set_cons_succ]
          refine wpAnyH_ready (rs := [8]) (by kernel_rfl) (by simp) ?_
          refine (AllReadyH.cons rfl (fun K hK => ?_) AllReadyH.nil)
          go_simp
          obtain ⟨U4, hU⟩ : ∃ U, U = w4.alloc (.cells #[.int .i64 0, .slice none 0 0, .bool false, .int .i64 0, .int .i64 0, .int .i64 0, .int .i64 0] 50) := ⟨_, rfl⟩
          have bU : Below w4.heap.size w4 U4 := by rw [hU]; exact (Below.refl _ _).alloc (Nat.le_refl _) _
          have BXX := hide (show Bx U4 w4.heap.size [.int .i64 0, .slice none 0 0, .bool false, .int .i64 0, .int .i64 0, .int .i64 0, .int .i64 0] by rw [hU]; exact Bx.new w4 _ _)
          have hp0 := hide hHeld.size
          rw [← hU]
          refine hK.out _ _ (hHeld.trans (bU.mono hHeld.size)) (fun hHeld => ?_)
          clear hK K hU
          try simp only [Act.put, List.getElem_toArray, List.getElem_cons_succ, List.getElem_cons_zero, List.setIfInBounds_toArray, List.set_cons_zero, List.set_cons_succ]
          replace TR := hide ((unhide TR).below bU)
          replace I6 := hide ((unhide I6).below bU)
          have hsU := bU.size
          clear bU
          have y1 := (unhide BXX).cv
          have y2 := (unhide BXX).fz
          have yl := (unhide BXX).lt
          have F7 := hide (st7 (unhide BXX) (.int .i64 E.lg) (.slice a6 E.S.length c6) (.bool E.r.kn) (.int .i64 E.r.la) (.int .i64 E.r.mi) (.int .i64 E.r.sm) (.int .i64 E.r.va))
          have hpb : V1.heap.size ≤ w4.heap.size := unhide hp0
          have K6 := hide (((unhide I6).kq (unhide F7).2 (fun q hq => by first | omega | (right; omega) | (left; omega))).rd)
          refine wpAnyH_ready (rs := [9]) (by kernel_rfl) (by simp) ?_
          refine (AllReadyH.cons rfl (fun K hK => ?_) AllReadyH.nil)
          go_simp
          refine hK.out _ _ (hHeld.trans ((unhide F7).2.below hHeld.size (fun q hq => by omega))) (fun hHeld => ?_)
          clear hK K
          try simp only [Act.put, List.getElem_toArray, List.getElem_cons_succ, List.getElem_cons_zero, List.setIfInBounds_toArray, List.set_cons_zero, List.set_cons_succ]
          refine wpAnyH_take (i := 10) (v := ?_) rfl (by kernel_rfl) (by kernel_rfl) (by kernel_rfl) (fun _ _ _ h => h) (Or.inl ⟨by rfl, ?_⟩) hHeld ?_
          rotate_left
          · intro V hSw; go_simp; rfl
          try simp only [Act.put, List.getElem_toArray, List.getElem_cons_succ, List.getElem_cons_zero, List.setIfInBounds_toArray, List.set_cons_zero, List.set_cons_succ]
          refine wpAnyH_done (by kernel_rfl) ?_ _
          refine NoPanic.normal ?_
          have HHB := hide hHeld
          clear hHeld y1 y2
          go_wp2_with fail
          go_meet
          exact ⟨_, a6, c6, rfl, rfl, (unhide F7).1, unhide K6, unhide HHB, hpb⟩
        · -- the box first
          go_simp
          obtain ⟨U3, hU⟩ : ∃ U, U = w3.alloc (.cells #[.int .i64 0, .slice none 0 0, .bool false, .int .i64 0, .int .i64 0, .int .i64 0, .int .i64 0] 50) := ⟨_, rfl⟩
          have bU : Below w3.heap.size w3 U3 := by rw [hU]; exact (Below.refl _ _).alloc (Nat.le_refl _) _
          have BXX := hide (show Bx U3 w3.heap.size [.int .i64 0, .slice none 0 0, .bool false, .int .i64 0, .int .i64 0, .int .i64 0, .int .i64 0] by rw [hU]; exact Bx.new w3 _ _)
          have hp0 := hide hHeld.size
          rw [← hU]
          refine hK.out _ _ (hHeld.trans (bU.mono hHeld.size)) (fun hHeld => ?_)
          clear hK K hU
          try simp only [Act.put, List.getElem_toArray, List.getElem_cons_succ, List.getElem_cons_zero, List.setIfInBounds_toArray, List.set_cons_zero, List.set_cons_succ]
          replace TR := hide ((unhide TR).below bU)
          have hsU := bU.size
          clear bU
          refine wpAnyH_ready (rs := [4]) (by kernel_rfl) (by simp) ?_
          refine (AllReadyH.cons rfl (fun K hK => ?_) AllReadyH.nil)
          have hlb := hHeld.size
          have hbl := (unhide BXX).lt
          go_simp
          go_at_call 29
          refine (unhide H2 _ _ _ (unhide TR)).mono ?_
          rintro e w4 ⟨a6, c6, rfl, i6, b4⟩
          refine hK.out _ _ (hHeld.trans (b4.mono hHeld.size)) (fun hHeld => ?_)
          clear hK K
          try simp only [Act.put, List.getElem_toArray, List.getElem_cons_succ, List.getElem_cons_zero, List.setIfInBounds_toArray, List.set_cons_zero, List.set_cons_succ]
          replace TR := hide ((unhide TR).below b4)
          replace BXX := hide ((unhide BXX).below b4)
          have hlo := b4.size
          have I6 := hide i6
          clear i6 b4
          refine wpAnyH_take (i := 5) (v := ?_) rfl (by kernel_rfl) (by kernel_rfl) (by kernel_rfl) (fun _ _ _ h => h) (Or.inl ⟨by rfl, ?_⟩) hHeld ?_
          rotate_left
          · intro V hSw; go_simp; rfl
          try simp only [Act.put, List.getElem_toArray, List.getElem_cons_succ, List.getElem_cons_zero, List.setIfInBounds_toArray, List.set_cons_zero, List.set_cons_succ]
          refine wpAnyH_take (i := 6) (v := ?_) rfl (by kernel_rfl) (by kernel_rfl) (by kernel_rfl) (fun _ _ _ h => h) (Or.inl ⟨by rfl, ?_⟩) hHeld ?_
          rotate_left
          · intro V hSw; go_simp; rfl
          try simp only [Act.put, List.getElem_toArray, List.getElem_cons_succ, List.getElem_cons_zero, List.setIfInBounds_toArray, List.set_cons_zero, List.set_cons_succ]
          refine wpAnyH_take (i := 7) (v := ?_) rfl (by kernel_rfl) (by kernel_rfl) (by kernel_rfl) (fun _ _ _ h => h) (Or.inl ⟨by rfl, ?_⟩) hHeld ?_
          rotate_left
          · intro V hSw; go_simp; rfl
          try simp only [Act.put, List.getElem_toArray, List.getElem_cons_succ, List.getElem_cons_zero, List.setIfInBounds_toArray, List.set_cons_zero, List.set_cons_succ]
          have y1 := (unhide BXX).cv
          have y2 := (unhide BXX).fz
          have yl := (unhide BXX).lt
          have F7 := hide (st7 (unhide BXX) (.int .i64 E.lg) (.slice a6 E.S.length c6) (.bool E.r.kn) (.int .i64 E.r.la) (.int .i64 E.r.mi) (.int .i64 E.r.sm) (.int .i64 E.r.va))
          have hpb : V1.heap.size ≤ w3.heap.size := unhide hp0
          have K6 := hide (((unhide I6).kq (unhide F7).2 (fun q hq => by first | omega | (right; omega) | (left; omega))).rd)
          refine wpAnyH_ready (rs := [9]) (by kernel_rfl) (by simp) ?_
          refine (AllReadyH.cons rfl (fun K hK => ?_) AllReadyH.nil)
          go_simp
          refine hK.out _ _ (hHeld.trans ((unhide F7).2.below hHeld.size (fun q hq => by omega))) (fun hHeld => ?_)
          clear hK K
          try simp only [Act.put, List.getElem_toArray, List.getElem_cons_succ, List.getElem_cons_zero, List.setIfInBounds_toArray, List.set_cons_zero, List.set_cons_succ]
          refine wpAnyH_take (i := 10) (v := ?_) rfl (by kernel_rfl) (by kernel_rfl) (by kernel_rfl) (fun _ _ _ h => h) (Or.inl ⟨by rfl, ?_⟩) hHeld ?_
          rotate_left
          · intro V hSw; go_simp; rfl
          try simp only [Act.put, List.getElem_toArray, List.getElem_cons_succ, List.getElem_cons_zero, List.setIfInBounds_toArray, List.set_cons_zero, List.set_cons_succ]
          refine wpAnyH_done (by kernel_rfl) ?_ _
          refine NoPanic.normal ?_
          have HHB := hide hHeld
          clear hHeld y1 y2
          go_wp2_with fail
          go_meet
          exact ⟨_, a6, c6, rfl, rfl, (unhide F7).1, unhide K6, unhide HHB, hpb⟩
      · -- the box first
        go_simp
        obtain ⟨U2, hU⟩ : ∃ U, U = w2.alloc (.cells #[.int .i64 0, .slice none 0 0, .bool false, .int .i64 0, .int .i64 0, .int .i64 0, .int .i64 0] 50) := ⟨_, rfl⟩
        have bU : Below w2.heap.size w2 U2 := by rw [hU]; exact (Below.refl _ _).alloc (Nat.le_refl _) _
        have BXX := hide (show Bx U2 w2.heap.size [.int .i64 0, .slice none 0 0, .bool false, .int .i64 0, .int .i64 0, .int .i64 0, .int .i64 0] by rw [hU]; exact Bx.new w2 _ _)
        have hp0 := hide hHeld.size
        rw [← hU]
        refine hK.out _ _ (hHeld.trans (bU.mono hHeld.size)) (fun hHeld => ?_)
        clear hK K hU
        try simp only [Act.put, List.getElem_toArray, List.getElem_cons_succ, List.getElem_cons_zero, List.setIfInBounds_toArray, List.set_cons_zero, List.set_cons_succ]
        replace TR := hide ((unhide TR).below bU)
        have hsU := bU.size
        clear bU
        refine wpAnyH_ready (rs := [3]) (by kernel_rfl) (by simp) ?_
        refine (AllReadyH.cons rfl (fun K hK => ?_) AllReadyH.nil)
        have hlb := hHeld.size
        have hbl := (unhide BXX).lt
        go_simp
        go_at_call 30
        refine (unhide HTX _).mono ?_
        rintro e w3 ⟨rfl, b3⟩
        refine hK.out _ _ (hHeld.trans (b3.mono hHeld.size)) (fun hHeld => ?_)
        clear hK K
        try simp only [Act.put, List.getElem_toArray, List.getElem_cons_succ, List.getElem_cons_zero, List.setIfInBounds_toArray, List.set_cons_zero, List.set_cons_succ]
        replace TR := hide ((unhide TR).below b3)
        replace BXX := hide ((unhide BXX).below b3)
        clear b3
        refine wpAnyH_ready (rs := [4]) (by kernel_rfl) (by simp) ?_
        refine (AllReadyH.cons rfl (fun K hK => ?_) AllReadyH.nil)
        have hlb := hHeld.size
        have hbl := (unhide BXX).lt
        go_simp
        go_at_call 29
        refine (unhide H2 _ _ _ (unhide TR)).mono ?_
        rintro e w4 ⟨a6, c6, rfl, i6, b4⟩
        refine hK.out _ _ (hHeld.trans (b4.mono hHeld.size)) (fun hHeld => ?_)
        clear hK K
        try simp only [Act.put, List.getElem_toArray, List.getElem_cons_succ, List.getElem_cons_zero, List.setIfInBounds_toArray, List.set_cons_zero, List.set_cons_succ]
        replace TR := hide ((unhide TR).below b4)
        replace BXX := hide ((unhide BXX).below b4)
        have hlo := b4.size
        have I6 := hide i6
        clear i6 b4
        refine wpAnyH_take (i := 5) (v := ?_) rfl (by kernel_rfl) (by kernel_rfl) (by kernel_rfl) (fun _ _ _ h => h) (Or.inl ⟨by rfl, ?_⟩) hHeld ?_
        rotate_left
        · intro V hSw; go_simp; rfl
        try simp only [Act.put, List.getElem_toArray, List.getElem_cons_succ, List.getElem_cons_zero, List.setIfInBounds_toArray, List.set_cons_zero, List.set_cons_succ]
        refine wpAnyH_take (i := 6) (v := ?_) rfl (by kernel_rfl) (by kernel_rfl) (by kernel_rfl) (fun _ _ _ h => h) (Or.inl ⟨by rfl, ?_⟩) hHeld ?_
        rotate_left
        · intro V hSw; go_simp; rfl
        try simp only [Act.put, List.getElem_toArray, List.getElem_cons_succ, List.getElem_cons_zero, List.setIfInBounds_toArray, List.set_cons_zero, List.set_cons_succ]
        refine wpAnyH_take (i := 7) (v := ?_) rfl (by kernel_rfl) (by kernel_rfl) (by kernel_rfl) (fun _ _ _ h => h) (Or.inl ⟨by rfl, ?_⟩) hHeld ?_
        rotate_left
        · intro V hSw; go_simp; rfl
        try simp only [Act.put, List.getElem_toArray, List.getElem_cons_succ, List.getElem_cons_zero, List.setIfInBounds_toArray, List.set_cons_zero, List.set_cons_succ]
        have y1 := (unhide BXX).cv
        have y2 := (unhide BXX).fz
        have yl := (unhide BXX).lt
        have F7 := hide (st7 (unhide BXX) (.int .i64 E.lg) (.slice a6 E.S.length c6) (.bool E.r.kn) (.int .i64 E.r.la) (.int .i64 E.r.mi) (.int .i64 E.r.sm) (.int .i64 E.r.va))
        have hpb : V1.heap.size ≤ w2.heap.size := unhide hp0
        have K6 := hide (((unhide I6).kq (unhide F7).2 (fun q hq => by first | omega | (right; omega) | (left; omega))).rd)
        refine wpAnyH_ready (rs := [9]) (by kernel_rfl) (by simp) ?_
        refine (AllReadyH.cons rfl (fun K hK => ?_) AllReadyH.nil)
        go_simp
        refine hK.out _ _ (hHeld.trans ((unhide F7).2.below hHeld.size (fun q hq => by omega))) (fun hHeld => ?_)
        clear hK K
        try simp only [Act.put, List.getElem_toArray, List.getElem_cons_succ, List.getElem_cons_zero, List.setIfInBounds_toArray, List.set_cons_zero, List.set_cons_succ]
        refine wpAnyH_take (i := 10) (v := ?_) rfl (by kernel_rfl) (by kernel_rfl) (by kernel_rfl) (fun _ _ _ h => h) (Or.inl ⟨by rfl, ?_⟩) hHeld ?_
        rotate_left
        · intro V hSw; go_simp; rfl
        try simp only [Act.put, List.getElem_toArray, List.getElem_cons_succ, List.getElem_cons_zero, List.setIfInBounds_toArray, List.set_cons_zero, List.set_cons_succ]
        refine wpAnyH_done (by kernel_rfl) ?_ _
        refine NoPanic.normal ?_
        have HHB := hide hHeld
        clear hHeld y1 y2
        go_wp2_with fail
        go_meet
        exact ⟨_, a6, c6, rfl, rfl, (unhide F7).1, unhide K6, unhide HHB, hpb⟩
    · -- the box first
      go_simp
      obtain ⟨U1, hU⟩ : ∃ U, U = U0.alloc (.cells #[.int .i64 0, .slice none 0 0, .bool false, .int .i64 0, .int .i64 0, .int .i64 0, .int .i64 0] 50) := ⟨_, rfl⟩
      have bU : Below U0.heap.size U0 U1 := by rw [hU]; exact (Below.refl _ _).alloc (Nat.le_refl _) _
      have BXX := hide (show Bx U1 U0.heap.size [.int .i64 0, .slice none 0 0, .bool false, .int .i64 0, .int .i64 0, .int .i64 0, .int .i64 0] by rw [hU]; exact Bx.new U0 _ _)
      have hp0 := hide hHeld.size
      rw [← hU]
      refine hK.out _ _ (hHeld.trans (bU.mono hHeld.size)) (fun hHeld => ?_)
      clear hK K hU
      try simp only [Act.put, List.getElem_toArray, List.getElem_cons_succ, List.getElem_cons_zero, List.setIfInBounds_toArray, List.set_cons_zero, List.set_cons_succ]
      have hsU := bU.size
      clear bU
      refine wpAnyH_ready (rs := [1]) (by kernel_rfl) (by simp) ?_
      refine (AllReadyH.cons rfl (fun K hK => ?_) AllReadyH.nil)
      have hlb := hHeld.size
      have hbl := (unhide BXX).lt
      go_simp
      go_at_call 26
      refine (unhide H1 _ ((unhide B0).trans (hHeld.mono (unhide B0).size))).mono ?_
      rintro e w2 ⟨g2, rfl, i9, b2⟩
      refine hK.out _ _ (hHeld.trans (b2.mono hHeld.size)) (fun hHeld => ?_)
      clear hK K
      try simp only [Act.put, List.getElem_toArray, List.getElem_cons_succ, List.getElem_cons_zero, List.setIfInBounds_toArray, List.set_cons_zero, List.set_cons_succ]
      replace BXX := hide ((unhide BXX).below b2)
      have TR := hide (Ri.rd i9)
      clear i9 b2
      refine wpAnyH_ready (rs := [3]) (by kernel_rfl) (by simp) ?_
      refine (AllReadyH.cons rfl (fun K hK => ?_) AllReadyH.nil)
      have hlb := hHeld.size
      have hbl := (unhide BXX).lt
      go_simp
      go_at_call 30
      refine (unhide HTX _).mono ?_
      rintro e w3 ⟨rfl, b3⟩
      refine hK.out _ _ (hHeld.trans (b3.mono hHeld.size)) (fun hHeld => ?_)
      clear hK K
      try simp only [Act.put, List.getElem_toArray, List.getElem_cons_succ, List.getElem_cons_zero, List.setIfInBounds_toArray, List.set_cons_zero, List.set_cons_succ]
      replace TR := hide ((unhide TR).below b3)
      replace BXX := hide ((unhide BXX).below b3)
      clear b3
      refine wpAnyH_ready (rs := [4]) (by kernel_rfl) (by simp) ?_
      refine (AllReadyH.cons rfl (fun K hK => ?_) AllReadyH.nil)
      have hlb := hHeld.size
      have hbl := (unhide BXX).lt
      go_simp
      go_at_call 29
      refine (unhide H2 _ _ _ (unhide TR)).mono ?_
      rintro e w4 ⟨a6, c6, rfl, i6, b4⟩
      refine hK.out _ _ (hHeld.trans (b4.mono hHeld.size)) (fun hHeld => ?_)
      clear hK K
      try simp only [Act.put, List.getElem_toArray, List.getElem_cons_succ, List.getElem_cons_zero, List.setIfInBounds_toArray, List.set_cons_zero, List.set_cons_succ]
      replace TR := hide ((unhide TR).below b4)
      replace BXX := hide ((unhide BXX).below b4)
      have hlo := b4.size
      have I6 := hide i6
      clear i6 b4
      refine wpAnyH_take (i := 5) (v := ?_) rfl (by kernel_rfl) (by kernel_rfl) (by kernel_rfl) (fun _ _ _ h => h) (Or.inl ⟨by rfl, ?_⟩) hHeld ?_
      rotate_left
      · intro V hSw; go_simp; rfl
      try simp only [Act.put, List.getElem_toArray, List.getElem_cons_succ, List.getElem_cons_zero, List.setIfInBounds_toArray, List.set_cons_zero, List.set_cons_succ]
      refine wpAnyH_take (i := 6) (v := ?_) rfl (by kernel_rfl) (by kernel_rfl) (by kernel_rfl) (fun _ _ _ h => h) (Or.inl ⟨by rfl, ?_⟩) hHeld ?_
      rotate_left
      · intro V hSw; go_simp; rfl
      try simp only [Act.put, List.getElem_toArray, List.getElem_cons_succ, List.getElem_cons_zero, List.setIfInBounds_toArray, List.set_cons_zero, List.set_cons_succ]
      refine wpAnyH_take (i := 7) (v := ?_) rfl (by kernel_rfl) (by kernel_rfl) (by kernel_rfl) (fun _ _ _ h => h) (Or.inl ⟨by rfl, ?_⟩) hHeld ?_
      rotate_left
      · intro V hSw; go_simp; rfl
      try simp only [Act.put, List.getElem_toArray, List.getElem_cons_succ, List.getElem_cons_zero, List.setIfInBounds_toArray, List.set_cons_zero, List.set_cons_succ]
      have y1 := (unhide BXX).cv
      have y2 := (unhide BXX).fz
      have yl := (unhide BXX).lt
      have F7 := hide (st7 (unhide BXX) (.int .i64 E.lg) (.slice a6 E.S.length c6) (.bool E.r.kn) (.int .i64 E.r.la) (.int .i64 E.r.mi) (.int .i64 E.r.sm) (.int .i64 E.r.va))
      have hpb : V1.heap.size ≤ U0.heap.size := unhide hp0
      have K6 := hide (((unhide I6).kq (unhide F7).2 (fun q hq => by first | omega | (right; omega) | (left; omega))).rd)
      refine wpAnyH_ready (rs := [9]) (by kernel_rfl) (by simp) ?_
      refine (AllReadyH.cons rfl (fun K hK => ?_) AllReadyH.nil)
      go_simp
      refine hK.out _ _ (hHeld.trans ((unhide F7).2.below hHeld.size (fun q hq => by omega))) (fun hHeld => ?_)
      clear hK K
      try simp only [Act.put, List.getElem_toArray, List.getElem_cons_succ, List.getElem_cons_zero, List.setIfInBounds_toArray, List.set_cons_zero, List.set_cons_succ]
      refine wpAnyH_take (i := 10) (v := ?_) rfl (by kernel_rfl) (by kernel_rfl) (by kernel_rfl) (fun _ _ _ h => h) (Or.inl ⟨by rfl, ?_⟩) hHeld ?_
      rotate_left
      · intro V hSw; go_simp; rfl
      try simp only [Act.put, List.getElem_toArray, List.getElem_cons_succ, List.getElem_cons_zero, List.setIfInBounds_toArray, List.set_cons_zero, List.set_cons_succ]
      refine wpAnyH_done (by kernel_rfl) ?_ _
      refine NoPanic.normal ?_
      have HHB := hide hHeld
      clear hHeld y1 y2
      go_wp2_with fail
      go_meet
      exact ⟨_, a6, c6, rfl, rfl, (unhide F7).1, unhide K6, unhide HHB, hpb⟩
  case rest =>
  obtain ⟨p6, a6, c6, rfl, rfl, P6, WR, bc, hp6⟩ := hcut
  obtain ⟨V2, hV⟩ : ∃ V, V = wc := ⟨_, rfl⟩
  rw [← hV] at P6 WR bc ⊢
  clear hV
  replace P2 := hide ((unhide P2).below (unhide bc))
  replace P3 := hide ((unhide P3).below (unhide bc))
  replace B0 := hide ((unhide B0).trans ((unhide bc).mono (unhide B0).size))
  have l1 : w.heap.size + 1 < V2.heap.size := (unhide P3).lt
  have l6 : p6 < V2.heap.size := (unhide P6).lt
  have z2 := (unhide P2).cv
  clear bc
  go_wp2_with fail
  refine (unhide H1 _ (unhide B0)).mono ?_
  rintro e w3 ⟨g3, rfl, i3, b3⟩
  obtain ⟨V4, hV4⟩ : ∃ V, V = w3.alloc (.cells (spaceC D (some ⟨g3, 0, none⟩) D.S.length).toArray 50) := ⟨_, rfl⟩
  have AL : Below w3.heap.size w3 V4 := by rw [hV4]; exact (Below.refl _ _).alloc (Nat.le_refl _) _
  have P8 := hide (show Bx V4 w3.heap.size (spaceC D (some ⟨g3, 0, none⟩) D.S.length) by rw [hV4]; exact Bx.new w3 _ _)
  have X0 := hide (i3.below AL)
  have B3 := hide (b3.trans (AL.mono b3.size))
  replace P2 := hide ((unhide P2).below (unhide B3))
  replace P3 := hide ((unhide P3).below (unhide B3))
  replace P6 := hide ((unhide P6).below (unhide B3))
  replace B0 := hide ((unhide B0).trans ((unhide B3).mono (unhide B0).size))
  have s3 : V2.heap.size ≤ w3.heap.size := b3.size
  have s4 : w3.heap.size < V4.heap.size := (unhide P8).lt
  have HV4 := hide hV4
  clear i3 b3 AL hV4 z2
  go_upto_region 7 with fail
  rw [← unhide HV4]
  clear HV4
  go_cut [9, 10] (fun s9 s10 wx => ∃ p9 a9 c9 lb ls, s9 = .pointer (some ⟨p9, 0, none⟩) ∧ s10 = .bool r1 ∧ Hid (Bx wx p9 (spaceC E a9 c9)) ∧ Hid (Ri sentK lb ls wx a9 E.S) ∧ Hid (Below V4.heap.size V4 wx) ∧ V4.heap.size ≤ p9 ∧ V4.heap.size ≤ lb ∧ ls ≤ wx.heap.size ∧ (p9 < lb ∨ ls ≤ p9))
  case first =>
    refine wp_region_noPanic ?_
    refine wp_region_held_drew (S := fun V => Below V4.heap.size V4 V) (by kernel_rfl) (Below.refl _ _).drew (fun hHeld => ?_)
    refine wpAnyH_take (i := 0) (v := ?_) rfl (by kernel_rfl) (by kernel_rfl) (by kernel_rfl) (fun _ _ _ h => h) (Or.inl ⟨by rfl, ?_⟩) hHeld ?_
    rotate_left
    · intro V hSw; have y1 := (Bx.below (unhide P8) hSw).cv; have y2 := (Bx.below (unhide P8) hSw).lt; go_simp; rfl
    try simp only [Act.put, List.getElem_toArray, List.getElem_cons_zero, List.setIfInBounds_toArray, List.set_cons_zero, List.set_cons_succ]
    refine wpAnyH_take (i := 1) (v := ?_) rfl (by kernel_rfl) (by kernel_rfl) (by kernel_rfl) (fun _ _ _ h => h) (Or.inl ⟨by rfl, ?_⟩) hHeld ?_
    rotate_left
    · intro V hSw; have y1 := (Bx.below (unhide P3) hSw).cv; have y2 := (Bx.below (unhide P3) hSw).lt; go_simp; rfl
    try simp only [Act.put, List.getElem_toArray, List.getElem_cons_succ, List.getElem_cons_zero, List.setIfInBounds_toArray, List.set_cons_zero, List.set_cons_succ]
    obtain ⟨U0, hU0⟩ : ∃ U, U = V4.drew := ⟨_, rfl⟩
    rw [← hU0] at hHeld ⊢
    replace X0 := hide ((unhide X0).below (show Below V4.heap.size V4 U0 by rw [hU0]; exact (Below.refl _ _).drew))
    clear hU0
    refine wpAnyH_ready (rs := [2, 7]) (by kernel_rfl) (by simp) ?_
    refine (AllReadyH.cons rfl (fun K hK => ?_) (AllReadyH.cons rfl (fun K hK => ?_) AllReadyH.nil))
    · -- the call first
      have hlb := hHeld.size
      go_simp
      go_at_call 30
      refine (unhide HTX _).mono ?_
      rintro e w5 ⟨rfl, b5⟩
      refine hK.out _ _ (hHeld.trans (b5.mono hHeld.size)) (fun hHeld => ?_)
      clear hK K
      try simp only [Act.put, List.getElem_toArray, List.getElem_cons_succ, List.getElem_cons_zero, List.setIfInBounds_toArray, List.set_cons_zero, List.set_cons_succ]
      replace X0 := hide ((unhide X0).below b5)
      clear b5
      refine wpAnyH_ready (rs := [3, 7]) (by kernel_rfl) (by simp) ?_
      refine (AllReadyH.cons rfl (fun K hK => ?_) (AllReadyH.cons rfl (fun K hK => ?_) AllReadyH.nil))
      · -- the call first
        have hlb := hHeld.size
        go_simp
        go_at_call 31
        refine (unhide H3 _ _ _ (Ri.rd (unhide X0)) (Nat.le_refl _)).mono ?_
        rintro e w6 ⟨a9, c9, rfl, i9, b6⟩
        refine hK.out _ _ (hHeld.trans (b6.mono hHeld.size)) (fun hHeld => ?_)
        clear hK K
        try simp only [Act.put, List.getElem_toArray, List.getElem_cons_succ, List.getElem_cons_zero, List.setIfInBounds_toArray, List.set_cons_zero, List.set_cons_succ]
        replace X0 := hide ((unhide X0).below b6)
        have I9 := hide i9
        clear i9 b6
        refine wpAnyH_take (i := 4) (v := ?_) rfl (by kernel_rfl) (by kernel_rfl) (by kernel_rfl) (fun _ _ _ h => h) (Or.inl ⟨by rfl, ?_⟩) hHeld ?_
        rotate_left
        · intro V hSw; go_simp; rfl
        try simp only [Act.put, List.getElem_toArray, List.getElem_cons_succ, List.getElem_cons_zero, List.setIfInBounds_toArray, List.set_cons_zero, List.set_cons_succ]
        refine wpAnyH_take (i := 5) (v := ?_) rfl (by kernel_rfl) (by kernel_rfl) (by kernel_rfl) (fun _ _ _ h => h) (Or.inl ⟨by rfl, ?_⟩) hHeld ?_
        rotate_left
        · intro V hSw; go_simp; rfl
        try simp only [Act.put, List.getElem_toArray, List.getElem_cons_succ, List.getElem_cons_zero, List.setIfInBounds_toArray, List.set_cons_zero, List.set_cons_succ]
        refine wpAnyH_take (i := 6) (v := ?_) rfl (by kernel_rfl) (by kernel_rfl) (by kernel_rfl) (fun _ _ _ h => h) (Or.inl ⟨by rfl, ?_⟩) hHeld ?_
        rotate_left
        · intro V hSw; go_simp; rfl
        try simp only [Act.put, List.getElem_toArray, List.getElem_cons_succ, List.getElem_cons_zero, List.setIfInBounds_toArray, List.set_cons_zero, List.set_cons_succ]
        refine wpAnyH_ready (rs := [7]) (by kernel_rfl) (by simp) ?_
        refine (AllReadyH.cons rfl (fun K hK => ?_) AllReadyH.nil)
        go_simp
        obtain ⟨U7, hU⟩ : ∃ U, U = w6.alloc (.cells #[.int .i64 0, .slice none 0 0, .bool false, .int .i64 0, .int .i64 0, .int .i64 0, .int .i64 0] 50) := ⟨_, rfl⟩
        have bU : Below w6.heap.size w6 U7 := by rw [hU]; exact (Below.refl _ _).alloc (Nat.le_refl _) _
        have BXX := hide (show Bx U7 w6.heap.size [.int .i64 0, .slice none 0 0, .bool false, .int .i64 0, .int .i64 0, .int .i64 0, .int .i64 0] by rw [hU]; exact Bx.new w6 _ _)
        have hp0 := hide hHeld.size
        rw [← hU]
        refine hK.out _ _ (hHeld.trans (bU.mono hHeld.size)) (fun hHeld => ?_)
        clear hK K hU
        try simp only [Act.put, List.getElem_toArray, List.getElem_cons_succ, List.getElem_cons_zero, List.setIfInBounds_toArray, List.set_cons_zero, List.set_cons_succ]
        replace X0 := hide ((unhide X0).below bU)
        replace I9 := hide ((unhide I9).below bU)
        have hsU := bU.size
        clear bU
        have y1 := (unhide BXX).cv
        have y2 := (unhide BXX).fz
        have yl := (unhide BXX).lt
        have F7 := hide (st7 (unhide BXX) (.int .i64 E.lg) (.slice a9 E.S.length c9) (.bool E.r.kn) (.int .i64 E.r.la) (.int .i64 E.r.mi) (.int .i64 E.r.sm) (.int .i64 E.r.va))
        have hpb : V4.heap.size ≤ w6.heap.size := unhide hp0
        have K9 := hide ((unhide I9).kq (unhide F7).2 (fun q hq => by first | omega | (right; omega) | (left; omega)))
        refine wpAnyH_ready (rs := [8]) (by kernel_rfl) (by simp) ?_
        refine (AllReadyH.cons rfl (fun K hK => ?_) AllReadyH.nil)
        go_simp
        refine hK.out _ _ (hHeld.trans ((unhide F7).2.below hHeld.size (fun q hq => by omega))) (fun hHeld => ?_)
        clear hK K
        try simp only [Act.put, List.getElem_toArray, List.getElem_cons_succ, List.getElem_cons_zero, List.setIfInBounds_toArray, List.set_cons_zero, List.set_cons_succ]
        refine wpAnyH_take (i := 9) (v := ?_) rfl (by kernel_rfl) (by kernel_rfl) (by kernel_rfl) (fun _ _ _ h => h) (Or.inl ⟨by rfl, ?_⟩) hHeld ?_
        rotate_left
        · intro V hSw; go_simp; rfl
        try simp only [Act.put, List.getElem_toArray, List.getElem_cons_succ, List.getElem_cons_zero, List.setIfInBounds_toArray, List.set_cons_zero, List.set_cons_succ]
        refine wpAnyH_done (by kernel_rfl) ?_ _
        refine NoPanic.normal ?_
        have HHB := hide hHeld
        clear hHeld y1 y2
        go_wp2_with fail
        go_meet
        exact ⟨_, a9, c9, _, _, rfl, rfl, (unhide F7).1, unhide K9, unhide HHB, hpb, hlb, (by have := (unhide F7).2.size; omega), (by first | omega | (right; omega) | (left; omega))⟩
      · -- the box first
        go_simp
        obtain ⟨U6, hU⟩ : ∃ U, U = w5.alloc (.cells #[.int .i64 0, .slice none 0 0, .bool false, .int .i64 0, .int .i64 0, .int .i64 0, .int .i64 0] 50) := ⟨_, rfl⟩
        have bU : Below w5.heap.size w5 U6 := by rw [hU]; exact (Below.refl _ _).alloc (Nat.le_refl _) _
        have BXX := hide (show Bx U6 w5.heap.size [.int .i64 0, .slice none 0 0, .bool false, .int .i64 0, .int .i64 0, .int .i64 0, .int .i64 0] by rw [hU]; exact Bx.new w5 _ _)
        have hp0 := hide hHeld.size
        rw [← hU]
        refine hK.out _ _ (hHeld.trans (bU.mono hHeld.size)) (fun hHeld => ?_)
        clear hK K hU
        try simp only [Act.put, List.getElem_toArray, List.getElem_cons_succ, List.getElem_cons_zero, List.setIfInBounds_toArray, List.set_cons_zero, List.set_cons_succ]
        replace X0 := hide ((unhide X0).below bU)
        have hsU := bU.size
        clear bU
        refine wpAnyH_ready (rs := [3]) (by kernel_rfl) (by simp) ?_
        refine (AllReadyH.cons rfl (fun K hK => ?_) AllReadyH.nil)
        have hlb := hHeld.size
        have hbl := (unhide BXX).lt
        go_simp
        go_at_call 31
        refine (unhide H3 _ _ _ (Ri.rd (unhide X0)) (Nat.le_refl _)).mono ?_
        rintro e w6 ⟨a9, c9, rfl, i9, b6⟩
        refine hK.out _ _ (hHeld.trans (b6.mono hHeld.size)) (fun hHeld => ?_)
        clear hK K
        try simp only [Act.put, List.getElem_toArray, List.getElem_cons_succ, List.getElem_cons_zero, List.setIfInBounds_toArray, List.set_cons_zero, List.set_cons_succ]
        replace X0 := hide ((unhide X0).below b6)
        replace BXX := hide ((unhide BXX).below b6)
        have I9 := hide i9
        clear i9 b6
        refine wpAnyH_take (i := 4) (v := ?_) rfl (by kernel_rfl) (by kernel_rfl) (by kernel_rfl) (fun _ _ _ h => h) (Or.inl ⟨by rfl, ?_⟩) hHeld ?_
        rotate_left
        · intro V hSw; go_simp; rfl
        try simp only [Act.put, List.getElem_toArray, List.getElem_cons_succ, List.getElem_cons_zero, List.setIfInBounds_toArray, List.set_cons_zero, List.set_cons_succ]
        refine wpAnyH_take (i := 5) (v := ?_) rfl (by kernel_rfl) (by kernel_rfl) (by kernel_rfl) (fun _ _ _ h => h) (Or.inl ⟨by rfl, ?_⟩) hHeld ?_
        rotate_left
        · intro V hSw; go_simp; rfl
        try simp only [Act.put, List.getElem_toArray, List.getElem_cons_succ, List.getElem_cons_zero, List.setIfInBounds_toArray, List.set_cons_zero, List.set_cons_succ]
        refine wpAnyH_take (i := 6) (v := ?_) rfl (by kernel_rfl) (by kernel_rfl) (by kernel_rfl) (fun _ _ _ h => h) (Or.inl ⟨by rfl, ?_⟩) hHeld ?_
        rotate_left
        · intro V hSw; go_simp; rfl
        try simp only [Act.put, List.getElem_toArray, List.getElem_cons_succ, List.getElem_cons_zero, List.setIfInBounds_toArray, List.set_cons_zero, List.set_cons_succ]
        have y1 := (unhide BXX).cv
        have y2 := (unhide BXX).fz
        have yl := (unhide BXX).lt
        have F7 := hide (st7 (unhide BXX) (.int .i64 E.lg) (.slice a9 E.S.length c9) (.bool E.r.kn) (.int .i64 E.r.la) (.int .i64 E.r.mi) (.int .i64 E.r.sm) (.int .i64 E.r.va))
        have hpb : V4.heap.size ≤ w5.heap.size := unhide hp0
        have K9 := hide ((unhide I9).kq (unhide F7).2 (fun q hq => by first | omega | (right; omega) | (left; omega)))
        refine wpAnyH_ready (rs := [8]) (by kernel_rfl) (by simp) ?_
        refine (AllReadyH.cons rfl (fun K hK => ?_) AllReadyH.nil)
        go_simp
        refine hK.out _ _ (hHeld.trans ((unhide F7).2.below hHeld.size (fun q hq => by omega))) (fun hHeld => ?_)
        clear hK K
        try simp only [Act.put, List.getElem_toArray, List.getElem_cons_succ, List.getElem_cons_zero, List.setIfInBounds_toArray, List.set_cons_zero, List.set_cons_succ]
        refine wpAnyH_take (i := 9) (v := ?_) rfl (by kernel_rfl) (by kernel_rfl) (by kernel_rfl) (fun _ _ _ h => h) (Or.inl ⟨by rfl, ?_⟩) hHeld ?_
        rotate_left
        · intro V hSw; go_simp; rfl
        try simp only [Act.put, List.getElem_toArray, List.getElem_cons_succ, List.getElem_cons_zero, List.setIfInBounds_toArray, List.set_cons_zero, List.set_cons_succ]
        refine wpAnyH_done (by kernel_rfl) ?_ _
        refine NoPanic.normal ?_
        have HHB := hide hHeld
        clear hHeld y1 y2
        go_wp2_with fail
        go_meet
        exact ⟨_, a9, c9, _, _, rfl, rfl, (unhide F7).1, unhide K9, unhide HHB, hpb, hlb, (by have := (unhide F7).2.size; omega), (by first | omega | (right; omega) | (left; omega))⟩
    · -- the box first
      go_simp
      obtain ⟨U5, hU⟩ : ∃ U, U = U0.alloc (.cells #[.int .i64 0, .slice none 0 0, .bool false, .int .i64 0, .int .i64 0, .int .i64 0, .int .i64 0] 50) := ⟨_, rfl⟩
      have bU : Below U0.heap.size U0 U5 := by rw [hU]; exact (Below.refl _ _).alloc (Nat.le_refl _) _
      have BXX := hide (show Bx U5 U0.heap.size [.int .i64 0, .slice none 0 0, .bool false, .int .i64 0, .int .i64 0, .int .i64 0, .int .i64 0] by rw [hU]; exact Bx.new U0 _ _)
      have hp0 := hide hHeld.size
      rw [← hU]
      refine hK.out _ _ (hHeld.trans (bU.mono hHeld.size)) (fun hHeld => ?_)
      clear hK K hU
      try simp only [Act.put, List.getElem_toArray, List.getElem_cons_succ, List.getElem_cons_zero, List.setIfInBounds_toArray, List.set_cons_zero, List.set_cons_succ]
      replace X0 := hide ((unhide X0).below bU)
      have hsU := bU.size
      clear bU
      refine wpAnyH_ready (rs := [2]) (by kernel_rfl) (by simp) ?_
      refine (AllReadyH.cons rfl (fun K hK => ?_) AllReadyH.nil)
      have hlb := hHeld.size
      have hbl := (unhide BXX).lt
      go_simp
      go_at_call 30
      refine (unhide HTX _).mono ?_
      rintro e w5 ⟨rfl, b5⟩
      refine hK.out _ _ (hHeld.trans (b5.mono hHeld.size)) (fun hHeld => ?_)
      clear hK K
      try simp only [Act.put, List.getElem_toArray, List.getElem_cons_succ, List.getElem_cons_zero, List.setIfInBounds_toArray, List.set_cons_zero, List.set_cons_succ]
      replace X0 := hide ((unhide X0).below b5)
      replace BXX := hide ((unhide BXX).below b5)
      clear b5
      refine wpAnyH_ready (rs := [3]) (by kernel_rfl) (by simp) ?_
      refine (AllReadyH.cons rfl (fun K hK => ?_) AllReadyH.nil)
      have hlb := hHeld.size
      have hbl := (unhide BXX).lt
      go_simp
      go_at_call 31
      refine (unhide H3 _ _ _ (Ri.rd (unhide X0)) (Nat.le_refl _)).mono ?_
      rintro e w6 ⟨a9, c9, rfl, i9, b6⟩
      refine hK.out _ _ (hHeld.trans (b6.mono hHeld.size)) (fun hHeld => ?_)
      clear hK K
      try simp only [Act.put, List.getElem_toArray, List.getElem_cons_succ, List.getElem_cons_zero, List.setIfInBounds_toArray, List.set_cons_zero, List.set_cons_succ]
      replace X0 := hide ((unhide X0).below b6)
      replace BXX := hide ((unhide BXX).below b6)
      have I9 := hide i9
      clear i9 b6
      refine wpAnyH_take (i := 4) (v := ?_) rfl (by kernel_rfl) (by kernel_rfl) (by kernel_rfl) (fun _ _ _ h => h) (Or.inl ⟨by rfl, ?_⟩) hHeld ?_
      rotate_left
      · intro V hSw; go_simp; rfl
      try simp only [Act.put, List.getElem_toArray, List.getElem_cons_succ, List.getElem_cons_zero, List.setIfInBounds_toArray, List.set_cons_zero, List.set_cons_succ]
      refine wpAnyH_take (i := 5) (v := ?_) rfl (by kernel_rfl) (by kernel_rfl) (by kernel_rfl) (fun _ _ _ h => h) (Or.inl ⟨by rfl, ?_⟩) hHeld ?_
      rotate_left
      · intro V hSw; go_simp; rfl
      try simp only [Act.put, List.getElem_toArray, List.getElem_cons_succ, List.getElem_cons_zero, List.setIfInBounds_toArray, List.set_cons_zero, List.set_cons_succ]
      refine wpAnyH_take (i := 6) (v := ?_) rfl (by kernel_rfl) (by kernel_rfl) (by kernel_rfl) (fun _ _ _ h => h) (Or.inl ⟨by rfl, ?_⟩) hHeld ?_
      rotate_left
      · intro V hSw; go_simp; rfl
      try simp only [Act.put, List.getElem_toArray, List.getElem_cons_succ, List.getElem_cons_zero, List.setIfInBounds_toArray, List.set_cons_zero, List.set_cons_succ]
      have y1 := (unhide BXX).cv
      have y2 := (unhide BXX).fz
      have yl := (unhide BXX).lt
      have F7 := hide (st7 (unhide BXX) (.int .i64 E.lg) (.slice a9 E.S.length c9) (.bool E.r.kn) (.int .i64 E.r.la) (.int .i64 E.r.mi) (.int .i64 E.r.sm) (.int .i64 E.r.va))
      have hpb : V4.heap.size ≤ U0.heap.size := unhide hp0
      have K9 := hide ((unhide I9).kq (unhide F7).2 (fun q hq => by first | omega | (right; omega) | (left; omega)))
      refine wpAnyH_ready (rs := [8]) (by kernel_rfl) (by simp) ?_
      refine (AllReadyH.cons rfl (fun K hK => ?_) AllReadyH.nil)
      go_simp
      refine hK.out _ _ (hHeld.trans ((unhide F7).2.below hHeld.size (fun q hq => by omega))) (fun hHeld => ?_)
      clear hK K
      try simp only [Act.put, List.getElem_toArray, List.getElem_cons_succ, List.getElem_cons_zero, List.setIfInBounds_toArray, List.set_cons_zero, List.set_cons_succ]
      refine wpAnyH_take (i := 9) (v := ?_) rfl (by kernel_rfl) (by kernel_rfl) (by kernel_rfl) (fun _ _ _ h => h) (Or.inl ⟨by rfl, ?_⟩) hHeld ?_
      rotate_left
      · intro V hSw; go_simp; rfl
      try simp only [Act.put, List.getElem_toArray, List.getElem_cons_succ, List.getElem_cons_zero, List.setIfInBounds_toArray, List.set_cons_zero, List.set_cons_succ]
      refine wpAnyH_done (by kernel_rfl) ?_ _
      refine NoPanic.normal ?_
      have HHB := hide hHeld
      clear hHeld y1 y2
      go_wp2_with fail
      go_meet
      exact ⟨_, a9, c9, _, _, rfl, rfl, (unhide F7).1, unhide K9, unhide HHB, hpb, hlb, (by have := (unhide F7).2.size; omega), (by first | omega | (right; omega) | (left; omega))⟩
  case rest =>
  obtain ⟨p9, a9, c9, lb, ls, rfl, rfl, P9, GR, bc, hp9, hlb, hls, hnp⟩ := hcut
  obtain ⟨V5, hV⟩ : ∃ V, V = wc := ⟨_, rfl⟩
  rw [← hV] at P9 GR bc hls ⊢
  clear hV
  replace P2 := hide ((unhide P2).below (unhide bc))
  replace P3 := hide ((unhide P3).below (unhide bc))
  replace P6 := hide ((unhide P6).below (unhide bc))
  replace P8 := hide ((unhide P8).below (unhide bc))
  replace X0 := hide ((unhide X0).below (unhide bc))
  replace B0 := hide ((unhide B0).trans ((unhide bc).mono (unhide B0).size))
  replace B3 := hide ((unhide B3).trans ((unhide bc).mono (unhide B3).size))
  have y9 := (unhide P9).cv
  have y6 := (unhide P6).cv
  have s5 := (unhide bc).size
  clear bc
  go_wp2_with fail
  refine (unhide H5 _ _ _ _ _ (Ri.rd (unhide GR)) ((unhide WR).below (unhide B3))).mono ?_
  rintro e V6 ⟨rfl, b6⟩
  replace P2 := hide ((unhide P2).below b6)
  replace P3 := hide ((unhide P3).below b6)
  replace P6 := hide ((unhide P6).below b6)
  replace P8 := hide ((unhide P8).below b6)
  replace P9 := hide ((unhide P9).below b6)
  replace X0 := hide ((unhide X0).below b6)
  replace GR := hide ((unhide GR).below b6)
  replace B0 := hide ((unhide B0).trans (b6.mono (unhide B0).size))
  replace B3 := hide ((unhide B3).trans (b6.mono (unhide B3).size))
  have s6 := b6.size
  clear b6 y9 y6
  go_upto_region 10 with fail
  go_cut [51] (fun ss wx => ss = .bool false ∧ Hid (Below V6.heap.size V6 wx))
  case first =>
    refine wp_region_noPanic ?_
    refine wp_region_held_drew (S := fun V => Below V6.heap.size V6 V) (by kernel_rfl) (Below.refl _ _).drew (fun hHeld => ?_)
    refine wpAnyH_take (i := 0) (v := ?_) rfl (by kernel_rfl) (by kernel_rfl) (by kernel_rfl) (fun _ _ _ h => h) (Or.inl ⟨by rfl, ?_⟩) hHeld ?_
    rotate_left
    · intro V hSw; have y1 := (Bx.below (unhide P8) hSw).cv; have y2 := (Bx.below (unhide P8) hSw).lt; go_simp; rfl
    try simp only [Act.put, List.getElem_toArray, List.getElem_cons_zero, List.setIfInBounds_toArray, List.set_cons_zero, List.set_cons_succ]
    refine wpAnyH_take (i := 1) (v := ?_) rfl (by kernel_rfl) (by kernel_rfl) (by kernel_rfl) (fun _ _ _ h => h) (Or.inl ⟨by rfl, ?_⟩) hHeld ?_
    rotate_left
    · intro V hSw; have y1 := (Bx.below (unhide P2) hSw).cv; have y2 := (Bx.below (unhide P2) hSw).lt; go_simp; rfl
    try simp only [Act.put, List.getElem_toArray, List.getElem_cons_succ, List.getElem_cons_zero, List.setIfInBounds_toArray, List.set_cons_zero, List.set_cons_succ]
    obtain ⟨U0, hU0⟩ : ∃ U, U = V6.drew := ⟨_, rfl⟩
    rw [← hU0] at hHeld ⊢
    replace X0 := hide ((unhide X0).below (show Below V6.heap.size V6 U0 by rw [hU0]; exact (Below.refl _ _).drew))
    clear hU0
    refine wpAnyH_ready (rs := [2]) (by kernel_rfl) (by simp) ?_
    refine (AllReadyH.cons rfl (fun K hK => ?_) AllReadyH.nil)
    have hlb := hHeld.size
    go_simp
    go_at_call 26
    refine (unhide H1 _ ((unhide B0).trans (hHeld.mono (unhide B0).size))).mono ?_
    rintro e w7 ⟨g7, rfl, i9, b7⟩
    refine hK.out _ _ (hHeld.trans (b7.mono hHeld.size)) (fun hHeld => ?_)
    clear hK K
    try simp only [Act.put, List.getElem_toArray, List.getElem_cons_succ, List.getElem_cons_zero, List.setIfInBounds_toArray, List.set_cons_zero, List.set_cons_succ]
    replace X0 := hide ((unhide X0).below b7)
    have TR := hide (Ri.rd i9)
    clear i9 b7
    refine wpAnyH_ready (rs := [3]) (by kernel_rfl) (by simp) ?_
    refine (AllReadyH.cons rfl (fun K hK => ?_) AllReadyH.nil)
    have hlb := hHeld.size
    go_simp
    go_at_call 28
    refine (unhide H4 _ _ _ _ _ (Ri.rd (unhide X0)) (unhide TR)).mono ?_
    rintro e w8 ⟨rfl, b8⟩
    refine hK.out _ _ (hHeld.trans (b8.mono hHeld.size)) (fun hHeld => ?_)
    clear hK K
    try simp only [Act.put, List.getElem_toArray, List.getElem_cons_succ, List.getElem_cons_zero, List.setIfInBounds_toArray, List.set_cons_zero, List.set_cons_succ]
    replace X0 := hide ((unhide X0).below b8)
    replace TR := hide ((unhide TR).below b8)
    clear b8
    refine wpAnyH_take (i := 4) (v := ?_) rfl (by kernel_rfl) (by kernel_rfl) (by kernel_rfl) (fun _ _ _ h => h) (Or.inl ⟨by rfl, ?_⟩) hHeld ?_
    rotate_left
    · intro V hSw; go_simp; rfl
    try simp only [Act.put, List.getElem_toArray, List.getElem_cons_succ, List.getElem_cons_zero, List.setIfInBounds_toArray, List.set_cons_zero, List.set_cons_succ]
    refine wpAnyH_done (by kernel_rfl) ?_ _
    refine NoPanic.normal ?_
    have HHB := hide hHeld
    clear hHeld
    go_wp2_with fail
    go_meet
    exact ⟨rfl, unhide HHB⟩
  case rest =>
  obtain ⟨rfl, bc⟩ := hcut
  obtain ⟨V7, hV⟩ : ∃ V, V = wc := ⟨_, rfl⟩
  rw [← hV] at bc ⊢
  clear hV
  replace P2 := hide ((unhide P2).below (unhide bc))
  replace P3 := hide ((unhide P3).below (unhide bc))
  replace P6 := hide ((unhide P6).below (unhide bc))
  replace P8 := hide ((unhide P8).below (unhide bc))
  replace P9 := hide ((unhide P9).below (unhide bc))
  replace X0 := hide ((unhide X0).below (unhide bc))
  replace GR := hide ((unhide GR).below (unhide bc))
  replace B0 := hide ((unhide B0).trans ((unhide bc).mono (unhide B0).size))
  replace B3 := hide ((unhide B3).trans ((unhide bc).mono (unhide B3).size))
  have s7 := (unhide bc).size
  have y8 := (unhide P8).cv
  have hl0 := unhide HSZ
  have MK := hide (markSpace_any V2.heap.size w3.heap.size D (some ⟨g3, 0, none⟩) D.S.length 1 V7 hl0 (by omega) (by omega) (unhide X0))
  have hb8 : 1 + D.S.length * 3 ≤ 20000000 := by omega
  generalize 1 + D.S.length * 3 = k8 at *
  have hn8 : ¬ (k8 : Int) < 0 := by omega
  clear bc hl0
  go_wp2_with fail
  refine (unhide MK).mono ?_
  rintro e V8 ⟨rfl, m8, q8⟩
  have s8 := q8.size
  replace P2 := hide ((unhide P2).kept q8.size (q8.block _ (unhide P2).lt (by omega)))
  replace P3 := hide ((unhide P3).kept q8.size (q8.block _ (unhide P3).lt (by omega)))
  replace P6 := hide ((unhide P6).kept q8.size (q8.block _ (unhide P6).lt (by omega)))
  replace P8 := hide ((unhide P8).kept q8.size (q8.block _ (unhide P8).lt (by omega)))
  replace P9 := hide ((unhide P9).kept q8.size (q8.block _ (unhide P9).lt (by omega)))
  replace GR := hide ((unhide GR).kq q8 (fun q hq => by omega))
  replace B0 := hide ((unhide B0).trans (q8.below (unhide B0).size (fun q hq => by omega)))
  replace B3 := hide ((unhide B3).trans (q8.below (unhide B3).size (fun q hq => by omega)))
  clear m8 q8 MK X0 y8
  have y9 := (unhide P9).cv
  have y6 := (unhide P6).cv
  go_wp2_with fail
  refine (unhide H5 _ _ _ _ _ (Ri.rd (unhide GR)) ((unhide WR).below (unhide B3))).mono ?_
  rintro e V9 ⟨rfl, b9⟩
  replace P2 := hide ((unhide P2).below b9)
  replace P3 := hide ((unhide P3).below b9)
  replace P6 := hide ((unhide P6).below b9)
  replace P9 := hide ((unhide P9).below b9)
  replace GR := hide ((unhide GR).below b9)
  replace B0 := hide ((unhide B0).trans (b9.mono (unhide B0).size))
  replace B3 := hide ((unhide B3).trans (b9.mono (unhide B3).size))
  have s9 := b9.size
  clear b9 y9 y6 P8
  have y9 := (unhide P9).cv
  have MK := hide (markSpace_any lb ls E a9 c9 1 V9 hE (by omega) (by omega) (unhide GR))
  have HH := hide (fun W h => heldSpace_any lb ls E a9 c9 1 W hE (by omega) h)
  have hb10 : 1 + E.S.length * 3 ≤ 40000000 := by omega
  generalize 1 + E.S.length * 3 = k10 at *
  have hn10 : ¬ (k10 : Int) < 0 := by omega
  go_wp2_with fail
  refine (unhide MK).mono ?_
  rintro e V10 ⟨rfl, m10, q10⟩
  have s10 := q10.size
  replace P2 := hide ((unhide P2).kept q10.size (q10.block _ (unhide P2).lt (by omega)))
  replace P3 := hide ((unhide P3).kept q10.size (q10.block _ (unhide P3).lt (by omega)))
  replace P6 := hide ((unhide P6).kept q10.size (q10.block _ (unhide P6).lt (by omega)))
  replace P9 := hide ((unhide P9).kept q10.size (q10.block _ (unhide P9).lt (by omega)))
  have GM := hide m10
  replace B0 := hide ((unhide B0).trans (q10.below (unhide B0).size (fun q hq => by omega)))
  replace B3 := hide ((unhide B3).trans (q10.below (unhide B3).size (fun q hq => by omega)))
  clear m10 q10 MK GR y9
  have y9 := (unhide P9).cv
  go_wp2_with fail
  refine (unhide HH _ (unhide GM)).mono ?_
  rintro e V11 ⟨rfl, b11⟩
  replace P2 := hide ((unhide P2).below b11)
  replace P3 := hide ((unhide P3).below b11)
  replace P6 := hide ((unhide P6).below b11)
  replace P9 := hide ((unhide P9).below b11)
  replace GM := hide ((unhide GM).below b11)
  replace B0 := hide ((unhide B0).trans (b11.mono (unhide B0).size))
  replace B3 := hide ((unhide B3).trans (b11.mono (unhide B3).size))
  clear b11 y9
  go_upto_region 24 with fail
  go_cut [14, 15] (fun s14 s15 wx => ∃ p14 a14 c14, s14 = .pointer (some ⟨p14, 0, none⟩) ∧ s15 = .bool r1 ∧ Hid (Bx wx p14 (spaceC E a14 c14)) ∧ Hid (Rd sentK wx a14 E.S) ∧ Hid (Below V11.heap.size V11 wx))
  case first =>
    refine wp_region_noPanic ?_
    refine wp_region_held_drew (S := fun V => Below V11.heap.size V11 V) (by kernel_rfl) (Below.refl _ _).drew (fun hHeld => ?_)
    refine wpAnyH_take (i := 0) (v := ?_) rfl (by kernel_rfl) (by kernel_rfl) (by kernel_rfl) (fun _ _ _ h => h) (Or.inl ⟨by rfl, ?_⟩) hHeld ?_
    rotate_left
    · intro V hSw; have y1 := (Bx.below (unhide P2) hSw).cv; have y2 := (Bx.below (unhide P2) hSw).lt; go_simp; rfl
    try simp only [Act.put, List.getElem_toArray, List.getElem_cons_zero, List.setIfInBounds_toArray, List.set_cons_zero, List.set_cons_succ]
    refine wpAnyH_take (i := 2) (v := ?_) rfl (by kernel_rfl) (by kernel_rfl) (by kernel_rfl) (fun _ _ _ h => h) (Or.inl ⟨by rfl, ?_⟩) hHeld ?_
    rotate_left
    · intro V hSw; have y1 := (Bx.below (unhide P3) hSw).cv; have y2 := (Bx.below (unhide P3) hSw).lt; go_simp; rfl
    try simp only [Act.put, List.getElem_toArray, List.getElem_cons_succ, List.getElem_cons_zero, List.setIfInBounds_toArray, List.set_cons_zero, List.set_cons_succ]
    obtain ⟨U0, hU0⟩ : ∃ U, U = V11.drew := ⟨_, rfl⟩
    rw [← hU0] at hHeld ⊢
    clear hU0
    refine wpAnyH_ready (rs := [1, 8]) (by kernel_rfl) (by simp) ?_
    refine (AllReadyH.cons rfl (fun K hK => ?_) (AllReadyH.cons rfl (fun K hK => ?_) AllReadyH.nil))
    · -- the call first
      have hlb := hHeld.size
      go_simp
      go_at_call 26
      refine (unhide H1 _ ((unhide B0).trans (hHeld.mono (unhide B0).size))).mono ?_
      rintro e w12 ⟨g12, rfl, i9, b12⟩
      refine hK.out _ _ (hHeld.trans (b12.mono hHeld.size)) (fun hHeld => ?_)
      clear hK K
      try simp only [Act.put, List.getElem_toArray, List.getElem_cons_succ, List.getElem_cons_zero, List.setIfInBounds_toArray, List.set_cons_zero, List.set_cons_succ]
      have TR := hide (Ri.rd i9)
      clear i9 b12
      refine wpAnyH_ready (rs := [3, 8]) (by kernel_rfl) (by simp) ?_
      refine (AllReadyH.cons rfl (fun K hK => ?_) (AllReadyH.cons rfl (fun K hK => ?_) AllReadyH.nil))
      · -- the call first
        have hlb := hHeld.size
        go_simp
        go_at_call 30
        refine (unhide HTX _).mono ?_
        rintro e w13 ⟨rfl, b13⟩
        refine hK.out _ _ (hHeld.trans (b13.mono hHeld.size)) (fun hHeld => ?_)
        clear hK K
        try simp only [Act.put, List.getElem_toArray, List.getElem_cons_succ, List.getElem_cons_zero, List.setIfInBounds_toArray, List.set_cons_zero, List.set_cons_succ]
        replace TR := hide ((unhide TR).below b13)
        clear b13
        refine wpAnyH_ready (rs := [4, 8]) (by kernel_rfl) (by simp) ?_
        refine (AllReadyH.cons rfl (fun K hK => ?_) (AllReadyH.cons rfl (fun K hK => ?_) AllReadyH.nil))
        · -- the call first
          have hlb := hHeld.size
          go_simp
          go_at_call 31
          refine (unhide H3 _ _ _ (unhide TR) (Nat.le_refl _)).mono ?_
          rintro e w14 ⟨a14, c14, rfl, i14, b14⟩
          refine hK.out _ _ (hHeld.trans (b14.mono hHeld.size)) (fun hHeld => ?_)
          clear hK K
          try simp only [Act.put, List.getElem_toArray, List.getElem_cons_succ, List.getElem_cons_zero, List.setIfInBounds_toArray, List.set_cons_zero, List.set_cons_succ]
          replace TR := hide ((unhide TR).below b14)
          have I14 := hide i14
          clear i14 b14
          refine wpAnyH_take (i := 5) (v := ?_) rfl (by kernel_rfl) (by kernel_rfl) (by kernel_rfl) (fun _ _ _ h => h) (Or.inl ⟨by rfl, ?_⟩) hHeld ?_
          rotate_left
          · intro V hSw; go_simp; rfl
          try simp only [Act.put, List.getElem_toArray, List.getElem_cons_succ, List.getElem_cons_zero, List.setIfInBounds_toArray, List.set_cons_zero, List.set_cons_succ]
          refine wpAnyH_take (i := 6) (v := ?_) rfl (by kernel_rfl) (by kernel_rfl) (by kernel_rfl) (fun _ _ _ h => h) (Or.inl ⟨by rfl, ?_⟩) hHeld ?_
          rotate_left
          · intro V hSw; go_simp; rfl
          try simp only [Act.put, List.getElem_toArray, List.getElem_cons_succ, List.getElem_cons_zero, List.setIfInBounds_toArray, List.set_cons_zero, List.set_cons_succ]
          refine wpAnyH_take (i := 7) (v := ?_) rfl (by kernel_rfl) (by kernel_rfl) (by kernel_rfl) (fun _ _ _ h => h) (Or.inl ⟨by rfl, ?_⟩) hHeld ?_
          rotate_left
          · intro V hSw; go_simp; rfl
          try simp only [Act.put, List.getElem_toArray, List.getElem_cons_succ, List.getElem_cons_zero, List.setIfInBounds_toArray, List.set_cons_zero, List.set_cons_succ]
          refine wpAnyH_ready (rs := [8]) (by kernel_rfl) (by simp) ?_
          refine (AllReadyH.cons rfl (fun K hK => ?_) AllReadyH.nil)
          go_simp
          obtain ⟨U11, hU⟩ : ∃ U, U = w14.alloc (.cells #[.int .i64 0, .slice none 0 0, .bool false, .int .i64 0, .int .i64 0, .int .i64 0, .int .i64 0] 50) := ⟨_, rfl⟩
          have bU : Below w14.heap.size w14 U11 := by rw [hU]; exact (Below.refl _ _).alloc (Nat.le_refl _) _
          have BXX := hide (show Bx U11 w14.heap.size [.int .i64 0, .slice none 0 0, .bool false, .int .i64 0, .int .i64 0, .int .i64 0, .int .i64 0] by rw [hU]; exact Bx.new w14 _ _)
          have hp0 := hide hHeld.size
          rw [← hU]
          refine hK.out _ _ (hHeld.trans (bU.mono hHeld.size)) (fun hHeld => ?_)
          clear hK K hU
          try simp only [Act.put, List.getElem_toArray, List.getElem_cons_succ, List.getElem_cons_zero, List.setIfInBounds_toArray, List.set_cons_zero, List.set_cons_succ]
          replace TR := hide ((unhide TR).below bU)
          replace I14 := hide ((unhide I14).below bU)
          have hsU := bU.size
          clear bU
          have y1 := (unhide BXX).cv
          have y2 := (unhide BXX).fz
          have yl := (unhide BXX).lt
          have F7 := hide (st7 (unhide BXX) (.int .i64 E.lg) (.slice a14 E.S.length c14) (.bool E.r.kn) (.int .i64 E.r.la) (.int .i64 E.r.mi) (.int .i64 E.r.sm) (.int .i64 E.r.va))
          have hpb : V11.heap.size ≤ w14.heap.size := unhide hp0
          have K14 := hide (((unhide I14).kq (unhide F7).2 (fun q hq => by first | omega | (right; omega) | (left; omega))).rd)
          refine wpAnyH_ready (rs := [9]) (by kernel_rfl) (by simp) ?_
          refine (AllReadyH.cons rfl (fun K hK => ?_) AllReadyH.nil)
          go_simp
          refine hK.out _ _ (hHeld.trans ((unhide F7).2.below hHeld.size (fun q hq => by omega))) (fun hHeld => ?_)
          clear hK K
          try simp only [Act.put, List.getElem_toArray, List.getElem_cons_succ, List.getElem_cons_zero, List.setIfInBounds_toArray, List.set_cons_zero, List.set_cons_succ]
          refine wpAnyH_take (i := 10) (v := ?_) rfl (by kernel_rfl) (by kernel_rfl) (by kernel_rfl) (fun _ _ _ h => h) (Or.inl ⟨by rfl, ?_⟩) hHeld ?_
          rotate_left
          · intro V hSw; go_simp; rfl
          try simp only [Act.put, List.getElem_toArray, List.getElem_cons_succ, List.getElem_cons_zero, List.setIfInBounds_toArray, List.set_cons_zero, List.set_cons_succ]
          refine wpAnyH_done (by kernel_rfl) ?_ _
          refine NoPanic.normal ?_
          have HHB := hide hHeld
          clear hHeld y1 y2
          go_wp2_with fail
          go_meet
          exact ⟨_, a14, c14, rfl, rfl, (unhide F7).1, unhide K14, unhide HHB⟩
        · -- the box first
          go_simp
          obtain ⟨U10, hU⟩ : ∃ U, U = w13.alloc (.cells #[.int .i64 0, .slice none 0 0, .bool false, .int .i64 0, .int .i64 0, .int .i64 0, .int .i64 0] 50) := ⟨_, rfl⟩
          have bU : Below w13.heap.size w13 U10 := by rw [hU]; exact (Below.refl _ _).alloc (Nat.le_refl _) _
          have BXX := hide (show Bx U10 w13.heap.size [.int .i64 0, .slice none 0 0, .bool false, .int .i64 0, .int .i64 0, .int .i64 0, .int .i64 0] by rw [hU]; exact Bx.new w13 _ _)
          have hp0 := hide hHeld.size
          rw [← hU]
          refine hK.out _ _ (hHeld.trans (bU.mono hHeld.size)) (fun hHeld => ?_)
          clear hK K hU
          try simp only [Act.put, List.getElem_toArray, List.getElem_cons_succ, List.getElem_cons_zero, List.setIfInBounds_toArray, List.set_cons_zero, List.set_cons_succ]
          replace TR := hide ((unhide TR).below bU)
          have hsU := bU.size
          clear bU
          refine wpAnyH_ready (rs := [4]) (by kernel_rfl) (by simp) ?_
          refine (AllReadyH.cons rfl (fun K hK => ?_) AllReadyH.nil)
          have hlb := hHeld.size
          have hbl := (unhide BXX).lt
          go_simp
          go_at_call 31
          refine (unhide H3 _ _ _ (unhide TR) (Nat.le_refl _)).mono ?_
          rintro e w14 ⟨a14, c14, rfl, i14, b14⟩
          refine hK.out _ _ (hHeld.trans (b14.mono hHeld.size)) (fun hHeld => ?_)
          clear hK K
          try simp only [Act.put, List.getElem_toArray, List.getElem_cons_succ, List.getElem_cons_zero, List.setIfInBounds_toArray, List.set_cons_zero, List.set_cons_succ]
          replace TR := hide ((unhide TR).below b14)
          replace BXX := hide ((unhide BXX).below b14)
          have I14 := hide i14
          clear i14 b14
          refine wpAnyH_take (i := 5) (v := ?_) rfl (by kernel_rfl) (by kernel_rfl) (by kernel_rfl) (fun _ _ _ h => h) (Or.inl ⟨by rfl, ?_⟩) hHeld ?_
          rotate_left
          · intro V hSw; go_simp; rfl
          try simp only [Act.put, List.getElem_toArray, List.getElem_cons_succ, List.getElem_cons_zero, List.setIfInBounds_toArray, List.set_cons_zero, List.set_cons_succ]
          refine wpAnyH_take (i := 6) (v := ?_) rfl (by kernel_rfl) (by kernel_rfl) (by kernel_rfl) (fun _ _ _ h => h) (Or.inl ⟨by rfl, ?_⟩) hHeld ?_
          rotate_left
          · intro V hSw; go_simp; rfl
          try simp only [Act.put, List.getElem_toArray, List.getElem_cons_succ, List.getElem_cons_zero, List.setIfInBounds_toArray, List.set_cons_zero, List.set_cons_succ]
          refine wpAnyH_take (i := 7) (v := ?_) rfl (by kernel_rfl) (by kernel_rfl) (by kernel_rfl) (fun _ _ _ h => h) (Or.inl ⟨by rfl, ?_⟩) hHeld ?_
          rotate_left
          · intro V hSw; go_simp; rfl
          try simp only [Act.put, List.getElem_toArray, List.getElem_cons_succ, List.getElem_cons_zero, List.setIfInBounds_toArray, List.set_cons_zero, List.set_cons_succ]
          have y1 := (unhide BXX).cv
          have y2 := (unhide BXX).fz
          have yl := (unhide BXX).lt
          have F7 := hide (st7 (unhide BXX) (.int .i64 E.lg) (.slice a14 E.S.length c14) (.bool E.r.kn) (.int .i64 E.r.la) (.int .i64 E.r.mi) (.int .i64 E.r.sm) (.int .i64 E.r.va))
          have hpb : V11.heap.size ≤ w13.heap.size := unhide hp0
          have K14 := hide (((unhide I14).kq (unhide F7).2 (fun q hq => by first | omega | (right; omega) | (left; omega))).rd)
          refine wpAnyH_ready (rs := [9]) (by kernel_rfl) (by simp) ?_
          refine (AllReadyH.cons rfl (fun K hK => ?_) AllReadyH.nil)
          go_simp
          refine hK.out _ _ (hHeld.trans ((unhide F7).2.below hHeld.size (fun q hq => by omega))) (fun hHeld => ?_)
          clear hK K
          try simp only [Act.put, List.getElem_toArray, List.getElem_cons_succ, List.getElem_cons_zero, List.setIfInBounds_toArray, List.set_cons_zero, List.set_cons_succ]
          refine wpAnyH_take (i := 10) (v := ?_) rfl (by kernel_rfl) (by kernel_rfl) (by kernel_rfl) (fun _ _ _ h => h) (Or.inl ⟨by rfl, ?_⟩) hHeld ?_
          rotate_left
          · intro V hSw; go_simp; rfl
          try simp only [Act.put, List.getElem_toArray, List.getElem_cons_succ, List.getElem_cons_zero, List.setIfInBounds_toArray, List.set_cons_zero, List.set_cons_succ]
          refine wpAnyH_done (by kernel_rfl) ?_ _
          refine NoPanic.normal ?_
          have HHB := hide hHeld
          clear hHeld y1 y2
          go_wp2_with fail
          go_meet
          exact ⟨_, a14, c14, rfl, rfl, (unhide F7).1, unhide K14, unhide HHB⟩
      · -- the box first
        go_simp
        obtain ⟨U9, hU⟩ : ∃ U, U = w12.alloc (.cells #[.int .i64 0, .slice none 0 0, .bool false, .int .i64 0, .int .i64 0, .int .i64 0, .int .i64 0] 50) := ⟨_, rfl⟩
        have bU : Below w12.heap.size w12 U9 := by rw [hU]; exact (Below.refl _ _).alloc (Nat.le_refl _) _
        have BXX := hide (show Bx U9 w12.heap.size [.int .i64 0, .slice none 0 0, .bool false, .int .i64 0, .int .i64 0, .int .i64 0, .int .i64 0] by rw [hU]; exact Bx.new w12 _ _)
        have hp0 := hide hHeld.size
        rw [← hU]
        refine hK.out _ _ (hHeld.trans (bU.mono hHeld.size)) (fun hHeld => ?_)
        clear hK K hU
        try simp only [Act.put, List.getElem_toArray, List.getElem_cons_succ, List.getElem_cons_zero, List.setIfInBounds_toArray, List.set_cons_zero, List.set_cons_succ]
        replace TR := hide ((unhide TR).below bU)
        have hsU := bU.size
        clear bU
        refine wpAnyH_ready (rs := [3]) (by kernel_rfl) (by simp) ?_
        refine (AllReadyH.cons rfl (fun K hK => ?_) AllReadyH.nil)
        have hlb := hHeld.size
        have hbl := (unhide BXX).lt
        go_simp
        go_at_call 30
        refine (unhide HTX _).mono ?_
        rintro e w13 ⟨rfl, b13⟩
        refine hK.out _ _ (hHeld.trans (b13.mono hHeld.size)) (fun hHeld => ?_)
        clear hK K
        try simp only [Act.put, List.getElem_toArray, List.getElem_cons_succ, List.getElem_cons_zero, List.setIfInBounds_toArray, List.set_cons_zero, List.set_cons_succ]
        replace TR := hide ((unhide TR).below b13)
        replace BXX := hide ((unhide BXX).below b13)
        clear b13
        refine wpAnyH_ready (rs := [4]) (by kernel_rfl) (by simp) ?_
        refine (AllReadyH.cons rfl (fun K hK => ?_) AllReadyH.nil)
        have hlb := hHeld.size
        have hbl := (unhide BXX).lt
        go_simp
        go_at_call 31
        refine (unhide H3 _ _ _ (unhide TR) (Nat.le_refl _)).mono ?_
        rintro e w14 ⟨a14, c14, rfl, i14, b14⟩
        refine hK.out _ _ (hHeld.trans (b14.mono hHeld.size)) (fun hHeld => ?_)
        clear hK K
        try simp only [Act.put, List.getElem_toArray, List.getElem_cons_succ, List.getElem_cons_zero, List.setIfInBounds_toArray, List.set_cons_zero, List.set_cons_succ]
        replace TR := hide ((unhide TR).below b14)
        replace BXX := hide ((unhide BXX).below b14)
        have I14 := hide i14
        clear i14 b14
        refine wpAnyH_take (i := 5) (v := ?_) rfl (by kernel_rfl) (by kernel_rfl) (by kernel_rfl) (fun _ _ _ h => h) (Or.inl ⟨by rfl, ?_⟩) hHeld ?_
        rotate_left
        · intro V hSw; go_simp; rfl
        try simp only [Act.put, List.getElem_toArray, List.getElem_cons_succ, List.getElem_cons_zero, List.setIfInBounds_toArray, List.set_cons_zero, List.set_cons_succ]
        refine wpAnyH_take (i := 6) (v := ?_) rfl (by kernel_rfl) (by kernel_rfl) (by kernel_rfl) (fun _ _ _ h => h) (Or.inl ⟨by rfl, ?_⟩) hHeld ?_
        rotate_left
        · intro V hSw; go_simp; rfl
        try simp only [Act.put, List.getElem_toArray, List.getElem_cons_succ, List.getElem_cons_zero, List.setIfInBounds_toArray, List.set_cons_zero, List.set_cons_succ]
        refine wpAnyH_take (i := 7) (v := ?_) rfl (by kernel_rfl) (by kernel_rfl) (by kernel_rfl) (fun _ _ _ h => h) (Or.inl ⟨by rfl, ?_⟩) hHeld ?_
        rotate_left
        · intro V hSw; go_simp; rfl
        try simp only [Act.put, List.getElem_toArray, List.getElem_cons_succ, List.getElem_cons_zero, List.setIfInBounds_toArray, List.set_cons_zero, List.set_cons_succ]
        have y1 := (unhide BXX).cv
        have y2 := (unhide BXX).fz
        have yl := (unhide BXX).lt
        have F7 := hide (st7 (unhide BXX) (.int .i64 E.lg) (.slice a14 E.S.length c14) (.bool E.r.kn) (.int .i64 E.r.la) (.int .i64 E.r.mi) (.int .i64 E.r.sm) (.int .i64 E.r.va))
        have hpb : V11.heap.size ≤ w12.heap.size := unhide hp0
        have K14 := hide (((unhide I14).kq (unhide F7).2 (fun q hq => by first | omega | (right; omega) | (left; omega))).rd)
        refine wpAnyH_ready (rs := [9]) (by kernel_rfl) (by simp) ?_
        refine (AllReadyH.cons rfl (fun K hK => ?_) AllReadyH.nil)
        go_simp
        refine hK.out _ _ (hHeld.trans ((unhide F7).2.below hHeld.size (fun q hq => by omega))) (fun hHeld => ?_)
        clear hK K
        try simp only [Act.put, List.getElem_toArray, List.getElem_cons_succ, List.getElem_cons_zero, List.setIfInBounds_toArray, List.set_cons_zero, List.set_cons_succ]
        refine wpAnyH_take (i := 10) (v := ?_) rfl (by kernel_rfl) (by kernel_rfl) (by kernel_rfl) (fun _ _ _ h => h) (Or.inl ⟨by rfl, ?_⟩) hHeld ?_
        rotate_left
        · intro V hSw; go_simp; rfl
        try simp only [Act.put, List.getElem_toArray, List.getElem_cons_succ, List.getElem_cons_zero, List.setIfInBounds_toArray, List.set_cons_zero, List.set_cons_succ]
        refine wpAnyH_done (by kernel_rfl) ?_ _
        refine NoPanic.normal ?_
        have HHB := hide hHeld
        clear hHeld y1 y2
        go_wp2_with fail
        go_meet
        exact ⟨_, a14, c14, rfl, rfl, (unhide F7).1, unhide K14, unhide HHB⟩
    · -- the box first
      go_simp
      obtain ⟨U8, hU⟩ : ∃ U, U = U0.alloc (.cells #[.int .i64 0, .slice none 0 0, .bool false, .int .i64 0, .int .i64 0, .int .i64 0, .int .i64 0] 50) := ⟨_, rfl⟩
      have bU : Below U0.heap.size U0 U8 := by rw [hU]; exact (Below.refl _ _).alloc (Nat.le_refl _) _
      have BXX := hide (show Bx U8 U0.heap.size [.int .i64 0, .slice none 0 0, .bool false, .int .i64 0, .int .i64 0, .int .i64 0, .int .i64 0] by rw [hU]; exact Bx.new U0 _ _)
      have hp0 := hide hHeld.size
      rw [← hU]
      refine hK.out _ _ (hHeld.trans (bU.mono hHeld.size)) (fun hHeld => ?_)
      clear hK K hU
      try simp only [Act.put, List.getElem_toArray, List.getElem_cons_succ, List.getElem_cons_zero, List.setIfInBounds_toArray, List.set_cons_zero, List.set_cons_succ]
      have hsU := bU.size
      clear bU
      refine wpAnyH_ready (rs := [1]) (by kernel_rfl) (by simp) ?_
      refine (AllReadyH.cons rfl (fun K hK => ?_) AllReadyH.nil)
      have hlb := hHeld.size
      have hbl := (unhide BXX).lt
      go_simp
      go_at_call 26
      refine (unhide H1 _ ((unhide B0).trans (hHeld.mono (unhide B0).size))).mono ?_
      rintro e w12 ⟨g12, rfl, i9, b12⟩
      refine hK.out _ _ (hHeld.trans (b12.mono hHeld.size)) (fun hHeld => ?_)
      clear hK K
      try simp only [Act.put, List.getElem_toArray, List.getElem_cons_succ, List.getElem_cons_zero, List.setIfInBounds_toArray, List.set_cons_zero, List.set_cons_succ]
      replace BXX := hide ((unhide BXX).below b12)
      have TR := hide (Ri.rd i9)
      clear i9 b12
      refine wpAnyH_ready (rs := [3]) (by kernel_rfl) (by simp) ?_
      refine (AllReadyH.cons rfl (fun K hK => ?_) AllReadyH.nil)
      have hlb := hHeld.size
      have hbl := (unhide BXX).lt
      go_simp
      go_at_call 30
      refine (unhide HTX _).mono ?_
      rintro e w13 ⟨rfl, b13⟩
      refine hK.out _ _ (hHeld.trans (b13.mono hHeld.size)) (fun hHeld => ?_)
      clear hK K
      try simp only [Act.put, List.getElem_toArray, List.getElem_cons_succ, List.getElem_cons_zero, List.setIfInBounds_toArray, List.set_cons_zero, List.set_cons_succ]
      replace TR := hide ((unhide TR).below b13)
      replace BXX := hide ((unhide BXX).below b13)
      clear b13
      refine wpAnyH_ready (rs := [4]) (by kernel_rfl) (by simp) ?_
      refine (AllReadyH.cons rfl (fun K hK => ?_) AllReadyH.nil)
      have hlb := hHeld.size
      have hbl := (unhide BXX).lt
      go_simp
      go_at_call 31
      refine (unhide H3 _ _ _ (unhide TR) (Nat.le_refl _)).mono ?_
      rintro e w14 ⟨a14, c14, rfl, i14, b14⟩
      refine hK.out _ _ (hHeld.trans (b14.mono hHeld.size)) (fun hHeld => ?_)
      clear hK K
      try simp only [Act.put, List.getElem_toArray, List.getElem_cons_succ, List.getElem_cons_zero, List.setIfInBounds_toArray, List.set_cons_zero, List.set_cons_succ]
      replace TR := hide ((unhide TR).below b14)
      replace BXX := hide ((unhide BXX).below b14)
      have I14 := hide i14
      clear i14 b14
      refine wpAnyH_take (i := 5) (v := ?_) rfl (by kernel_rfl) (by kernel_rfl) (by kernel_rfl) (fun _ _ _ h => h) (Or.inl ⟨by rfl, ?_⟩) hHeld ?_
      rotate_left
      · intro V hSw; go_simp; rfl
      try simp only [Act.put, List.getElem_toArray, List.getElem_cons_succ, List.getElem_cons_zero, List.setIfInBounds_toArray, List.set_cons_zero, List.set_cons_succ]
      refine wpAnyH_take (i := 6) (v := ?_) rfl (by kernel_rfl) (by kernel_rfl) (by kernel_rfl) (fun _ _ _ h => h) (Or.inl ⟨by rfl, ?_⟩) hHeld ?_
      rotate_left
      · intro V hSw; go_simp; rfl
      try simp only [Act.put, List.getElem_toArray, List.getElem_cons_succ, List.getElem_cons_zero, List.setIfInBounds_toArray, List.set_cons_zero, List.set_cons_succ]
      refine wpAnyH_take (i := 7) (v := ?_) rfl (by kernel_rfl) (by kernel_rfl) (by kernel_rfl) (fun _ _ _ h => h) (Or.inl ⟨by rfl, ?_⟩) hHeld ?_
      rotate_left
      · intro V hSw; go_simp; rfl
      try simp only [Act.put, List.getElem_toArray, List.getElem_cons_succ, List.getElem_cons_zero, List.setIfInBounds_toArray, List.set_cons_zero, List.set_cons_succ]
      have y1 := (unhide BXX).cv
      have y2 := (unhide BXX).fz
      have yl := (unhide BXX).lt
      have F7 := hide (st7 (unhide BXX) (.int .i64 E.lg) (.slice a14 E.S.length c14) (.bool E.r.kn) (.int .i64 E.r.la) (.int .i64 E.r.mi) (.int .i64 E.r.sm) (.int .i64 E.r.va))
      have hpb : V11.heap.size ≤ U0.heap.size := unhide hp0
      have K14 := hide (((unhide I14).kq (unhide F7).2 (fun q hq => by first | omega | (right; omega) | (left; omega))).rd)
      refine wpAnyH_ready (rs := [9]) (by kernel_rfl) (by simp) ?_
      refine (AllReadyH.cons rfl (fun K hK => ?_) AllReadyH.nil)
      go_simp
      refine hK.out _ _ (hHeld.trans ((unhide F7).2.below hHeld.size (fun q hq => by omega))) (fun hHeld => ?_)
      clear hK K
      try simp only [Act.put, List.getElem_toArray, List.getElem_cons_succ, List.getElem_cons_zero, List.setIfInBounds_toArray, List.set_cons_zero, List.set_cons_succ]
      refine wpAnyH_take (i := 10) (v := ?_) rfl (by kernel_rfl) (by kernel_rfl) (by kernel_rfl) (fun _ _ _ h => h) (Or.inl ⟨by rfl, ?_⟩) hHeld ?_
      rotate_left
      · intro V hSw; go_simp; rfl
      try simp only [Act.put, List.getElem_toArray, List.getElem_cons_succ, List.getElem_cons_zero, List.setIfInBounds_toArray, List.set_cons_zero, List.set_cons_succ]
      refine wpAnyH_done (by kernel_rfl) ?_ _
      refine NoPanic.normal ?_
      have HHB := hide hHeld
      clear hHeld y1 y2
      go_wp2_with fail
      go_meet
      exact ⟨_, a14, c14, rfl, rfl, (unhide F7).1, unhide K14, unhide HHB⟩
  case rest =>
  obtain ⟨p14, a14, c14, rfl, rfl, P14, HR, bc⟩ := hcut
  obtain ⟨V12, hV⟩ : ∃ V, V = wc := ⟨_, rfl⟩
  rw [← hV] at P14 HR bc ⊢
  clear hV
  replace P6 := hide ((unhide P6).below (unhide bc))
  replace P9 := hide ((unhide P9).below (unhide bc))
  replace GM := hide ((unhide GM).below (unhide bc))
  replace B0 := hide ((unhide B0).trans ((unhide bc).mono (unhide B0).size))
  replace B3 := hide ((unhide B3).trans ((unhide bc).mono (unhide B3).size))
  have y14 := (unhide P14).cv
  have y6 := (unhide P6).cv
  clear bc
  go_wp2_with fail
  refine (unhide H5 _ _ _ _ _ (unhide HR) ((unhide WR).below (unhide B3))).mono ?_
  rintro e V13 ⟨rfl, b13⟩
  replace P9 := hide ((unhide P9).below b13)
  replace GM := hide ((unhide GM).below b13)
  replace B0 := hide ((unhide B0).trans (b13.mono (unhide B0).size))
  have y9 := (unhide P9).cv
  clear b13 y14 y6
  go_wp2_with fail
  refine (unhide HH _ (unhide GM)).mono ?_
  rintro e V14 ⟨rfl, b14⟩
  replace B0 := hide ((unhide B0).trans (b14.mono (unhide B0).size))
  clear b14 y9
  go_wp2
  go_ret
  exact ⟨rfl, unhide B0⟩
end Go.Proofs.Ytjmknfedanmcnaa.Rc
