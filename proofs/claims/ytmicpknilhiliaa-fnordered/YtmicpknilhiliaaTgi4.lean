/-
  Contracts of the program: an inflow of the call's own; a piece that is taken.
-/
import Derived.Test.YtmicpknilhiliaaTgh4
import Derived.Test.YtmicpknilhiliaaGof
import Derived.Test.YtmicpknilhiliaaSty
import Derived.Test.YtmicpknilhiliaaShelf
import Derived.Deep.DeepCutAuto
import Derived.Deep.CutBlock
namespace Go.Proofs.Ytmicpknilhiliaa.Rc
open Go.ChangeShapes Go.WideShapes Go.ChangeAt Go.RowKit Go.Deep
set_option linter.unusedVariables false
set_option maxRecDepth 100000

theorem cln5 (s : ByteArray) (hs : s.size ≤ 1048576) (w : World) : Calls Try.prog 41 #[.string s] w fun e w' => e = .returned (.string s) ∧ Below w.heap.size w w' := by
  have H := hide (fun W => Try.stringslite_Clone s W (by omega))
  go_enter Try.func41, Try.ntmps41
  go_wp2_with fail
  refine (unhide H _).mono ?_
  rintro e w1 ⟨rfl, b1⟩
  go_wp2
  go_ret
  exact ⟨rfl, b1⟩
set_option maxHeartbeats 8000000 in
theorem implOI (D : InflowD) (a : Option Addr) (c : Nat) (W : World) (hn : D.P.length ≤ 1000) (hz : ∀ p ∈ D.P, p.f1.size ≤ 1048576) (h : Rd pieceK W a D.P) :
    Calls Try.prog 38 #[inflowV D a c] W fun e w' => ∃ (a' : Option Addr) (c' : Nat), e = .returned (inflowV D a' c') ∧ Ro pieceK 53 W.heap.size w' (.slice a' D.P.length c') D.P ∧ Below W.heap.size W w' := by
  obtain ⟨V0, hV0⟩ : ∃ V, V = (W.alloc (.cells (inflowC D a c).toArray 39)).alloc (.cells inflowZ.toArray 39) := ⟨_, rfl⟩
  have A0 := hide (show Bx V0 W.heap.size (inflowC D a c) by rw [hV0]; exact (Bx.new W _ _).alloc _)
  have C0 := hide (show Bx V0 (W.heap.size + 1) inflowZ by rw [hV0]; exact Bx.newAt (W.alloc _) _ _ _ (by simp))
  have B0 := hide (show Below W.heap.size W V0 by rw [hV0]; exact ((Below.refl W.heap.size W).alloc (Nat.le_refl _) _).alloc (by simp) _)
  have HR := hide (fun V (b : Below W.heap.size W V) => h.below b)
  have HV0 := hide hV0
  have HZ := hide hz
  have O0 : Hid (Ro pieceK 53 (W.heap.size + 2) V0 (.slice none 0 0) (D.P.take 0)) := Ro.nil _ _ _ _
  have x0 := (unhide A0).cv
  have x0l := (unhide A0).lt
  clear hV0 h hz
  obtain ⟨li, re, fi, P⟩ := D
  dsimp only at *
  go_enter Try.func38, Try.ntmps38
  go_upto_region 1 with fail
  rw [← unhide HV0]
  clear HV0
  go_wp2_with fail
  go_loopw [3, 5, 9] (fun v3 _ iv wr => ∃ k : Nat, k ≤ P.length ∧ iv = .int .i64 k ∧ Hid (Ro pieceK 53 (W.heap.size + 2) wr v3 (P.take k)) ∧ Hid (Bx wr W.heap.size (inflowC ⟨li, re, fi, P⟩ a c)) ∧ Hid (Bx wr (W.heap.size + 1) inflowZ) ∧ Hid (Below W.heap.size W wr)) (fun _ _ iv _ => P.length - (intOf iv).toNat)
  case atStart => exact ⟨0, Nat.zero_le _, rfl, O0, A0, C0, B0⟩
  case round =>
    obtain ⟨k, hk, rfl, hO, hX, hC, hB⟩ := hrel
    clear O0 A0 C0 B0 x0 x0l
    by_cases hlt : k < P.length
    · rcases unhide HR wr (unhide hB) with h9 | ⟨b, oo, rfl, hbl, hel⟩
      · rw [h9] at hlt; exact absurd hlt (Nat.not_lt_zero _)
      have c0 := piece_r0 hel hlt
      have c1 := piece_r1 hel hlt
      have hs := unhide HZ _ (gt_mem pieceK P k hlt)
      have htk := hide (takeP hlt)
      generalize gt pieceK P k = q at *
      have HCL := hide (cln5 q.f1 hs)
      have hnk : (k : Int) < (P.length : Int) := by omega
      have hk0' : (0 : Int) ≤ (k : Int) := by omega
      obtain ⟨W1, hW1⟩ : ∃ V, V = wr.alloc (.cells #[.int .i64 q.f0, .string q.f1] 53) := ⟨_, rfl⟩
      have al1 : Below wr.heap.size wr W1 := by rw [hW1]; exact (Below.refl _ _).alloc (Nat.le_refl _) _
      have Y1 := hide (show Bx W1 wr.heap.size (pieceC q) by rw [hW1]; exact Bx.new wr _ _)
      have O1 := hide ((unhide hO).below al1)
      have X1 := hide ((unhide hX).below al1)
      have C1 := hide ((unhide hC).below al1)
      have B1 := hide ((unhide hB).trans (al1.mono (unhide hB).size))
      have HW1 := hide hW1
      have HLO := hide (World.ownsRow.lt (w := wr) (unhide hO))
      clear hel al1 hO hX hC hB hW1
      go_upto_region 5 with fail
      rw [← unhide HW1]
      clear HW1 c0 c1
      refine wp_region_noPanic ?_
      refine wp_region_held_drew (S := fun V => Bx V wr.heap.size (pieceC q)) (by kernel_rfl) ((unhide Y1).drew) (fun hHeld => ?_)
      refine wpAnyH_take (i := 0) (v := ?_) rfl (by kernel_rfl) (by kernel_rfl) (by kernel_rfl) (fun _ _ _ h => h) (Or.inl ⟨by rfl, ?_⟩) hHeld ?_
      rotate_left
      · intro V hSw; have y1 := hSw.cv; have y2 := hSw.lt; go_simp; rfl
      try simp only [Act.put, List.getElem_toArray, List.getElem_cons_zero, List.setIfInBounds_toArray, List.set_cons_zero, List.set_cons_succ]
      refine wpAnyH_take (i := 1) (v := ?_) rfl (by kernel_rfl) (by kernel_rfl) (by kernel_rfl) (fun _ _ _ h => h) (Or.inl ⟨by rfl, ?_⟩) hHeld ?_
      rotate_left
      · intro V hSw; have y1 := hSw.cv; have y2 := hSw.lt; go_simp; rfl
      try simp only [Act.put, List.getElem_toArray, List.getElem_cons_succ, List.getElem_cons_zero, List.setIfInBounds_toArray, List.set_cons_zero, List.set_cons_succ]
      refine wpAnyH_take (i := 2) (v := ?_) rfl (by kernel_rfl) (by kernel_rfl) (by kernel_rfl) (fun _ _ _ h => h) (Or.inl ⟨by rfl, ?_⟩) hHeld ?_
      rotate_left
      · intro V hSw; have y1 := hSw.cv; have y2 := hSw.lt; go_simp; rfl
      try simp only [Act.put, List.getElem_toArray, List.getElem_cons_succ, List.getElem_cons_zero, List.setIfInBounds_toArray, List.set_cons_zero, List.set_cons_succ]
      refine wpAnyH_take (i := 3) (v := ?_) rfl (by kernel_rfl) (by kernel_rfl) (by kernel_rfl) (fun _ _ _ h => h) (Or.inl ⟨by rfl, ?_⟩) hHeld ?_
      rotate_left
      · intro V hSw; have y1 := hSw.cv; have y2 := hSw.lt; go_simp; rfl
      try simp only [Act.put, List.getElem_toArray, List.getElem_cons_succ, List.getElem_cons_zero, List.setIfInBounds_toArray, List.set_cons_zero, List.set_cons_succ]
      refine wpAnyH_take (i := 4) (v := ?_) rfl (by kernel_rfl) (by kernel_rfl) (by kernel_rfl) (fun _ _ _ h => h) (Or.inl ⟨by rfl, ?_⟩) hHeld ?_
      rotate_left
      · intro V hSw; have y1 := hSw.cv; have y2 := hSw.lt; go_simp; rfl
      try simp only [Act.put, List.getElem_toArray, List.getElem_cons_succ, List.getElem_cons_zero, List.setIfInBounds_toArray, List.set_cons_zero, List.set_cons_succ]
      obtain ⟨U0, hU0⟩ : ∃ U, U = W1.drew := ⟨_, rfl⟩
      have bd : Below W1.heap.size W1 U0 := by rw [hU0]; exact (Below.refl _ _).drew
      replace O1 := hide ((unhide O1).below bd)
      replace X1 := hide ((unhide X1).below bd)
      replace C1 := hide ((unhide C1).below bd)
      replace B1 := hide ((unhide B1).trans (bd.mono (unhide B1).size))
      rw [← hU0] at hHeld ⊢
      clear hU0 bd Y1
      refine wpAnyH_ready (rs := [5]) (by kernel_rfl) (by simp) ?_
      refine (AllReadyH.cons rfl (fun K hK => ?_) AllReadyH.nil)
      go_simp
      go_at_call 41
      refine (unhide HCL _).mono ?_
      rintro e w4 ⟨rfl, b4⟩
      refine hK.out _ _ (hHeld.below b4) (fun hHeld => ?_)
      clear hK K
      try simp only [Act.put, List.getElem_toArray, List.getElem_cons_succ, List.getElem_cons_zero, List.setIfInBounds_toArray, List.set_cons_zero, List.set_cons_succ]
      have O4 := (unhide O1).below b4
      have X4 := hide ((unhide X1).below b4)
      have C4 := hide ((unhide C1).below b4)
      have B4 := hide ((unhide B1).trans (b4.mono (unhide B1).size))
      clear b4 O1 X1 C1 B1
      refine wpAnyH_take (i := 6) (v := ?_) rfl (by kernel_rfl) (by kernel_rfl) (by kernel_rfl) (fun _ _ _ h => h) (Or.inl ⟨by rfl, ?_⟩) hHeld ?_
      rotate_left
      · intro V hSw; go_simp; rfl
      try simp only [Act.put, List.getElem_toArray, List.getElem_cons_succ, List.getElem_cons_zero, List.setIfInBounds_toArray, List.set_cons_zero, List.set_cons_succ]
      have sB := (unhide C4).lt
      obtain ⟨v6, w6, run6, o6, b6, h6⟩ := pushPiece w4 (W.heap.size + 2) u3 (P.take k) q O4 (by rw [List.length_take]; omega) (by omega)
      have hlow := World.ownsRow.lt (w := w4) O4
      rw [← unhide htk] at o6
      have GO := hide o6
      have GX := hide ((unhide X4).kept b6.size (h6 _ (by omega) (fun g e => by have := (hlow g e).1; omega)))
      have GC := hide ((unhide C4).kept b6.size (h6 _ (by omega) (fun g e => by have := (hlow g e).1; omega)))
      have GB := hide ((unhide B4).trans (b6.mono (by omega)))
      have RUN6 := hide run6
      have GY := hide (hHeld.kept b6.size (h6 _ hHeld.lt (fun g e => by have := (unhide HLO g e).2; omega)))
      clear run6 o6 b6 h6 hlow O4 X4 C4 B4
      refine wpAnyH_ready (rs := [7]) (by kernel_rfl) (by simp) ?_
      refine (AllReadyH.cons rfl (fun K hK => ?_) AllReadyH.nil)
      go_simp
      refine hK.out _ _ (hHeld.alloc _) (fun hHeld => ?_)
      clear hK K
      try simp only [Act.put, List.getElem_toArray, List.getElem_cons_succ, List.getElem_cons_zero, List.setIfInBounds_toArray, List.set_cons_zero, List.set_cons_succ]
      refine wpAnyH_ready (rs := [8]) (by kernel_rfl) (by simp) ?_
      refine (AllReadyH.cons rfl (fun K hK => ?_) AllReadyH.nil)
      refine stp_app rfl _ _ 37 rfl _ _ _ _ (by simp [Act.eval]) (by simp [Act.eval]) (unhide RUN6) ?_
      refine hK.out _ _ (unhide GY) (fun hHeld => ?_)
      clear hK K
      try simp only [Act.put, List.getElem_toArray, List.getElem_cons_succ, List.getElem_cons_zero, List.setIfInBounds_toArray, List.set_cons_zero, List.set_cons_succ]
      refine wpAnyH_take (i := 9) (v := ?_) rfl (by kernel_rfl) (by kernel_rfl) (by kernel_rfl) (fun _ _ _ h => h) (Or.inl ⟨by rfl, ?_⟩) hHeld ?_
      rotate_left
      · intro V hSw; go_simp; rfl
      try simp only [Act.put, List.getElem_toArray, List.getElem_cons_succ, List.getElem_cons_zero, List.setIfInBounds_toArray, List.set_cons_zero, List.set_cons_succ]
      refine wpAnyH_done (by kernel_rfl) ?_ _
      refine NoPanic.normal ?_
      clear hHeld GY HLO htk HCL
      go_wp2
      exact ⟨⟨k + 1, by omega, by go_num, GO, GX, GC, GB⟩, by simp [intOf]; omega⟩
    · obtain rfl : k = P.length := by omega
      rw [List.take_length] at hO
      obtain ⟨a3, c3, e3⟩ := (unhide hO).opens
      rw [e3] at hO ⊢
      clear e3
      obtain ⟨V5, hV5⟩ : ∃ V, V = wr.setCell ⟨W.heap.size, 3, none⟩ (.slice a3 P.length c3) := ⟨_, rfl⟩
      have x5 := hide (show Bx V5 W.heap.size (inflowC ⟨li, re, fi, P⟩ a3 c3) by rw [hV5]; exact (unhide hX).set (i := 3) (by simp))
      have c5 := hide (show Bx V5 (W.heap.size + 1) inflowZ by rw [hV5]; exact (unhide hC).other (by omega))
      have k5 : Kq (fun q => q = W.heap.size) wr V5 := by rw [hV5]; exact (Kq.refl _ _).set rfl
      have O5 := hide ((unhide hO).kq k5 (fun q hq => by omega))
      have B5 := hide (show Below W.heap.size W V5 by rw [hV5]; exact (unhide hB).setCell (Nat.le_refl _) _)
      have HV5 := hide hV5
      have z1 := (unhide hX).cv
      have z1f := (unhide hX).fz
      have z1l := (unhide hX).lt
      clear hV5 k5 hO hX hC hB
      go_upto_region 8 with fail
      rw [← unhide HV5]
      clear HV5 z1 z1f z1l
      have y1 := (unhide x5).cv
      have y1l := (unhide x5).lt
      have y2 := (unhide c5).cv
      have y2f := (unhide c5).fz
      have y2l := (unhide c5).lt
      have F4 := hide (st4q (unhide c5) (.int .i64 li) (.int .i64 re) (.int .i64 fi) (.slice a3 P.length c3))
      have O6 := hide ((unhide O5).kq (unhide F4).2 (fun q hq => by omega))
      have B6 := hide ((unhide B5).trans ((unhide F4).2.below (base := W.heap.size) (by have := (unhide c5).lt; omega) (fun q hq => by omega)))
      have c1 := (unhide F4).1.cv
      go_wp2
      refine bodyPost_ret (v := inflowV ⟨li, re, fi, P⟩ a3 c3) (by simp [results, Try.results38, go_sem, c1]) rfl ⟨a3, c3, rfl, (unhide O6).mono (by omega), unhide B6⟩
end Go.Proofs.Ytmicpknilhiliaa.Rc
