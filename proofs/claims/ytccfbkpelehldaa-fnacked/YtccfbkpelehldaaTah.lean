/-
  Contracts of the program: how long is waited, whether a packet is lost, when the last one was sent, the numbers of packets.
-/
import Derived.Test.YtccfbkpelehldaaTas
import Derived.Test.YtccfbkpelehldaaSampleRttI
import Derived.Deep.RegionHeld3
namespace Go.Proofs.Ytccfbkpelehldaa.Rc
open Go.ChangeShapes Go.WideShapes Go.ChangeAt Go.RowKit Go.Deep
set_option linter.unusedVariables false
set_option maxRecDepth 100000

set_option maxHeartbeats 2000000 in
theorem implWo (r : RttD) (w : World) (h : rtB r = true) : Calls Try.prog 45 #[rttV r] w fun e w' => e = .returned (.int .i64 (wtI r)) ∧ Below w.heap.size w w' := by
  obtain ⟨s0, s1, l0, l1⟩ := rt_in h
  have B0 := hide ((Below.refl w.heap.size w).alloc (Nat.le_refl _) (.cells (rttC r).toArray 25))
  have HE : Hid (∀ m : Int, m = mxI r.sm r.la → wtI r = mxI (m * 9 / 8) 1) := fun m h => by rw [h]; rfl
  obtain ⟨kn, la, mi, sm, va⟩ := r
  dsimp only at s0 s1 l0 l1 HE
  clear h
  by_cases h1 : sm < la
  · have HE2 := hide (unhide HE la (by unfold mxI; rw [if_pos h1]))
    have d1 : Int.tdiv (la * 9) 8 = la * 9 / 8 := Int.tdiv_eq_ediv_of_nonneg (by omega)
    clear HE
    by_cases h2 : la * 9 / 8 < 1
    · exfalso; omega
    · have e9 : mxI (la * 9 / 8) 1 = la * 9 / 8 := by unfold mxI; rw [if_neg h2]
      rw [e9] at HE2
      clear e9
      go_enter Try.func45, Try.ntmps45
      go_wp2
      go_ret
      exact ⟨by rw [unhide HE2]; rfl, unhide B0⟩
  · have HE2 := hide (unhide HE sm (by unfold mxI; rw [if_neg h1]))
    have d1 : Int.tdiv (sm * 9) 8 = sm * 9 / 8 := Int.tdiv_eq_ediv_of_nonneg (by omega)
    clear HE
    by_cases h2 : sm * 9 / 8 < 1
    · have e9 : mxI (sm * 9 / 8) 1 = 1 := by unfold mxI; rw [if_pos h2]
      rw [e9] at HE2
      clear e9
      go_enter Try.func45, Try.ntmps45
      go_wp2
      go_ret
      exact ⟨by rw [unhide HE2]; rfl, unhide B0⟩
    · have e9 : mxI (sm * 9 / 8) 1 = sm * 9 / 8 := by unfold mxI; rw [if_neg h2]
      rw [e9] at HE2
      clear e9
      go_enter Try.func45, Try.ntmps45
      go_wp2
      go_ret
      exact ⟨by rw [unhide HE2]; rfl, unhide B0⟩
theorem wt_in {r : RttD} (h : rtB r = true) : 1 ≤ wtI r ∧ wtI r ≤ 2000000000 := by
  obtain ⟨s0, s1, l0, l1⟩ := rt_in h
  unfold wtI mxI
  split <;> split <;> omega
/-- when the last one was sent -/
theorem implLt (a : Option Addr) (c : Nat) (S : List SentD) (w : World) (hn : S.length ≤ 1048576) (h : Rd sentK w a S) :
    Calls Try.prog 15 #[.slice a S.length c] w fun e w' => e = .returned (.int .i64 (laS S).f1) ∧ w' = w := by
  by_cases h0 : S.length = 0
  · have t0 : ((S.length : Int) == 0) = true := beq_iff_eq.2 (by omega)
    have HE : Hid ((laS S).f1 = 0) := by show _ = _; unfold laS; rw [if_pos h0]
    clear h h0
    go_enter Try.func15, Try.ntmps15
    go_wp2
    go_ret
    exact ⟨by rw [unhide HE]; rfl, rfl⟩
  · have t0 : ((S.length : Int) == 0) = false := beq_eq_false_iff_ne.2 (by omega)
    have HE : Hid ((laS S).f1 = (gt sentK S (S.length - 1)).f1) := by show _ = _; unfold laS; rw [if_neg h0]
    obtain ⟨m, hm⟩ : ∃ m : Nat, m = S.length - 1 := ⟨_, rfl⟩
    have hml : m < S.length := by omega
    rcases h with h9 | ⟨b, o, rfl, hb, hel⟩
    · rw [h9] at h0; exact absurd rfl h0
    have c1 := sent_r1 hel hml
    have hnm : IntKind.i64.wrap ((S.length : Int) - 1) = (m : Int) := by rw [wraps_i64 _ (by omega) (by omega)]; omega
    have hm0 : (0 : Int) ≤ (m : Int) := by omega
    have hm1 : (m : Int) < (S.length : Int) := by omega
    rw [← hm] at HE
    clear hel h0 hm
    go_enter Try.func15, Try.ntmps15
    go_wp2
    go_ret
    exact ⟨by rw [unhide HE]; rfl, rfl⟩
/-- the numbers of packets -/
theorem gt_map {S : List SentD} {k : Nat} (h : k < S.length) : (S.take (k + 1)).map (fun x => x.f0) = (S.take k).map (fun x => x.f0) ++ [(gt sentK S k).f0] := by rw [take_gt h, List.map_append]; rfl
set_option maxHeartbeats 2000000 in
theorem implNs (a : Option Addr) (c : Nat) (S : List SentD) (w : World) (hn : S.length ≤ 1000) (h : Rd sentK w a S) :
    Calls Try.prog 23 #[.slice a S.length c] w fun e w' => ∃ v, e = .returned v ∧ Ro intK 3 w.heap.size w' v (S.map fun x => x.f0) ∧ Below w.heap.size w w' := by
  have HR := hide h
  have O0 := hide (Ro.nil intK 3 w.heap.size w)
  clear h
  go_enter Try.func23, Try.ntmps23
  go_wp2
  go_loopw [3, 8] (fun v3 iv wr => ∃ k : Nat, k ≤ S.length ∧ iv = .int .i64 k ∧ Hid (Ro intK 3 w.heap.size wr v3 ((S.take k).map fun x => x.f0)) ∧ Hid (Below w.heap.size w wr)) (fun _ iv _ => S.length - (intOf iv).toNat)
  case atStart => exact ⟨0, Nat.zero_le _, rfl, O0, Below.refl _ _⟩
  case round =>
    obtain ⟨k, hk, rfl, h3, hB⟩ := hrel
    clear O0
    by_cases hlt : k < S.length
    · rcases (unhide HR).below (unhide hB) with h9 | ⟨b, o, rfl, _, hel⟩
      · rw [h9] at hlt; exact absurd hlt (Nat.not_lt_zero _)
      have c0 := sent_r0 hel hlt
      have c1 := sent_r1 hel hlt
      have c2 := sent_r2 hel hlt
      have PA := gt_map hlt
      have nA : ((S.take k).map fun x : SentD => x.f0).length ≤ 1000 := by rw [List.length_map]; have := List.length_take_le k S; omega
      generalize (S.take k).map (fun x => x.f0) = Ak at *
      generalize gt sentK S k = x at *
      obtain ⟨x0, x1, x2⟩ := x
      dsimp only at PA
      obtain ⟨W1, hW1⟩ : ∃ V, V = wr.alloc (.cells #[.int .i64 x0, .int .i64 x1, .int .i64 x2] 37) := ⟨_, rfl⟩
      have hAl : Below wr.heap.size wr W1 := by rw [hW1]; exact (Below.refl _ _).alloc (Nat.le_refl _) _
      have Y1 := (show Bx W1 wr.heap.size (sentC ⟨x0, x1, x2⟩) by rw [hW1]; exact Bx.new wr _ _)
      have B1 := (unhide hB).trans (hAl.mono (unhide hB).size)
      have s1 := hAl.size
      have sB := (unhide hB).size
      have q1 := fun q hq => (unhide h3).ob q hq
      obtain ⟨a3, c3, rfl⟩ := (unhide h3).opens
      obtain ⟨v3, w3, run, o3, hob, kq⟩ := pushInt W1 w.heap.size _ Ak x0 ((unhide h3).below hAl) (by omega) (by omega)
      have RUN := hide run
      have G3 : Hid (Ro intK 3 w.heap.size w3 v3 ((S.take (k + 1)).map fun x => x.f0)) := by
        show Ro _ _ _ _ _ _
        rw [PA]
        exact o3
      have GB : Hid (Below w.heap.size w w3) := B1.trans (kq.below (base := w.heap.size) (by omega) (fun q hq => (q1 q hq).1))
      have y1 := Y1.cv
      have y1l := Y1.lt
      have HW1 := hide hW1
      have hnk : (k : Int) < (S.length : Int) := by omega
      have hk0 : (0 : Int) ≤ (k : Int) := by omega
      clear hAl hW1 hB hel h3 run o3 hob kq PA q1 B1 Y1
      go_upto_region 5 with fail
      rw [← unhide HW1]
      clear HW1
      go_wp2_with (at_builtin; refine wpl_app rfl _ _ 31 rfl _ _ _ _ rfl rfl (unhide RUN) ?_)
      exact ⟨⟨k + 1, by omega, by go_num, G3, GB⟩, by simp [intOf]; omega⟩
    · obtain rfl : k = S.length := by omega
      rw [List.take_length] at h3
      have F := hide (And.intro (unhide h3) (unhide hB))
      clear h3 hB
      go_wp2
      go_ret
      exact ⟨_, rfl, (unhide F).1, (unhide F).2⟩
set_option maxHeartbeats 4000000 in
theorem implLo (D : SpaceD) (a : Option Addr) (c : Nat) (x : SentD) (now : Int) (W : World) (hr : rtB D.r = true) (g0 : -1 ≤ D.lg) (g1 : D.lg ≤ 9223372036854775807) (n0 : 0 ≤ now) (n1 : now ≤ 1000000000) :
    Calls Try.prog 22 #[spaceV D a c, sentV x, .int .i64 now] W fun e w' => e = .returned (.bool (loB D.lg now D.r x)) ∧ Below W.heap.size W w' := by
  obtain ⟨V0, hV0⟩ : ∃ V, V = (W.alloc (.cells (spaceC D a c).toArray 27)).alloc (.cells (sentC x).toArray 37) := ⟨_, rfl⟩
  have A0 := hide (show Bx V0 W.heap.size (spaceC D a c) by rw [hV0]; exact (Bx.new W _ _).alloc _)
  have X0 := hide (show Bx V0 (W.heap.size + 1) (sentC x) by rw [hV0]; exact Bx.newAt (W.alloc _) _ _ _ (by simp))
  have B0 := hide (show Below W.heap.size W V0 by rw [hV0]; exact ((Below.refl W.heap.size W).alloc (Nat.le_refl _) _).alloc (by simp) _)
  have HW := hide (fun V => implWo D.r V hr)
  obtain ⟨v0, v1⟩ := wt_in hr
  have HL : Hid (loB D.lg now D.r x = (decide (x.f0 < D.lg) && (decide (x.f0 ≤ D.lg - 3) || (D.r.kn && decide (x.f1 ≤ now - wtI D.r))))) := rfl
  generalize wtI D.r = wv at *
  obtain ⟨lg, S, r⟩ := D
  obtain ⟨kn, la, mi, sm, va⟩ := r
  obtain ⟨x0, x1, x2⟩ := x
  dsimp only at HL g0 g1
  have HV0 := hide hV0
  have a0 := (unhide A0).cv
  have x0c := (unhide X0).cv
  have x0l := (unhide X0).lt
  clear hr hV0
  go_enter Try.func22, Try.ntmps22
  go_upto_region 1 with fail
  rw [← unhide HV0]
  clear HV0
  cases t1 : decide (x0 < lg) with
  | false =>
    have HE : Hid (loB lg now ⟨kn, la, mi, sm, va⟩ ⟨x0, x1, x2⟩ = false) := by show _ = _; rw [unhide HL, t1]; rfl
    have t2 : decide (lg ≤ x0) = true := decide_eq_true (by have := of_decide_eq_false t1; omega)
    clear HL HW
    go_wp2
    go_ret
    exact ⟨by rw [unhide HE]; rfl, unhide B0⟩
  | true =>
    have t1' : decide (lg ≤ x0) = false := decide_eq_false (by have := of_decide_eq_true t1; omega)
    cases t2 : decide (x0 ≤ lg - 3) with
    | true =>
      have HE : Hid (loB lg now ⟨kn, la, mi, sm, va⟩ ⟨x0, x1, x2⟩ = true) := by show _ = _; rw [unhide HL, t1, t2]; rfl
      clear HL HW
      go_wp2
      go_ret
      exact ⟨by rw [unhide HE]; rfl, unhide B0⟩
    | false =>
      have HE : Hid (loB lg now ⟨kn, la, mi, sm, va⟩ ⟨x0, x1, x2⟩ = (kn && decide (x1 ≤ now - wv))) := by show _ = _; rw [unhide HL, t1, t2]; rfl
      clear HL
      go_upto_region 5 with fail
      cases kn with
      | false =>
        have HE2 : Hid (loB lg now ⟨false, la, mi, sm, va⟩ ⟨x0, x1, x2⟩ = false) := by show _ = _; rw [unhide HE]; rfl
        clear HW HE
        refine wp_region_noPanic ?_
        refine wp_region_held_drew (S := fun V => Bx V W.heap.size (spaceC ⟨lg, S, ⟨false, la, mi, sm, va⟩⟩ a c) ∧ Bx V (W.heap.size + 1) (sentC ⟨x0, x1, x2⟩) ∧ Below W.heap.size W V) (by kernel_rfl) (⟨(unhide A0).drew, (unhide X0).drew, (unhide B0).drew⟩) (fun hHeld => ?_)
        refine wpAnyH_take (i := 0) (v := ?_) rfl (by kernel_rfl) (by kernel_rfl) (by kernel_rfl) (fun _ _ _ h => h) (Or.inl ⟨by rfl, ?_⟩) hHeld ?_
        rotate_left
        · intro V hSw; have y1 := hSw.1.cv; have y2 := hSw.2.1.cv; have y3 := hSw.2.1.lt; go_simp; rfl
        try simp only [Act.put, List.getElem_toArray, List.getElem_cons_zero, List.setIfInBounds_toArray, List.set_cons_zero, List.set_cons_succ]
        refine wpAnyH_take (i := 1) (v := ?_) rfl (by kernel_rfl) (by kernel_rfl) (by kernel_rfl) (fun _ _ _ h => h) (Or.inl ⟨by rfl, ?_⟩) hHeld ?_
        rotate_left
        · intro V hSw; have y1 := hSw.1.cv; have y2 := hSw.2.1.cv; have y3 := hSw.2.1.lt; go_simp; rfl
        try simp only [Act.put, List.getElem_toArray, List.getElem_cons_succ, List.getElem_cons_zero, List.setIfInBounds_toArray, List.set_cons_zero, List.set_cons_succ]
        refine wpAnyH_take (i := 2) (v := ?_) rfl (by kernel_rfl) (by kernel_rfl) (by kernel_rfl) (fun _ _ _ h => h) (Or.inl ⟨by rfl, ?_⟩) hHeld ?_
        rotate_left
        · intro V hSw; have y1 := hSw.1.cv; have y2 := hSw.2.1.cv; have y3 := hSw.2.1.lt; go_simp; rfl
        try simp only [Act.put, List.getElem_toArray, List.getElem_cons_succ, List.getElem_cons_zero, List.setIfInBounds_toArray, List.set_cons_zero, List.set_cons_succ]
        refine wpAnyH_take (i := 3) (v := ?_) rfl (by kernel_rfl) (by kernel_rfl) (by kernel_rfl) (fun _ _ _ h => h) (Or.inl ⟨by rfl, ?_⟩) hHeld ?_
        rotate_left
        · intro V hSw; have y1 := hSw.1.cv; have y2 := hSw.2.1.cv; have y3 := hSw.2.1.lt; go_simp; rfl
        try simp only [Act.put, List.getElem_toArray, List.getElem_cons_succ, List.getElem_cons_zero, List.setIfInBounds_toArray, List.set_cons_zero, List.set_cons_succ]
        refine wpAnyH_take (i := 4) (v := undef) rfl (by kernel_rfl) (by kernel_rfl) (by kernel_rfl) (fun _ _ _ h => h) (Or.inr ⟨by rfl, rfl⟩) hHeld ?_
        try simp only [Act.put, List.getElem_toArray, List.getElem_cons_succ, List.getElem_cons_zero, List.setIfInBounds_toArray, List.set_cons_zero, List.set_cons_succ]
        refine wpAnyH_take (i := 5) (v := undef) rfl (by kernel_rfl) (by kernel_rfl) (by kernel_rfl) (fun _ _ _ h => h) (Or.inr ⟨by rfl, rfl⟩) hHeld ?_
        try simp only [Act.put, List.getElem_toArray, List.getElem_cons_succ, List.getElem_cons_zero, List.setIfInBounds_toArray, List.set_cons_zero, List.set_cons_succ]
        refine wpAnyH_take (i := 6) (v := undef) rfl (by kernel_rfl) (by kernel_rfl) (by kernel_rfl) (fun _ _ _ h => h) (Or.inr ⟨by rfl, rfl⟩) hHeld ?_
        try simp only [Act.put, List.getElem_toArray, List.getElem_cons_succ, List.getElem_cons_zero, List.setIfInBounds_toArray, List.set_cons_zero, List.set_cons_succ]
        refine wpAnyH_take (i := 7) (v := undef) rfl (by kernel_rfl) (by kernel_rfl) (by kernel_rfl) (fun _ _ _ h => h) (Or.inr ⟨by rfl, rfl⟩) hHeld ?_
        try simp only [Act.put, List.getElem_toArray, List.getElem_cons_succ, List.getElem_cons_zero, List.setIfInBounds_toArray, List.set_cons_zero, List.set_cons_succ]
        refine wpAnyH_take (i := 8) (v := undef) rfl (by kernel_rfl) (by kernel_rfl) (by kernel_rfl) (fun _ _ _ h => h) (Or.inr ⟨by rfl, rfl⟩) hHeld ?_
        try simp only [Act.put, List.getElem_toArray, List.getElem_cons_succ, List.getElem_cons_zero, List.setIfInBounds_toArray, List.set_cons_zero, List.set_cons_succ]
        refine wpAnyH_take (i := 9) (v := undef) rfl (by kernel_rfl) (by kernel_rfl) (by kernel_rfl) (fun _ _ _ h => h) (Or.inr ⟨by rfl, rfl⟩) hHeld ?_
        try simp only [Act.put, List.getElem_toArray, List.getElem_cons_succ, List.getElem_cons_zero, List.setIfInBounds_toArray, List.set_cons_zero, List.set_cons_succ]
        refine wpAnyH_take (i := 10) (v := undef) rfl (by kernel_rfl) (by kernel_rfl) (by kernel_rfl) (fun _ _ _ h => h) (Or.inr ⟨by rfl, rfl⟩) hHeld ?_
        try simp only [Act.put, List.getElem_toArray, List.getElem_cons_succ, List.getElem_cons_zero, List.setIfInBounds_toArray, List.set_cons_zero, List.set_cons_succ]
        refine wpAnyH_take (i := 11) (v := undef) rfl (by kernel_rfl) (by kernel_rfl) (by kernel_rfl) (fun _ _ _ h => h) (Or.inr ⟨by rfl, rfl⟩) hHeld ?_
        try simp only [Act.put, List.getElem_toArray, List.getElem_cons_succ, List.getElem_cons_zero, List.setIfInBounds_toArray, List.set_cons_zero, List.set_cons_succ]
        refine wpAnyH_take (i := 12) (v := ?_) rfl (by kernel_rfl) (by kernel_rfl) (by kernel_rfl) (fun _ _ _ h => h) (Or.inl ⟨by rfl, ?_⟩) hHeld ?_
        rotate_left
        · intro V hSw; have y1 := hSw.1.cv; have y2 := hSw.2.1.cv; have y3 := hSw.2.1.lt; go_simp; rfl
        try simp only [Act.put, List.getElem_toArray, List.getElem_cons_succ, List.getElem_cons_zero, List.setIfInBounds_toArray, List.set_cons_zero, List.set_cons_succ]
        refine wpAnyH_take (i := 13) (v := ?_) rfl (by kernel_rfl) (by kernel_rfl) (by kernel_rfl) (fun _ _ _ h => h) (Or.inl ⟨by rfl, ?_⟩) hHeld ?_
        rotate_left
        · intro V hSw; have y1 := hSw.1.cv; have y2 := hSw.2.1.cv; have y3 := hSw.2.1.lt; go_simp; rfl
        try simp only [Act.put, List.getElem_toArray, List.getElem_cons_succ, List.getElem_cons_zero, List.setIfInBounds_toArray, List.set_cons_zero, List.set_cons_succ]
        refine wpAnyH_done (by kernel_rfl) ?_ _
        refine NoPanic.normal ?_
        have HH := hide hHeld
        clear hHeld
        go_wp2
        go_ret
        exact ⟨by rw [unhide HE2]; rfl, (unhide HH).2.2⟩
      | true =>
        have HE2 : Hid (loB lg now ⟨true, la, mi, sm, va⟩ ⟨x0, x1, x2⟩ = decide (x1 ≤ IntKind.i64.wrap (now - wv))) := by show _ = _; rw [show IntKind.i64.wrap (now - wv) = now - wv by rw [IntKind.wrap_i64]; omega, unhide HE]; rfl
        clear HE
        refine wp_region_noPanic ?_
        refine wp_region_held_drew (S := fun V => Bx V W.heap.size (spaceC ⟨lg, S, ⟨true, la, mi, sm, va⟩⟩ a c) ∧ Bx V (W.heap.size + 1) (sentC ⟨x0, x1, x2⟩) ∧ Below W.heap.size W V) (by kernel_rfl) (⟨(unhide A0).drew, (unhide X0).drew, (unhide B0).drew⟩) (fun hHeld => ?_)
        refine wpAnyH_take (i := 0) (v := ?_) rfl (by kernel_rfl) (by kernel_rfl) (by kernel_rfl) (fun _ _ _ h => h) (Or.inl ⟨by rfl, ?_⟩) hHeld ?_
        rotate_left
        · intro V hSw; have y1 := hSw.1.cv; have y2 := hSw.2.1.cv; have y3 := hSw.2.1.lt; go_simp; rfl
        try simp only [Act.put, List.getElem_toArray, List.getElem_cons_zero, List.setIfInBounds_toArray, List.set_cons_zero, List.set_cons_succ]
        refine wpAnyH_take (i := 1) (v := ?_) rfl (by kernel_rfl) (by kernel_rfl) (by kernel_rfl) (fun _ _ _ h => h) (Or.inl ⟨by rfl, ?_⟩) hHeld ?_
        rotate_left
        · intro V hSw; have y1 := hSw.1.cv; have y2 := hSw.2.1.cv; have y3 := hSw.2.1.lt; go_simp; rfl
        try simp only [Act.put, List.getElem_toArray, List.getElem_cons_succ, List.getElem_cons_zero, List.setIfInBounds_toArray, List.set_cons_zero, List.set_cons_succ]
        refine wpAnyH_take (i := 2) (v := ?_) rfl (by kernel_rfl) (by kernel_rfl) (by kernel_rfl) (fun _ _ _ h => h) (Or.inl ⟨by rfl, ?_⟩) hHeld ?_
        rotate_left
        · intro V hSw; have y1 := hSw.1.cv; have y2 := hSw.2.1.cv; have y3 := hSw.2.1.lt; go_simp; rfl
        try simp only [Act.put, List.getElem_toArray, List.getElem_cons_succ, List.getElem_cons_zero, List.setIfInBounds_toArray, List.set_cons_zero, List.set_cons_succ]
        refine wpAnyH_take (i := 3) (v := ?_) rfl (by kernel_rfl) (by kernel_rfl) (by kernel_rfl) (fun _ _ _ h => h) (Or.inl ⟨by rfl, ?_⟩) hHeld ?_
        rotate_left
        · intro V hSw; have y1 := hSw.1.cv; have y2 := hSw.2.1.cv; have y3 := hSw.2.1.lt; go_simp; rfl
        try simp only [Act.put, List.getElem_toArray, List.getElem_cons_succ, List.getElem_cons_zero, List.setIfInBounds_toArray, List.set_cons_zero, List.set_cons_succ]
        refine wpAnyH_take (i := 4) (v := ?_) rfl (by kernel_rfl) (by kernel_rfl) (by kernel_rfl) (fun _ _ _ h => h) (Or.inl ⟨by rfl, ?_⟩) hHeld ?_
        rotate_left
        · intro V hSw; have y1 := hSw.1.cv; have y2 := hSw.2.1.cv; have y3 := hSw.2.1.lt; go_simp; rfl
        try simp only [Act.put, List.getElem_toArray, List.getElem_cons_succ, List.getElem_cons_zero, List.setIfInBounds_toArray, List.set_cons_zero, List.set_cons_succ]
        refine wpAnyH_take (i := 5) (v := ?_) rfl (by kernel_rfl) (by kernel_rfl) (by kernel_rfl) (fun _ _ _ h => h) (Or.inl ⟨by rfl, ?_⟩) hHeld ?_
        rotate_left
        · intro V hSw; have y1 := hSw.1.cv; have y2 := hSw.2.1.cv; have y3 := hSw.2.1.lt; go_simp; rfl
        try simp only [Act.put, List.getElem_toArray, List.getElem_cons_succ, List.getElem_cons_zero, List.setIfInBounds_toArray, List.set_cons_zero, List.set_cons_succ]
        refine wpAnyH_take (i := 6) (v := ?_) rfl (by kernel_rfl) (by kernel_rfl) (by kernel_rfl) (fun _ _ _ h => h) (Or.inl ⟨by rfl, ?_⟩) hHeld ?_
        rotate_left
        · intro V hSw; have y1 := hSw.1.cv; have y2 := hSw.2.1.cv; have y3 := hSw.2.1.lt; go_simp; rfl
        try simp only [Act.put, List.getElem_toArray, List.getElem_cons_succ, List.getElem_cons_zero, List.setIfInBounds_toArray, List.set_cons_zero, List.set_cons_succ]
        refine wpAnyH_take (i := 7) (v := ?_) rfl (by kernel_rfl) (by kernel_rfl) (by kernel_rfl) (fun _ _ _ h => h) (Or.inl ⟨by rfl, ?_⟩) hHeld ?_
        rotate_left
        · intro V hSw; have y1 := hSw.1.cv; have y2 := hSw.2.1.cv; have y3 := hSw.2.1.lt; go_simp; rfl
        try simp only [Act.put, List.getElem_toArray, List.getElem_cons_succ, List.getElem_cons_zero, List.setIfInBounds_toArray, List.set_cons_zero, List.set_cons_succ]
        refine wpAnyH_take (i := 8) (v := ?_) rfl (by kernel_rfl) (by kernel_rfl) (by kernel_rfl) (fun _ _ _ h => h) (Or.inl ⟨by rfl, ?_⟩) hHeld ?_
        rotate_left
        · intro V hSw; have y1 := hSw.1.cv; have y2 := hSw.2.1.cv; have y3 := hSw.2.1.lt; go_simp; rfl
        try simp only [Act.put, List.getElem_toArray, List.getElem_cons_succ, List.getElem_cons_zero, List.setIfInBounds_toArray, List.set_cons_zero, List.set_cons_succ]
        refine wpAnyH_ready (rs := [9]) (by kernel_rfl) (by simp) ?_
        refine AllReadyH.cons rfl (fun K hK => ?_) AllReadyH.nil
        go_simp
        go_at_call 45
        with_reducible refine (unhide HW _).mono ?_
        rintro e w1 ⟨rfl, b1⟩
        refine hK.out _ _ (⟨hHeld.1.below b1, hHeld.2.1.below b1, hHeld.2.2.trans (b1.mono hHeld.2.2.size)⟩) (fun hHeld => ?_)
        clear hK K
        try simp only [Act.put, List.getElem_toArray, List.getElem_cons_succ, List.getElem_cons_zero, List.setIfInBounds_toArray, List.set_cons_zero, List.set_cons_succ]
        refine wpAnyH_take (i := 10) (v := ?_) rfl (by kernel_rfl) (by kernel_rfl) (by kernel_rfl) (fun _ _ _ h => h) (Or.inl ⟨by rfl, ?_⟩) hHeld ?_
        rotate_left
        · intro V hSw; have y1 := hSw.1.cv; have y2 := hSw.2.1.cv; have y3 := hSw.2.1.lt; go_simp; rfl
        try simp only [Act.put, List.getElem_toArray, List.getElem_cons_succ, List.getElem_cons_zero, List.setIfInBounds_toArray, List.set_cons_zero, List.set_cons_succ]
        refine wpAnyH_take (i := 11) (v := ?_) rfl (by kernel_rfl) (by kernel_rfl) (by kernel_rfl) (fun _ _ _ h => h) (Or.inl ⟨by rfl, ?_⟩) hHeld ?_
        rotate_left
        · intro V hSw; have y1 := hSw.1.cv; have y2 := hSw.2.1.cv; have y3 := hSw.2.1.lt; go_simp; rfl
        try simp only [Act.put, List.getElem_toArray, List.getElem_cons_succ, List.getElem_cons_zero, List.setIfInBounds_toArray, List.set_cons_zero, List.set_cons_succ]
        refine wpAnyH_take (i := 12) (v := ?_) rfl (by kernel_rfl) (by kernel_rfl) (by kernel_rfl) (fun _ _ _ h => h) (Or.inl ⟨by rfl, ?_⟩) hHeld ?_
        rotate_left
        · intro V hSw; have y1 := hSw.1.cv; have y2 := hSw.2.1.cv; have y3 := hSw.2.1.lt; go_simp; rfl
        try simp only [Act.put, List.getElem_toArray, List.getElem_cons_succ, List.getElem_cons_zero, List.setIfInBounds_toArray, List.set_cons_zero, List.set_cons_succ]
        refine wpAnyH_take (i := 13) (v := ?_) rfl (by kernel_rfl) (by kernel_rfl) (by kernel_rfl) (fun _ _ _ h => h) (Or.inl ⟨by rfl, ?_⟩) hHeld ?_
        rotate_left
        · intro V hSw; have y1 := hSw.1.cv; have y2 := hSw.2.1.cv; have y3 := hSw.2.1.lt; go_simp; rfl
        try simp only [Act.put, List.getElem_toArray, List.getElem_cons_succ, List.getElem_cons_zero, List.setIfInBounds_toArray, List.set_cons_zero, List.set_cons_succ]
        refine wpAnyH_done (by kernel_rfl) ?_ _
        refine NoPanic.normal ?_
        have HH := hide hHeld
        clear hHeld
        go_wp2
        go_ret
        exact ⟨by rw [unhide HE2]; rfl, (unhide HH).2.2⟩
end Go.Proofs.Ytccfbkpelehldaa.Rc
