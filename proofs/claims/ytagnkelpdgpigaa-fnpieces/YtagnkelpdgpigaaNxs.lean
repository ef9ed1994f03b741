/-
  Contract: NextPiece of the model.
-/
import Derived.Test.YtagnkelpdgpigaaNxp
import Derived.Deep.DeepCutAuto
import Derived.BigQuiet
import Derived.Deep.QuietTactic
import Derived.Deep.RegionWith
import Derived.Deep.RegionHeld3
namespace Go.Proofs.Ytagnkelpdgpigaa.Rc
open Go.ChangeShapes Go.WideShapes Go.ChangeAt Go.RowKit Go.Deep
set_option linter.unusedVariables false
set_option maxRecDepth 100000

set_option maxHeartbeats 8000000 in
theorem specNP (D : OutflowD) (m : Int) (hs : D.f2.size ≤ 1048576) (w : World) : Calls Try.prog 6 #[outflowV D, .int .i64 m] w fun e w' => e = .returned (.tuple #[outflowV (nxO D m (nxB D m)), nxR D m (nxB D m), .bool (nxB D m)]) ∧ Below w.heap.size w w' := by
  have H1 := hide (specGO D hs)
  have H2 := hide (inB m 1 200)
  have HA : Hid (nxA D m = (goB D && (decide (1 ≤ m) && decide (m ≤ 200)))) := rfl
  have HB : Hid (nxB D m = (nxA D m && !(decide ((nxT D m).size = 0) && !nxF D m))) := rfl
  have HG : Hid (goB D = true → GoO D) := goB_iff.1
  have HM : Hid ((decide (1 ≤ m) && decide (m ≤ 200)) = true → 1 ≤ m ∧ m ≤ 200) := fun h => by simpa using h
  have NO : Hid (nxB D m = false → Ending.returned (.tuple #[.agg #[.int .i64 0, .int .i64 0, .string ⟨#[]⟩, .bool false], frV 0 0 false ⟨#[]⟩, .bool false]) = .returned (.tuple #[outflowV (nxO D m (nxB D m)), nxR D m (nxB D m), .bool (nxB D m)])) := fun h => by rw [h]; rfl
  have YES : Hid (nxB D m = true → Ending.returned (.tuple #[.agg #[.int .i64 D.f0, .int .i64 (nxE D m), .string D.f2, .bool D.f3], frV 8 D.f1 (nxF D m) (nxT D m), .bool true]) = .returned (.tuple #[outflowV (nxO D m (nxB D m)), nxR D m (nxB D m), .bool (nxB D m)])) := fun h => by rw [h]; rfl
  obtain ⟨res, hres⟩ : ∃ x, x = Ending.returned (.tuple #[outflowV (nxO D m (nxB D m)), nxR D m (nxB D m), .bool (nxB D m)]) := ⟨_, rfl⟩
  rw [← hres] at NO YES ⊢
  clear hres
  obtain ⟨V0, hV0⟩ : ∃ V, V = ((w.alloc (.cells #[.int .i64 D.f0, .int .i64 D.f1, .string D.f2, .bool D.f3] 24)).alloc (.cells #[.int .i64 0, .int .i64 0, .string ⟨#[]⟩, .bool false] 24)).alloc (.cells #[.int .i64 0, .int .i64 0, .int .i64 0, .int .i64 0, .bool false, .string ⟨#[]⟩, .slice none 0 0] 29) := ⟨_, rfl⟩
  have A0 : Bx V0 w.heap.size (outflowC D) := by rw [hV0]; exact ((Bx.new w _ _).alloc _).alloc _
  have R0 : Bx V0 (w.heap.size + 1) (outflowC outZ) := by rw [hV0]; exact (Bx.newAt (w.alloc _) _ _ _ (by simp)).alloc _
  have O0 : Bx V0 (w.heap.size + 1 + 1) (frC 0 0 false ⟨#[]⟩) := by rw [hV0]; exact Bx.newAt ((w.alloc _).alloc _) _ _ _ (by simp)
  have B0 : Below w.heap.size w V0 := by rw [hV0]; exact (((Below.refl w.heap.size w).alloc (Nat.le_refl _) _).alloc (by simp) _).alloc (by simp; omega) _
  have I0 := hide (And.intro A0 (And.intro R0 (And.intro O0 B0)))
  have HV0 := hide hV0
  clear A0 R0 O0 B0 hV0
  generalize (decide (1 ≤ m) && decide (m ≤ 200)) = r1 at *
  generalize goB D = r0 at *
  go_enter Try.func6, Try.ntmps6
  go_upto_region 1 with fail
  rw [← unhide HV0]
  clear HV0
  have a0 := (unhide I0).1.cv
  have a0l := (unhide I0).1.lt
  cases r0 with
  | false =>
    have HN := hide (unhide NO (by rw [unhide HB, unhide HA]; rfl))
    clear NO HB HA HG HM
    go_wp2_with fail
    refine (unhide H1 _).mono ?_
    rintro e w1 ⟨rfl, b1⟩
    have R1 := (unhide I0).2.1.below b1
    have O1 := (unhide I0).2.2.1.below b1
    have B1 := hide ((unhide I0).2.2.2.trans (b1.mono (unhide I0).2.2.2.size))
    have q1 := R1.cv
    have q1f := R1.fz
    have q1l := R1.lt
    have q2 := O1.cv
    have q2f := O1.fz
    have q2l := O1.lt
    clear b1 R1 O1 a0 a0l
    go_wp2
    refine bodyPost_ret (v := .tuple #[.agg #[.int .i64 0, .int .i64 0, .string ⟨#[]⟩, .bool false], frV 0 0 false ⟨#[]⟩, .bool false]) (by simp [results, Try.results6, go_sem, q1, q2]) rfl ⟨unhide HN, ?_⟩
    repeat (refine Below.setCell ?_ (by simp <;> omega) _)
    exact unhide B1
  | true =>
  cases r1 with
  | false =>
    have HN := hide (unhide NO (by rw [unhide HB, unhide HA]; rfl))
    clear NO HB HA HG HM
    go_wp2_with fail
    refine (unhide H1 _).mono ?_
    rintro e w1 ⟨rfl, b1⟩
    have R1 := (unhide I0).2.1.below b1
    have O1 := (unhide I0).2.2.1.below b1
    have B1 := hide ((unhide I0).2.2.2.trans (b1.mono (unhide I0).2.2.2.size))
    have q1 := R1.cv
    have q1f := R1.fz
    have q1l := R1.lt
    have q2 := O1.cv
    have q2f := O1.fz
    have q2l := O1.lt
    clear b1 R1 O1 a0 a0l
    go_wp2_with (go_at_call 15; (with_reducible refine (unhide H2 _).mono ?_); rintro e w9 ⟨rfl, h9⟩; rw [h9]; clear h9 w9)
    refine bodyPost_ret (v := .tuple #[.agg #[.int .i64 0, .int .i64 0, .string ⟨#[]⟩, .bool false], frV 0 0 false ⟨#[]⟩, .bool false]) (by simp [results, Try.results6, go_sem, q1, q2]) rfl ⟨unhide HN, ?_⟩
    repeat (refine Below.setCell ?_ (by simp <;> omega) _)
    exact unhide B1
  | true =>
    have g := unhide HG rfl
    have hm := unhide HM rfl
    have HB2 : Hid (nxB D m = !(decide ((nxT D m).size = 0) && !nxF D m)) := by show _ = _; rw [unhide HB, unhide HA]; rfl
    clear HB HA HG HM
    have hE := nxE_in g hm.1
    obtain ⟨l0, l1, n0, s0, s1, s2⟩ := g
    have ET : Hid (nxT D m = D.f2.extract D.f1.toNat (nxE D m).toNat) := rfl
    have EF : Hid (nxF D m = (D.f3 && decide (nxE D m = (D.f2.size : Int)))) := rfl
    have EE : Hid (nxE D m = if D.f0 < D.f1 + m then (if (D.f2.size : Int) < D.f0 then (D.f2.size : Int) else D.f0) else (if (D.f2.size : Int) < D.f1 + m then (D.f2.size : Int) else D.f1 + m)) := rfl
    generalize nxB D m = nb at *
    generalize nxT D m = nt at *
    generalize nxF D m = nf at *
    generalize nxE D m = ne at *
    obtain ⟨f0, f1, f2, f3⟩ := D
    dsimp only at *
    have w3 : IntKind.i64.wrap (f1 + m) = f1 + m := by rw [IntKind.wrap_i64]; omega
    go_wp2_with fail
    refine (unhide H1 _).mono ?_
    rintro e w1 ⟨rfl, b1⟩
    have A1 := (unhide I0).1.below b1
    have I1 := hide (And.intro A1 (And.intro ((unhide I0).2.1.below b1) (And.intro ((unhide I0).2.2.1.below b1) ((unhide I0).2.2.2.trans (b1.mono (unhide I0).2.2.2.size)))))
    clear b1 I0 a0 a0l
    have a1 := A1.cv
    have a1l := A1.lt
    clear A1
    go_upto_region 3 with (go_at_call 15; (with_reducible refine (unhide H2 _).mono ?_); rintro e w9 ⟨rfl, h9⟩; rw [h9]; clear h9 w9)
    obtain ⟨ea, hea⟩ : ∃ x, x = if (f2.size : Int) < f1 + m then (f2.size : Int) else f1 + m := ⟨_, rfl⟩
    have HEA := hide hea
    have hne : ne = if f0 < ea then f0 else ea := by
      rw [unhide EE, hea]
      by_cases h1 : f0 < f1 + m <;> by_cases h2 : (f2.size : Int) < f0 <;> by_cases h3 : (f2.size : Int) < f1 + m <;> simp only [h1, h2, h3, if_true, if_false] <;> (try split) <;> omega
    have HNE2 := hide hne
    clear hea hne EE
    go_upto_region 4 with fail
    go_upto_if 27 with fail
    go_cut [7] (fun s7 wx => s7 = .int .i64 ea ∧ wx = w1)
    case first =>
      by_cases h3 : (f2.size : Int) < f1 + m
      · have e9 := unhide HEA
        rw [if_pos h3] at e9
        have h9 := hide e9.symm
        clear e9
        go_wp2
        go_meet
        exact ⟨by rw [unhide h9], rfl⟩
      · have e9 := unhide HEA
        rw [if_neg h3] at e9
        have h9 := hide e9.symm
        clear e9
        go_wp2
        go_meet
        exact ⟨by rw [unhide h9], rfl⟩
    case rest =>
    obtain ⟨rfl, hw⟩ := hcut
    rw [hw]
    clear hw
    go_upto_region 6 with fail
    go_upto_if 34 with fail
    go_cut [7] (fun s7 wx => s7 = .int .i64 ne ∧ wx = w1)
    case first =>
      by_cases h3 : f0 < ea
      · have e9 := unhide HNE2
        rw [if_pos h3] at e9
        have h9 := hide e9.symm
        clear e9
        go_wp2
        go_meet
        exact ⟨by rw [unhide h9], rfl⟩
      · have e9 := unhide HNE2
        rw [if_neg h3] at e9
        have h9 := hide e9.symm
        clear e9
        go_wp2
        go_meet
        exact ⟨by rw [unhide h9], rfl⟩
    case rest =>
    obtain ⟨rfl, hw⟩ := hcut
    rw [hw]
    clear hw
    clear HEA HNE2
    obtain ⟨p, rfl⟩ : ∃ p : Nat, f1 = p := ⟨f1.toNat, by omega⟩
    obtain ⟨q, rfl⟩ : ∃ q : Nat, ne = q := ⟨ne.toNat, by omega⟩
    rw [Int.toNat_natCast, Int.toNat_natCast] at ET
    have hne : nt = f2.extract p q := unhide ET
    have HNE := hide hne
    clear ET
    obtain ⟨e1, e2, e3, e4⟩ := hE
    have n1 : (0 : Int) ≤ (p : Int) := by omega
    have n3 : (0 : Int) ≤ (q : Int) := by omega
    have n4 : ((q : Int)).toNat = q := rfl
    have n5 : ((p : Int)).toNat = p := rfl
    have n6 : IntKind.i64.wrap (q : Int) = (q : Int) := by rw [IntKind.wrap_i64]; omega
    have n7 : IntKind.i64.wrap (p : Int) = (p : Int) := by rw [IntKind.wrap_i64]; omega
    have nz : IntKind.i64.wrap (f2.size : Int) = (f2.size : Int) := by rw [IntKind.wrap_i64]; omega
    clear hne
    have HNF : Hid (nf = (f3 && decide ((q : Int) = (f2.size : Int)))) := EF
    clear EF w3 s0 s1 s2 l0 l1 hm
    obtain ⟨W2, hW2⟩ : ∃ W, W = w1 := ⟨_, rfl⟩
    subst hW2
    go_upto_region 8 with fail
    go_cut [8] (fun s8 wx => ∃ p10, s8 = .pointer (some ⟨p10, 0, none⟩) ∧ Hid (Bx wx p10 (frC 8 p nf nt)) ∧ Hid (Below W2.heap.size W2 wx) ∧ W2.heap.size ≤ p10)
    case first =>
      cases f3 with
      | false =>
        have e9 : nf = false := unhide HNF
        refine wp_region_noPanic ?_
        refine wp_region_held_drew (S := fun V => Below W2.heap.size W2 V) (by kernel_rfl) ((Below.refl _ _).drew) (fun hHeld => ?_)
        refine wpAnyH_take (i := 0) (v := ?_) rfl (by kernel_rfl) (by kernel_rfl) (by kernel_rfl) (fun _ _ _ h => h) (Or.inl ⟨by rfl, ?_⟩) hHeld ?_
        rotate_left
        · intro V hSw; have y1 := (Bx.below (unhide I1).1 hSw).cv; have y2 := (Bx.below (unhide I1).1 hSw).lt; go_simp; rfl
        try simp only [Act.put, List.getElem_toArray, List.getElem_cons_zero, List.setIfInBounds_toArray, List.set_cons_zero, List.set_cons_succ]
        refine wpAnyH_take (i := 1) (v := ?_) rfl (by kernel_rfl) (by kernel_rfl) (by kernel_rfl) (fun _ _ _ h => h) (Or.inl ⟨by rfl, ?_⟩) hHeld ?_
        rotate_left
        · intro V hSw; have y1 := (Bx.below (unhide I1).1 hSw).cv; have y2 := (Bx.below (unhide I1).1 hSw).lt; go_simp; rfl
        try simp only [Act.put, List.getElem_toArray, List.getElem_cons_succ, List.getElem_cons_zero, List.setIfInBounds_toArray, List.set_cons_zero, List.set_cons_succ]
        refine wpAnyH_take (i := 2) (v := ?_) rfl (by kernel_rfl) (by kernel_rfl) (by kernel_rfl) (fun _ _ _ h => h) (Or.inl ⟨by rfl, ?_⟩) hHeld ?_
        rotate_left
        · intro V hSw; have y1 := (Bx.below (unhide I1).1 hSw).cv; have y2 := (Bx.below (unhide I1).1 hSw).lt; go_simp; rfl
        try simp only [Act.put, List.getElem_toArray, List.getElem_cons_succ, List.getElem_cons_zero, List.setIfInBounds_toArray, List.set_cons_zero, List.set_cons_succ]
        refine wpAnyH_take (i := 3) (v := ?_) rfl (by kernel_rfl) (by kernel_rfl) (by kernel_rfl) (fun _ _ _ h => h) (Or.inl ⟨by rfl, ?_⟩) hHeld ?_
        rotate_left
        · intro V hSw; have y1 := (Bx.below (unhide I1).1 hSw).cv; have y2 := (Bx.below (unhide I1).1 hSw).lt; go_simp; rfl
        try simp only [Act.put, List.getElem_toArray, List.getElem_cons_succ, List.getElem_cons_zero, List.setIfInBounds_toArray, List.set_cons_zero, List.set_cons_succ]
        refine wpAnyH_take (i := 4) (v := ?_) rfl (by kernel_rfl) (by kernel_rfl) (by kernel_rfl) (fun _ _ _ h => h) (Or.inl ⟨by rfl, ?_⟩) hHeld ?_
        rotate_left
        · intro V hSw; have y1 := (Bx.below (unhide I1).1 hSw).cv; have y2 := (Bx.below (unhide I1).1 hSw).lt; go_simp; rfl
        try simp only [Act.put, List.getElem_toArray, List.getElem_cons_succ, List.getElem_cons_zero, List.setIfInBounds_toArray, List.set_cons_zero, List.set_cons_succ]
        refine wpAnyH_take (i := 5) (v := ?_) rfl (by kernel_rfl) (by kernel_rfl) (by kernel_rfl) (fun _ _ _ h => h) (Or.inl ⟨by rfl, ?_⟩) hHeld ?_
        rotate_left
        · intro V hSw; have y1 := (Bx.below (unhide I1).1 hSw).cv; have y2 := (Bx.below (unhide I1).1 hSw).lt; go_simp; rfl
        try simp only [Act.put, List.getElem_toArray, List.getElem_cons_succ, List.getElem_cons_zero, List.setIfInBounds_toArray, List.set_cons_zero, List.set_cons_succ]
        refine wpAnyH_take (i := 6) (v := ?_) rfl (by kernel_rfl) (by kernel_rfl) (by kernel_rfl) (fun _ _ _ h => h) (Or.inl ⟨by rfl, ?_⟩) hHeld ?_
        rotate_left
        · intro V hSw; have y1 := (Bx.below (unhide I1).1 hSw).cv; have y2 := (Bx.below (unhide I1).1 hSw).lt; go_simp; rfl
        try simp only [Act.put, List.getElem_toArray, List.getElem_cons_succ, List.getElem_cons_zero, List.setIfInBounds_toArray, List.set_cons_zero, List.set_cons_succ]
        refine wpAnyH_take (i := 7) (v := ?_) rfl (by kernel_rfl) (by kernel_rfl) (by kernel_rfl) (fun _ _ _ h => h) (Or.inl ⟨by rfl, ?_⟩) hHeld ?_
        rotate_left
        · intro V hSw; have y1 := (Bx.below (unhide I1).1 hSw).cv; have y2 := (Bx.below (unhide I1).1 hSw).lt; go_simp; rfl
        try simp only [Act.put, List.getElem_toArray, List.getElem_cons_succ, List.getElem_cons_zero, List.setIfInBounds_toArray, List.set_cons_zero, List.set_cons_succ]
        refine wpAnyH_take (i := 8) (v := ?_) rfl (by kernel_rfl) (by kernel_rfl) (by kernel_rfl) (fun _ _ _ h => h) (Or.inl ⟨by rfl, ?_⟩) hHeld ?_
        rotate_left
        · intro V hSw; have y1 := (Bx.below (unhide I1).1 hSw).cv; have y2 := (Bx.below (unhide I1).1 hSw).lt; go_simp; rfl
        try simp only [Act.put, List.getElem_toArray, List.getElem_cons_succ, List.getElem_cons_zero, List.setIfInBounds_toArray, List.set_cons_zero, List.set_cons_succ]
        refine wpAnyH_take (i := 9) (v := ?_) rfl (by kernel_rfl) (by kernel_rfl) (by kernel_rfl) (fun _ _ _ h => h) (Or.inl ⟨by rfl, ?_⟩) hHeld ?_
        rotate_left
        · intro V hSw; have y1 := (Bx.below (unhide I1).1 hSw).cv; have y2 := (Bx.below (unhide I1).1 hSw).lt; go_simp; rfl
        try simp only [Act.put, List.getElem_toArray, List.getElem_cons_succ, List.getElem_cons_zero, List.setIfInBounds_toArray, List.set_cons_zero, List.set_cons_succ]
        refine wpAnyH_take (i := 10) (v := ?_) rfl (by kernel_rfl) (by kernel_rfl) (by kernel_rfl) (fun _ _ _ h => h) (Or.inl ⟨by rfl, ?_⟩) hHeld ?_
        rotate_left
        · intro V hSw; have y1 := (Bx.below (unhide I1).1 hSw).cv; have y2 := (Bx.below (unhide I1).1 hSw).lt; go_simp; rfl
        try simp only [Act.put, List.getElem_toArray, List.getElem_cons_succ, List.getElem_cons_zero, List.setIfInBounds_toArray, List.set_cons_zero, List.set_cons_succ]
        refine wpAnyH_take (i := 11) (v := undef) rfl (by kernel_rfl) (by kernel_rfl) (by kernel_rfl) (fun _ _ _ h => h) (Or.inr ⟨by rfl, rfl⟩) hHeld ?_
        try simp only [Act.put, List.getElem_toArray, List.getElem_cons_succ, List.getElem_cons_zero, List.setIfInBounds_toArray, List.set_cons_zero, List.set_cons_succ]
        refine wpAnyH_take (i := 12) (v := undef) rfl (by kernel_rfl) (by kernel_rfl) (by kernel_rfl) (fun _ _ _ h => h) (Or.inr ⟨by rfl, rfl⟩) hHeld ?_
        try simp only [Act.put, List.getElem_toArray, List.getElem_cons_succ, List.getElem_cons_zero, List.setIfInBounds_toArray, List.set_cons_zero, List.set_cons_succ]
        refine wpAnyH_take (i := 13) (v := undef) rfl (by kernel_rfl) (by kernel_rfl) (by kernel_rfl) (fun _ _ _ h => h) (Or.inr ⟨by rfl, rfl⟩) hHeld ?_
        try simp only [Act.put, List.getElem_toArray, List.getElem_cons_succ, List.getElem_cons_zero, List.setIfInBounds_toArray, List.set_cons_zero, List.set_cons_succ]
        refine wpAnyH_take (i := 14) (v := undef) rfl (by kernel_rfl) (by kernel_rfl) (by kernel_rfl) (fun _ _ _ h => h) (Or.inr ⟨by rfl, rfl⟩) hHeld ?_
        try simp only [Act.put, List.getElem_toArray, List.getElem_cons_succ, List.getElem_cons_zero, List.setIfInBounds_toArray, List.set_cons_zero, List.set_cons_succ]
        refine wpAnyH_take (i := 15) (v := undef) rfl (by kernel_rfl) (by kernel_rfl) (by kernel_rfl) (fun _ _ _ h => h) (Or.inr ⟨by rfl, rfl⟩) hHeld ?_
        try simp only [Act.put, List.getElem_toArray, List.getElem_cons_succ, List.getElem_cons_zero, List.setIfInBounds_toArray, List.set_cons_zero, List.set_cons_succ]
        refine wpAnyH_take (i := 16) (v := ?_) rfl (by kernel_rfl) (by kernel_rfl) (by kernel_rfl) (fun _ _ _ h => h) (Or.inl ⟨by rfl, ?_⟩) hHeld ?_
        rotate_left
        · intro V hSw; go_simp; rfl
        try simp only [Act.put, List.getElem_toArray, List.getElem_cons_succ, List.getElem_cons_zero, List.setIfInBounds_toArray, List.set_cons_zero, List.set_cons_succ]
        refine wpAnyH_take (i := 17) (v := ?_) rfl (by kernel_rfl) (by kernel_rfl) (by kernel_rfl) (fun _ _ _ h => h) (Or.inl ⟨by rfl, ?_⟩) hHeld ?_
        rotate_left
        · intro V hSw; go_simp; rfl
        try simp only [Act.put, List.getElem_toArray, List.getElem_cons_succ, List.getElem_cons_zero, List.setIfInBounds_toArray, List.set_cons_zero, List.set_cons_succ]
        obtain ⟨U0, hU0⟩ : ∃ U, U = W2.drew := ⟨_, rfl⟩
        rw [← hU0] at hHeld ⊢
        clear hU0
        refine wpAnyH_ready (rs := [18]) (by kernel_rfl) (by simp) ?_
        refine (AllReadyH.cons rfl (fun K hK => ?_) AllReadyH.nil)
        go_simp
        obtain ⟨U4, hU⟩ : ∃ U, U = U0.alloc (.cells #[.int .i64 0, .int .i64 0, .int .i64 0, .int .i64 0, .bool false, .string ⟨#[]⟩, .slice none 0 0] 29) := ⟨_, rfl⟩
        have bU : Below U0.heap.size U0 U4 := by rw [hU]; exact (Below.refl _ _).alloc (Nat.le_refl _) _
        have BXX := hide (show Bx U4 U0.heap.size (frC 0 0 false ⟨#[]⟩) by rw [hU]; exact Bx.new U0 _ _)
        have hp0 := hide hHeld.size
        rw [← hU]
        refine hK.out _ _ (hHeld.trans (bU.mono hHeld.size)) (fun hHeld => ?_)
        clear hK K
        try simp only [Act.put, List.getElem_toArray, List.getElem_cons_succ, List.getElem_cons_zero, List.setIfInBounds_toArray, List.set_cons_zero, List.set_cons_succ]
        clear hU bU
        have y1 := (unhide BXX).cv
        have y2 := (unhide BXX).fz
        have yl := (unhide BXX).lt
        have F7 := hide (st7f (unhide BXX) (.int .i64 8) (.int .i64 0) (.int .i64 (p : Int)) (.int .i64 0) (.bool (false)) (.string (f2.extract p q)) (.slice none 0 0))
        refine wpAnyH_ready (rs := [19]) (by kernel_rfl) (by simp) ?_
        refine (AllReadyH.cons rfl (fun K hK => ?_) AllReadyH.nil)
        go_simp
        refine hK.out _ _ (hHeld.trans ((unhide F7).2.below hHeld.size (fun q hq => by have := unhide hp0; omega))) (fun hHeld => ?_)
        clear hK K
        try simp only [Act.put, List.getElem_toArray, List.getElem_cons_succ, List.getElem_cons_zero, List.setIfInBounds_toArray, List.set_cons_zero, List.set_cons_succ]
        refine wpAnyH_done (by kernel_rfl) ?_ _
        refine NoPanic.normal ?_
        have HH := hide hHeld
        clear hHeld y1 y2 yl
        go_wp2_with fail
        go_meet
        rw [unhide HNE, e9]
        exact ⟨_, rfl, (unhide F7).1, unhide HH, unhide hp0⟩
      | true =>
        have e9 : nf = decide ((q : Int) = (f2.size : Int)) := by rw [unhide HNF]; rfl
        refine wp_region_noPanic ?_
        refine wp_region_held_drew (S := fun V => Below W2.heap.size W2 V) (by kernel_rfl) ((Below.refl _ _).drew) (fun hHeld => ?_)
        refine wpAnyH_take (i := 0) (v := ?_) rfl (by kernel_rfl) (by kernel_rfl) (by kernel_rfl) (fun _ _ _ h => h) (Or.inl ⟨by rfl, ?_⟩) hHeld ?_
        rotate_left
        · intro V hSw; have y1 := (Bx.below (unhide I1).1 hSw).cv; have y2 := (Bx.below (unhide I1).1 hSw).lt; go_simp; rfl
        try simp only [Act.put, List.getElem_toArray, List.getElem_cons_zero, List.setIfInBounds_toArray, List.set_cons_zero, List.set_cons_succ]
        refine wpAnyH_take (i := 1) (v := ?_) rfl (by kernel_rfl) (by kernel_rfl) (by kernel_rfl) (fun _ _ _ h => h) (Or.inl ⟨by rfl, ?_⟩) hHeld ?_
        rotate_left
        · intro V hSw; have y1 := (Bx.below (unhide I1).1 hSw).cv; have y2 := (Bx.below (unhide I1).1 hSw).lt; go_simp; rfl
        try simp only [Act.put, List.getElem_toArray, List.getElem_cons_succ, List.getElem_cons_zero, List.setIfInBounds_toArray, List.set_cons_zero, List.set_cons_succ]
        refine wpAnyH_take (i := 2) (v := ?_) rfl (by kernel_rfl) (by kernel_rfl) (by kernel_rfl) (fun _ _ _ h => h) (Or.inl ⟨by rfl, ?_⟩) hHeld ?_
        rotate_left
        · intro V hSw; have y1 := (Bx.below (unhide I1).1 hSw).cv; have y2 := (Bx.below (unhide I1).1 hSw).lt; go_simp; rfl
        try simp only [Act.put, List.getElem_toArray, List.getElem_cons_succ, List.getElem_cons_zero, List.setIfInBounds_toArray, List.set_cons_zero, List.set_cons_succ]
        refine wpAnyH_take (i := 3) (v := ?_) rfl (by kernel_rfl) (by kernel_rfl) (by kernel_rfl) (fun _ _ _ h => h) (Or.inl ⟨by rfl, ?_⟩) hHeld ?_
        rotate_left
        · intro V hSw; have y1 := (Bx.below (unhide I1).1 hSw).cv; have y2 := (Bx.below (unhide I1).1 hSw).lt; go_simp; rfl
        try simp only [Act.put, List.getElem_toArray, List.getElem_cons_succ, List.getElem_cons_zero, List.setIfInBounds_toArray, List.set_cons_zero, List.set_cons_succ]
        refine wpAnyH_take (i := 4) (v := ?_) rfl (by kernel_rfl) (by kernel_rfl) (by kernel_rfl) (fun _ _ _ h => h) (Or.inl ⟨by rfl, ?_⟩) hHeld ?_
        rotate_left
        · intro V hSw; have y1 := (Bx.below (unhide I1).1 hSw).cv; have y2 := (Bx.below (unhide I1).1 hSw).lt; go_simp; rfl
        try simp only [Act.put, List.getElem_toArray, List.getElem_cons_succ, List.getElem_cons_zero, List.setIfInBounds_toArray, List.set_cons_zero, List.set_cons_succ]
        refine wpAnyH_take (i := 5) (v := ?_) rfl (by kernel_rfl) (by kernel_rfl) (by kernel_rfl) (fun _ _ _ h => h) (Or.inl ⟨by rfl, ?_⟩) hHeld ?_
        rotate_left
        · intro V hSw; have y1 := (Bx.below (unhide I1).1 hSw).cv; have y2 := (Bx.below (unhide I1).1 hSw).lt; go_simp; rfl
        try simp only [Act.put, List.getElem_toArray, List.getElem_cons_succ, List.getElem_cons_zero, List.setIfInBounds_toArray, List.set_cons_zero, List.set_cons_succ]
        refine wpAnyH_take (i := 6) (v := ?_) rfl (by kernel_rfl) (by kernel_rfl) (by kernel_rfl) (fun _ _ _ h => h) (Or.inl ⟨by rfl, ?_⟩) hHeld ?_
        rotate_left
        · intro V hSw; have y1 := (Bx.below (unhide I1).1 hSw).cv; have y2 := (Bx.below (unhide I1).1 hSw).lt; go_simp; rfl
        try simp only [Act.put, List.getElem_toArray, List.getElem_cons_succ, List.getElem_cons_zero, List.setIfInBounds_toArray, List.set_cons_zero, List.set_cons_succ]
        refine wpAnyH_take (i := 7) (v := ?_) rfl (by kernel_rfl) (by kernel_rfl) (by kernel_rfl) (fun _ _ _ h => h) (Or.inl ⟨by rfl, ?_⟩) hHeld ?_
        rotate_left
        · intro V hSw; have y1 := (Bx.below (unhide I1).1 hSw).cv; have y2 := (Bx.below (unhide I1).1 hSw).lt; go_simp; rfl
        try simp only [Act.put, List.getElem_toArray, List.getElem_cons_succ, List.getElem_cons_zero, List.setIfInBounds_toArray, List.set_cons_zero, List.set_cons_succ]
        refine wpAnyH_take (i := 8) (v := ?_) rfl (by kernel_rfl) (by kernel_rfl) (by kernel_rfl) (fun _ _ _ h => h) (Or.inl ⟨by rfl, ?_⟩) hHeld ?_
        rotate_left
        · intro V hSw; have y1 := (Bx.below (unhide I1).1 hSw).cv; have y2 := (Bx.below (unhide I1).1 hSw).lt; go_simp; rfl
        try simp only [Act.put, List.getElem_toArray, List.getElem_cons_succ, List.getElem_cons_zero, List.setIfInBounds_toArray, List.set_cons_zero, List.set_cons_succ]
        refine wpAnyH_take (i := 9) (v := ?_) rfl (by kernel_rfl) (by kernel_rfl) (by kernel_rfl) (fun _ _ _ h => h) (Or.inl ⟨by rfl, ?_⟩) hHeld ?_
        rotate_left
        · intro V hSw; have y1 := (Bx.below (unhide I1).1 hSw).cv; have y2 := (Bx.below (unhide I1).1 hSw).lt; go_simp; rfl
        try simp only [Act.put, List.getElem_toArray, List.getElem_cons_succ, List.getElem_cons_zero, List.setIfInBounds_toArray, List.set_cons_zero, List.set_cons_succ]
        refine wpAnyH_take (i := 10) (v := ?_) rfl (by kernel_rfl) (by kernel_rfl) (by kernel_rfl) (fun _ _ _ h => h) (Or.inl ⟨by rfl, ?_⟩) hHeld ?_
        rotate_left
        · intro V hSw; have y1 := (Bx.below (unhide I1).1 hSw).cv; have y2 := (Bx.below (unhide I1).1 hSw).lt; go_simp; rfl
        try simp only [Act.put, List.getElem_toArray, List.getElem_cons_succ, List.getElem_cons_zero, List.setIfInBounds_toArray, List.set_cons_zero, List.set_cons_succ]
        refine wpAnyH_take (i := 11) (v := ?_) rfl (by kernel_rfl) (by kernel_rfl) (by kernel_rfl) (fun _ _ _ h => h) (Or.inl ⟨by rfl, ?_⟩) hHeld ?_
        rotate_left
        · intro V hSw; have y1 := (Bx.below (unhide I1).1 hSw).cv; have y2 := (Bx.below (unhide I1).1 hSw).lt; go_simp; rfl
        try simp only [Act.put, List.getElem_toArray, List.getElem_cons_succ, List.getElem_cons_zero, List.setIfInBounds_toArray, List.set_cons_zero, List.set_cons_succ]
        refine wpAnyH_take (i := 12) (v := ?_) rfl (by kernel_rfl) (by kernel_rfl) (by kernel_rfl) (fun _ _ _ h => h) (Or.inl ⟨by rfl, ?_⟩) hHeld ?_
        rotate_left
        · intro V hSw; have y1 := (Bx.below (unhide I1).1 hSw).cv; have y2 := (Bx.below (unhide I1).1 hSw).lt; go_simp; rfl
        try simp only [Act.put, List.getElem_toArray, List.getElem_cons_succ, List.getElem_cons_zero, List.setIfInBounds_toArray, List.set_cons_zero, List.set_cons_succ]
        refine wpAnyH_take (i := 13) (v := ?_) rfl (by kernel_rfl) (by kernel_rfl) (by kernel_rfl) (fun _ _ _ h => h) (Or.inl ⟨by rfl, ?_⟩) hHeld ?_
        rotate_left
        · intro V hSw; have y1 := (Bx.below (unhide I1).1 hSw).cv; have y2 := (Bx.below (unhide I1).1 hSw).lt; go_simp; rfl
        try simp only [Act.put, List.getElem_toArray, List.getElem_cons_succ, List.getElem_cons_zero, List.setIfInBounds_toArray, List.set_cons_zero, List.set_cons_succ]
        refine wpAnyH_take (i := 14) (v := ?_) rfl (by kernel_rfl) (by kernel_rfl) (by kernel_rfl) (fun _ _ _ h => h) (Or.inl ⟨by rfl, ?_⟩) hHeld ?_
        rotate_left
        · intro V hSw; have y1 := (Bx.below (unhide I1).1 hSw).cv; have y2 := (Bx.below (unhide I1).1 hSw).lt; go_simp; rfl
        try simp only [Act.put, List.getElem_toArray, List.getElem_cons_succ, List.getElem_cons_zero, List.setIfInBounds_toArray, List.set_cons_zero, List.set_cons_succ]
        refine wpAnyH_take (i := 15) (v := ?_) rfl (by kernel_rfl) (by kernel_rfl) (by kernel_rfl) (fun _ _ _ h => h) (Or.inl ⟨by rfl, ?_⟩) hHeld ?_
        rotate_left
        · intro V hSw; have y1 := (Bx.below (unhide I1).1 hSw).cv; have y2 := (Bx.below (unhide I1).1 hSw).lt; go_simp; rfl
        try simp only [Act.put, List.getElem_toArray, List.getElem_cons_succ, List.getElem_cons_zero, List.setIfInBounds_toArray, List.set_cons_zero, List.set_cons_succ]
        refine wpAnyH_take (i := 16) (v := ?_) rfl (by kernel_rfl) (by kernel_rfl) (by kernel_rfl) (fun _ _ _ h => h) (Or.inl ⟨by rfl, ?_⟩) hHeld ?_
        rotate_left
        · intro V hSw; go_simp; rfl
        try simp only [Act.put, List.getElem_toArray, List.getElem_cons_succ, List.getElem_cons_zero, List.setIfInBounds_toArray, List.set_cons_zero, List.set_cons_succ]
        refine wpAnyH_take (i := 17) (v := ?_) rfl (by kernel_rfl) (by kernel_rfl) (by kernel_rfl) (fun _ _ _ h => h) (Or.inl ⟨by rfl, ?_⟩) hHeld ?_
        rotate_left
        · intro V hSw; go_simp; rfl
        try simp only [Act.put, List.getElem_toArray, List.getElem_cons_succ, List.getElem_cons_zero, List.setIfInBounds_toArray, List.set_cons_zero, List.set_cons_succ]
        obtain ⟨U0, hU0⟩ : ∃ U, U = W2.drew := ⟨_, rfl⟩
        rw [← hU0] at hHeld ⊢
        clear hU0
        refine wpAnyH_ready (rs := [18]) (by kernel_rfl) (by simp) ?_
        refine (AllReadyH.cons rfl (fun K hK => ?_) AllReadyH.nil)
        go_simp
        obtain ⟨U4, hU⟩ : ∃ U, U = U0.alloc (.cells #[.int .i64 0, .int .i64 0, .int .i64 0, .int .i64 0, .bool false, .string ⟨#[]⟩, .slice none 0 0] 29) := ⟨_, rfl⟩
        have bU : Below U0.heap.size U0 U4 := by rw [hU]; exact (Below.refl _ _).alloc (Nat.le_refl _) _
        have BXX := hide (show Bx U4 U0.heap.size (frC 0 0 false ⟨#[]⟩) by rw [hU]; exact Bx.new U0 _ _)
        have hp0 := hide hHeld.size
        rw [← hU]
        refine hK.out _ _ (hHeld.trans (bU.mono hHeld.size)) (fun hHeld => ?_)
        clear hK K
        try simp only [Act.put, List.getElem_toArray, List.getElem_cons_succ, List.getElem_cons_zero, List.setIfInBounds_toArray, List.set_cons_zero, List.set_cons_succ]
        clear hU bU
        have y1 := (unhide BXX).cv
        have y2 := (unhide BXX).fz
        have yl := (unhide BXX).lt
        have F7 := hide (st7f (unhide BXX) (.int .i64 8) (.int .i64 0) (.int .i64 (p : Int)) (.int .i64 0) (.bool (decide ((q : Int) = (f2.size : Int)))) (.string (f2.extract p q)) (.slice none 0 0))
        refine wpAnyH_ready (rs := [19]) (by kernel_rfl) (by simp) ?_
        refine (AllReadyH.cons rfl (fun K hK => ?_) AllReadyH.nil)
        go_simp
        refine hK.out _ _ (hHeld.trans ((unhide F7).2.below hHeld.size (fun q hq => by have := unhide hp0; omega))) (fun hHeld => ?_)
        clear hK K
        try simp only [Act.put, List.getElem_toArray, List.getElem_cons_succ, List.getElem_cons_zero, List.setIfInBounds_toArray, List.set_cons_zero, List.set_cons_succ]
        refine wpAnyH_done (by kernel_rfl) ?_ _
        refine NoPanic.normal ?_
        have HH := hide hHeld
        clear hHeld y1 y2 yl
        go_wp2_with fail
        go_meet
        rw [unhide HNE, e9]
        exact ⟨_, rfl, (unhide F7).1, unhide HH, unhide hp0⟩
    case rest =>
      obtain ⟨p10, rfl, P10, B3, lp⟩ := hcut
      have b3 := unhide B3
      obtain ⟨A2, R2, O2, B2⟩ := unhide I1
      have ls : w.heap.size + 1 + 1 < W2.heap.size := O2.lt
      have I3 := hide (And.intro (A2.below b3) (And.intro (R2.below b3) (And.intro (O2.below b3) (B2.trans (b3.mono B2.size)))))
      clear b3 A2 R2 O2 B2 I1 B3 a1 a1l HNE HNF
      have p0 := (unhide P10).cv
      have p0l := (unhide P10).lt
      by_cases hz : nt.size = 0
      · have z1 : nt.toList = [] := (sz_nil nt).2 hz
        cases nf with
        | false =>
          have hn : nb = false := by rw [unhide HB2, decide_eq_true hz]; rfl
          have HN := hide (unhide NO hn)
          subst hn
          clear NO YES HB2
          have q1 := (unhide I3).2.1.cv
          have q1f := (unhide I3).2.1.fz
          have q1l := (unhide I3).2.1.lt
          have q2 := (unhide I3).2.2.1.cv
          have q2f := (unhide I3).2.2.1.fz
          have q2l := (unhide I3).2.2.1.lt
          go_wp2
          refine bodyPost_ret (v := .tuple #[.agg #[.int .i64 0, .int .i64 0, .string ⟨#[]⟩, .bool false], frV 0 0 false ⟨#[]⟩, .bool false]) (by simp [results, Try.results6, go_sem, q1, q2]) rfl ⟨unhide HN, ?_⟩
          repeat (refine Below.setCell ?_ (by simp <;> omega) _)
          exact (unhide I3).2.2.2
        | true =>
          have hn : nb = true := by rw [unhide HB2, decide_eq_true hz]; rfl
          have HN := hide (unhide YES hn)
          subst hn
          clear NO YES HB2
          obtain ⟨A3, R3, O3, B3⟩ := unhide I3
          obtain ⟨V5, hV5⟩ : ∃ V, V = wc.setCell ⟨w.heap.size, 1, none⟩ (.int .i64 (q : Int)) := ⟨_, rfl⟩
          have A5 := hide (show Bx V5 w.heap.size [.int .i64 f0, .int .i64 (q : Int), .string f2, .bool f3] by rw [hV5]; exact A3.set (i := 1) (by simp))
          have P5 := hide (show Bx V5 p10 (frC 8 p true nt) by rw [hV5]; exact (unhide P10).other (by omega))
          have R5 := hide (show Bx V5 (w.heap.size + 1) (outflowC outZ) by rw [hV5]; exact R3.other (by omega))
          have O5 := hide (show Bx V5 (w.heap.size + 1 + 1) (frC 0 0 false ⟨#[]⟩) by rw [hV5]; exact O3.other (by omega))
          have B5 := hide (show Below w.heap.size w V5 by rw [hV5]; exact B3.setCell (by simp) _)
          have HV5 := hide hV5
          have z4 := A3.cv
          have z4f := A3.fz
          have z4l := A3.lt
          clear A3 B3 R3 O3 hV5 I3 P10
          go_upto_region 12 with fail
          rw [← unhide HV5]
          clear HV5 z4 z4f z4l p0 p0l
          refine wp_region_held_drew (S := fun V => Bx V w.heap.size [.int .i64 f0, .int .i64 (q : Int), .string f2, .bool f3] ∧ Bx V p10 (frC 8 p true nt)) (by kernel_rfl) (⟨(unhide A5).drew, (unhide P5).drew⟩) (fun hHeld => ?_)
          refine wpAnyH_take (i := 0) (v := ?_) rfl (by kernel_rfl) (by kernel_rfl) (by kernel_rfl) (fun _ _ _ h => h) (Or.inl ⟨by rfl, ?_⟩) hHeld ?_
          rotate_left
          · intro V hSw; have y1 := hSw.1.cv; have y2 := hSw.1.lt; go_simp; rfl
          try simp only [Act.put, List.getElem_toArray, List.getElem_cons_zero, List.setIfInBounds_toArray, List.set_cons_zero, List.set_cons_succ]
          refine wpAnyH_take (i := 1) (v := ?_) rfl (by kernel_rfl) (by kernel_rfl) (by kernel_rfl) (fun _ _ _ h => h) (Or.inl ⟨by rfl, ?_⟩) hHeld ?_
          rotate_left
          · intro V hSw; have y1 := hSw.2.cv; have y2 := hSw.2.lt; go_simp; rfl
          try simp only [Act.put, List.getElem_toArray, List.getElem_cons_succ, List.getElem_cons_zero, List.setIfInBounds_toArray, List.set_cons_zero, List.set_cons_succ]
          obtain ⟨U0, hU0⟩ : ∃ U, U = V5.drew := ⟨_, rfl⟩
          replace R5 := hide (show Bx U0 (w.heap.size + 1) (outflowC outZ) by rw [hU0]; exact (unhide R5).drew)
          replace O5 := hide (show Bx U0 (w.heap.size + 1 + 1) (frC 0 0 false ⟨#[]⟩) by rw [hU0]; exact (unhide O5).drew)
          replace B5 := hide (show Below w.heap.size w U0 by rw [hU0]; exact (unhide B5).drew)
          rw [← hU0] at hHeld ⊢
          clear hU0 A5 P5
          have y1 := (unhide R5).cv
          have y2 := (unhide R5).fz
          have yl := (unhide R5).lt
          have F4 := hide (st4f (unhide R5) (.int .i64 f0) (.int .i64 (q : Int)) (.string f2) (.bool f3))
          have O6 := hide (Bx.kept (unhide O5) (unhide F4).2.size ((unhide F4).2.block _ (unhide O5).lt (by omega)))
          refine wpAnyH_ready (rs := [2]) (by kernel_rfl) (by simp) ?_
          refine (AllReadyH.cons rfl (fun K hK => ?_) AllReadyH.nil)
          go_simp
          refine hK.out _ _ (⟨Bx.kept hHeld.1 (unhide F4).2.size ((unhide F4).2.block _ hHeld.1.lt (by omega)), Bx.kept hHeld.2 (unhide F4).2.size ((unhide F4).2.block _ hHeld.2.lt (by omega))⟩) (fun hHeld => ?_)
          clear hK K
          try simp only [Act.put, List.getElem_toArray, List.getElem_cons_succ, List.getElem_cons_zero, List.setIfInBounds_toArray, List.set_cons_zero, List.set_cons_succ]
          clear y1 y2 yl
          have y1 := (unhide O6).cv
          have y2 := (unhide O6).fz
          have yl := (unhide O6).lt
          have F7 := hide (st7f (unhide O6) (.int .i64 8) (.int .i64 0) (.int .i64 (p : Int)) (.int .i64 0) (.bool true) (.string nt) (.slice none 0 0))
          have R7 := hide (Bx.kept (unhide F4).1 (unhide F7).2.size ((unhide F7).2.block _ (unhide F4).1.lt (by omega)))
          refine wpAnyH_ready (rs := [3]) (by kernel_rfl) (by simp) ?_
          refine (AllReadyH.cons rfl (fun K hK => ?_) AllReadyH.nil)
          go_simp
          refine hK.out _ _ (⟨Bx.kept hHeld.1 (unhide F7).2.size ((unhide F7).2.block _ hHeld.1.lt (by omega)), Bx.kept hHeld.2 (unhide F7).2.size ((unhide F7).2.block _ hHeld.2.lt (by omega))⟩) (fun hHeld => ?_)
          clear hK K
          try simp only [Act.put, List.getElem_toArray, List.getElem_cons_succ, List.getElem_cons_zero, List.setIfInBounds_toArray, List.set_cons_zero, List.set_cons_succ]
          refine wpAnyH_take (i := 4) (v := ?_) rfl (by kernel_rfl) (by kernel_rfl) (by kernel_rfl) (fun _ _ _ h => h) (Or.inl ⟨by rfl, ?_⟩) hHeld ?_
          rotate_left
          · intro V hSw; go_simp; rfl
          try simp only [Act.put, List.getElem_toArray, List.getElem_cons_succ, List.getElem_cons_zero, List.setIfInBounds_toArray, List.set_cons_zero, List.set_cons_succ]
          refine wpAnyH_done (by kernel_rfl) ?_ _
          clear hHeld y1 y2 yl
          go_wp2_with fail
          have c1 := (unhide R7).cv
          have c2 := (unhide F7).1.cv
          have B9 := hide ((unhide F7).2.below (base := w.heap.size) (by have := (unhide O6).lt; omega) (fun q hq => by omega))
          have B8 := hide ((unhide F4).2.below (base := w.heap.size) (by have := (unhide R5).lt; omega) (fun q hq => by omega))
          refine bodyPost_ret (v := .tuple #[.agg #[.int .i64 f0, .int .i64 (q : Int), .string f2, .bool f3], frV 8 p true nt, .bool true]) (by simp [results, Try.results6, go_sem, c1, c2]) rfl ⟨unhide HN, ?_⟩
          exact ((unhide B5).trans (unhide B8)).trans (unhide B9)
      · have z1 : ¬ nt.toList = [] := fun h => hz ((sz_nil nt).1 h)
        have z2 : nt.toList.isEmpty = false := em_no z1
        have hn : nb = true := by rw [unhide HB2, decide_eq_false hz]; rfl
        have HN := hide (unhide YES hn)
        subst hn
        clear NO YES HB2
        obtain ⟨A3, R3, O3, B3⟩ := unhide I3
        obtain ⟨V5, hV5⟩ : ∃ V, V = wc.setCell ⟨w.heap.size, 1, none⟩ (.int .i64 (q : Int)) := ⟨_, rfl⟩
        have A5 := hide (show Bx V5 w.heap.size [.int .i64 f0, .int .i64 (q : Int), .string f2, .bool f3] by rw [hV5]; exact A3.set (i := 1) (by simp))
        have P5 := hide (show Bx V5 p10 (frC 8 p nf nt) by rw [hV5]; exact (unhide P10).other (by omega))
        have R5 := hide (show Bx V5 (w.heap.size + 1) (outflowC outZ) by rw [hV5]; exact R3.other (by omega))
        have O5 := hide (show Bx V5 (w.heap.size + 1 + 1) (frC 0 0 false ⟨#[]⟩) by rw [hV5]; exact O3.other (by omega))
        have B5 := hide (show Below w.heap.size w V5 by rw [hV5]; exact B3.setCell (by simp) _)
        have HV5 := hide hV5
        have z4 := A3.cv
        have z4f := A3.fz
        have z4l := A3.lt
        clear A3 B3 R3 O3 hV5 I3 P10
        go_upto_region 12 with fail
        rw [← unhide HV5]
        clear HV5 z4 z4f z4l p0 p0l
        refine wp_region_held_drew (S := fun V => Bx V w.heap.size [.int .i64 f0, .int .i64 (q : Int), .string f2, .bool f3] ∧ Bx V p10 (frC 8 p nf nt)) (by kernel_rfl) (⟨(unhide A5).drew, (unhide P5).drew⟩) (fun hHeld => ?_)
        refine wpAnyH_take (i := 0) (v := ?_) rfl (by kernel_rfl) (by kernel_rfl) (by kernel_rfl) (fun _ _ _ h => h) (Or.inl ⟨by rfl, ?_⟩) hHeld ?_
        rotate_left
        · intro V hSw; have y1 := hSw.1.cv; have y2 := hSw.1.lt; go_simp; rfl
        try simp only [Act.put, List.getElem_toArray, List.getElem_cons_zero, List.setIfInBounds_toArray, List.set_cons_zero, List.set_cons_succ]
        refine wpAnyH_take (i := 1) (v := ?_) rfl (by kernel_rfl) (by kernel_rfl) (by kernel_rfl) (fun _ _ _ h => h) (Or.inl ⟨by rfl, ?_⟩) hHeld ?_
        rotate_left
        · intro V hSw; have y1 := hSw.2.cv; have y2 := hSw.2.lt; go_simp; rfl
        try simp only [Act.put, List.getElem_toArray, List.getElem_cons_succ, List.getElem_cons_zero, List.setIfInBounds_toArray, List.set_cons_zero, List.set_cons_succ]
        obtain ⟨U0, hU0⟩ : ∃ U, U = V5.drew := ⟨_, rfl⟩
        replace R5 := hide (show Bx U0 (w.heap.size + 1) (outflowC outZ) by rw [hU0]; exact (unhide R5).drew)
        replace O5 := hide (show Bx U0 (w.heap.size + 1 + 1) (frC 0 0 false ⟨#[]⟩) by rw [hU0]; exact (unhide O5).drew)
        replace B5 := hide (show Below w.heap.size w U0 by rw [hU0]; exact (unhide B5).drew)
        rw [← hU0] at hHeld ⊢
        clear hU0 A5 P5
        have y1 := (unhide R5).cv
        have y2 := (unhide R5).fz
        have yl := (unhide R5).lt
        have F4 := hide (st4f (unhide R5) (.int .i64 f0) (.int .i64 (q : Int)) (.string f2) (.bool f3))
        have O6 := hide (Bx.kept (unhide O5) (unhide F4).2.size ((unhide F4).2.block _ (unhide O5).lt (by omega)))
        refine wpAnyH_ready (rs := [2]) (by kernel_rfl) (by simp) ?_
        refine (AllReadyH.cons rfl (fun K hK => ?_) AllReadyH.nil)
        go_simp
        refine hK.out _ _ (⟨Bx.kept hHeld.1 (unhide F4).2.size ((unhide F4).2.block _ hHeld.1.lt (by omega)), Bx.kept hHeld.2 (unhide F4).2.size ((unhide F4).2.block _ hHeld.2.lt (by omega))⟩) (fun hHeld => ?_)
        clear hK K
        try simp only [Act.put, List.getElem_toArray, List.getElem_cons_succ, List.getElem_cons_zero, List.setIfInBounds_toArray, List.set_cons_zero, List.set_cons_succ]
        clear y1 y2 yl
        have y1 := (unhide O6).cv
        have y2 := (unhide O6).fz
        have yl := (unhide O6).lt
        have F7 := hide (st7f (unhide O6) (.int .i64 8) (.int .i64 0) (.int .i64 (p : Int)) (.int .i64 0) (.bool nf) (.string nt) (.slice none 0 0))
        have R7 := hide (Bx.kept (unhide F4).1 (unhide F7).2.size ((unhide F7).2.block _ (unhide F4).1.lt (by omega)))
        refine wpAnyH_ready (rs := [3]) (by kernel_rfl) (by simp) ?_
        refine (AllReadyH.cons rfl (fun K hK => ?_) AllReadyH.nil)
        go_simp
        refine hK.out _ _ (⟨Bx.kept hHeld.1 (unhide F7).2.size ((unhide F7).2.block _ hHeld.1.lt (by omega)), Bx.kept hHeld.2 (unhide F7).2.size ((unhide F7).2.block _ hHeld.2.lt (by omega))⟩) (fun hHeld => ?_)
        clear hK K
        try simp only [Act.put, List.getElem_toArray, List.getElem_cons_succ, List.getElem_cons_zero, List.setIfInBounds_toArray, List.set_cons_zero, List.set_cons_succ]
        refine wpAnyH_take (i := 4) (v := ?_) rfl (by kernel_rfl) (by kernel_rfl) (by kernel_rfl) (fun _ _ _ h => h) (Or.inl ⟨by rfl, ?_⟩) hHeld ?_
        rotate_left
        · intro V hSw; go_simp; rfl
        try simp only [Act.put, List.getElem_toArray, List.getElem_cons_succ, List.getElem_cons_zero, List.setIfInBounds_toArray, List.set_cons_zero, List.set_cons_succ]
        refine wpAnyH_done (by kernel_rfl) ?_ _
        clear hHeld y1 y2 yl
        go_wp2_with fail
        have c1 := (unhide R7).cv
        have c2 := (unhide F7).1.cv
        have B9 := hide ((unhide F7).2.below (base := w.heap.size) (by have := (unhide O6).lt; omega) (fun q hq => by omega))
        have B8 := hide ((unhide F4).2.below (base := w.heap.size) (by have := (unhide R5).lt; omega) (fun q hq => by omega))
        refine bodyPost_ret (v := .tuple #[.agg #[.int .i64 f0, .int .i64 (q : Int), .string f2, .bool f3], frV 8 p nf nt, .bool true]) (by simp [results, Try.results6, go_sem, c1, c2]) rfl ⟨unhide HN, ?_⟩
        exact ((unhide B5).trans (unhide B8)).trans (unhide B9)
end Go.Proofs.Ytagnkelpdgpigaa.Rc
