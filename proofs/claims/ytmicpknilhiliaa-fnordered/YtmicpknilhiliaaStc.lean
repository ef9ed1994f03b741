/-
  Contracts: where what came ends, and whether a piece clashes with it, of the model.
-/
import Derived.Test.YtmicpknilhiliaaStg
namespace Go.Proofs.Ytmicpknilhiliaa.Rc
open Go.ChangeShapes Go.WideShapes Go.ChangeAt Go.RowKit Go.Deep
set_option linter.unusedVariables false
set_option maxRecDepth 100000

theorem lE_gt {re : Int} {P : List PieceD} {n : Nat} (h : P.length = n + 1) : lE re P = pE (gt pieceK P n) := by
  unfold lE
  rw [List.getLast?_eq_getElem?, show P.length - 1 = n by omega, List.getElem?_eq_getElem (by omega), gt_of pieceK P n (by omega)]
theorem lE_nil {re : Int} {P : List PieceD} (h : P.length = 0) : lE re P = re := by
  rw [List.length_eq_zero_iff.1 h]
  rfl
theorem idx_str (s : ByteArray) (i : Int) (n : Nat) (hn : i = n) (h : n < s.size) (w : World) : (Instr.index 9 (.string s) (.int .i64 i)).run Try.prog w = .ok (.int .u8 ((s.data[n]'h).toNat : Int)) w := by
  subst hn
  rw [run_index_string w 9 s .i64 n Try.underlying9, dif_pos ⟨by omega, by omega⟩]
  rfl
/-- two bytes -/
theorem by_ne (a b : UInt8) : (((a.toNat : Nat) : Int) != ((b.toNat : Nat) : Int)) = (a != b) := by
  rw [Bool.eq_iff_iff, bne_iff_ne, bne_iff_ne]
  constructor
  · exact fun h e => h (by rw [e])
  · exact fun h e => h (UInt8.toNat_inj.1 (Int.ofNat_inj.1 e))
theorem so_ne (a b : UInt8) : ((some a : Option UInt8) != some b) = (a != b) := by
  rw [Bool.eq_iff_iff, bne_iff_ne, bne_iff_ne]
  constructor
  · exact fun h e => h (by rw [e])
  · exact fun h e => h (Option.some.inj e)
set_option maxHeartbeats 4000000 in
theorem specLE (D : InflowD) (a : Option Addr) (c : Nat) (W : World) (ok : okP D.P) (hn : D.P.length ≤ 1048576) (h : Rd pieceK W a D.P) :
    Calls Try.prog 30 #[inflowV D a c] W fun e w' => e = .returned (.int .i64 (lE D.re D.P)) ∧ Below W.heap.size W w' := by
  obtain ⟨V0, hV0⟩ : ∃ V, V = W.alloc (.cells (inflowC D a c).toArray 39) := ⟨_, rfl⟩
  have B0 : Below W.heap.size W V0 := by rw [hV0]; exact (Below.refl W.heap.size W).alloc (Nat.le_refl _) _
  have a0 := (show Bx V0 W.heap.size (inflowC D a c) by rw [hV0]; exact Bx.new W _ _).cv
  have a0l := (show Bx V0 W.heap.size (inflowC D a c) by rw [hV0]; exact Bx.new W _ _).lt
  have hR := h.below B0
  have HB := hide B0
  have HV0 := hide hV0
  clear hV0 h B0
  by_cases h0 : D.P.length = 0
  · have hg : Hid (lE D.re D.P = D.re) := lE_nil h0
    have t0 : ¬ (0 : Int) < (D.P.length : Int) := by omega
    have HR := hide hR
    rw [unhide hg]
    clear hR hg h0
    obtain ⟨li, re, fi, P⟩ := D
    dsimp only at *
    go_enter Try.func30, Try.ntmps30
    go_upto_region 1 with fail
    rw [← unhide HV0]
    clear HV0
    go_wp2
    go_ret
    exact ⟨rfl, unhide HB⟩
  · obtain ⟨n, hn1⟩ : ∃ n, D.P.length = n + 1 := ⟨D.P.length - 1, by omega⟩
    have hg : Hid (lE D.re D.P = pE (gt pieceK D.P n)) := lE_gt hn1
    rcases hR with h9 | ⟨b, o, rfl, hbl, hel⟩
    · rw [h9] at hn1; cases hn1
    have c0 := piece_r0 hel (show n < D.P.length by omega)
    have c1 := piece_r1 hel (show n < D.P.length by omega)
    obtain ⟨⟨x0, x1⟩, x2⟩ := ok _ (gt_mem pieceK D.P n (by omega))
    have hpE : Hid (pE (gt pieceK D.P n) = (gt pieceK D.P n).f0 + (gt pieceK D.P n).f1.size) := rfl
    rw [unhide hg]
    generalize gt pieceK D.P n = x at *
    rw [unhide hpE]
    have hw : IntKind.i64.wrap (x.f0 + (x.f1.size : Int)) = x.f0 + (x.f1.size : Int) := by rw [IntKind.wrap_i64]; omega
    clear hel hg ok hpE h0
    obtain ⟨li, re, fi, P⟩ := D
    dsimp only at *
    have tn : (0 : Int) < (P.length : Int) := by omega
    have m1 : IntKind.i64.wrap ((P.length : Int) - 1) = (n : Int) := by rw [IntKind.wrap_i64]; omega
    have n0 : (0 : Int) ≤ (n : Int) := by omega
    have nm : (n : Int) < (P.length : Int) := by omega
    clear hn1
    go_enter Try.func30, Try.ntmps30
    go_upto_region 1 with fail
    rw [← unhide HV0]
    clear HV0
    go_upto_region 3 with fail
    go_quiet (fail)
    all_goals
      go_wp2
      go_ret
      exact ⟨rfl, below_drewN (unhide HB) _⟩
set_option maxHeartbeats 16000000 in
theorem specCB (D : InflowD) (a : Option Addr) (c : Nat) (at' : Int) (d : ByteArray) (W : World) (ok : okP D.P) (hn : D.P.length ≤ 1048576) (a0 : 0 ≤ at') (a1 : at' ≤ 4611686018427387904) (d1 : d.size ≤ 1099511627776) (h : Rd pieceK W a D.P) :
    Calls Try.prog 31 #[inflowV D a c, .int .i64 at', .string d] W fun e w' => e = .returned (.bool (clB D.P at' d)) ∧ Below W.heap.size W w' := by
  obtain ⟨V0, hV0⟩ : ∃ V, V = W.alloc (.cells (inflowC D a c).toArray 39) := ⟨_, rfl⟩
  have B0 := hide (show Below W.heap.size W V0 by rw [hV0]; exact (Below.refl W.heap.size W).alloc (Nat.le_refl _) _)
  have ac := (show Bx V0 W.heap.size (inflowC D a c) by rw [hV0]; exact Bx.new W _ _).cv
  have al := (show Bx V0 W.heap.size (inflowC D a c) by rw [hV0]; exact Bx.new W _ _).lt
  have HR := hide (fun V (b : Below W.heap.size W V) => h.below b)
  have HV0 := hide hV0
  have HOK := hide ok
  obtain ⟨g, hg⟩ : ∃ g, clB D.P at' d = g := ⟨_, rfl⟩
  have HG : Hid (g = clB (D.P.drop 0) at' d) := hg.symm
  rw [hg]
  clear hV0 h ok hg
  obtain ⟨li, re, fi, P⟩ := D
  dsimp only at *
  go_enter Try.func31, Try.ntmps31
  go_upto_region 1 with fail
  rw [← unhide HV0]
  clear HV0
  go_wp2_with fail
  clear ac al
  go_loopw [14] (fun iv wr => ∃ k : Nat, k ≤ P.length ∧ iv = .int .i64 k ∧ Hid (g = clB (P.drop k) at' d) ∧ Hid (Below W.heap.size W wr)) (fun iv _ => P.length - (intOf iv).toNat)
  case atStart => exact ⟨0, Nat.zero_le _, rfl, HG, B0⟩
  case round =>
    obtain ⟨k, hk, rfl, hg, hB⟩ := hrel
    clear HG B0
    by_cases hlt : k < P.length
    · rcases unhide HR wr (unhide hB) with h9 | ⟨b, o, rfl, _, hel⟩
      · rw [h9] at hlt; exact absurd hlt (Nat.not_lt_zero _)
      have c0 := piece_r0 hel hlt
      have c1 := piece_r1 hel hlt
      obtain ⟨⟨x0, x1⟩, x2⟩ := unhide HOK _ (gt_mem pieceK P k hlt)
      have HD : Hid (g = (clP (gt pieceK P k) at' d || clB (P.drop (k + 1)) at' d)) := by show _ = _; rw [unhide hg, dropP hlt]; rfl
      generalize gt pieceK P k = x at *
      obtain ⟨W1, hW1⟩ : ∃ V, V = wr.alloc (.cells #[.int .i64 x.f0, .string x.f1] 53) := ⟨_, rfl⟩
      have al1 : Below wr.heap.size wr W1 := by rw [hW1]; exact (Below.refl _ _).alloc (Nat.le_refl _) _
      have Y1 := hide (show Bx W1 wr.heap.size (pieceC x) by rw [hW1]; exact Bx.new wr _ _)
      have B1 := hide ((unhide hB).trans (al1.mono (unhide hB).size))
      have HW1 := hide hW1
      have hnk : (k : Int) < (P.length : Int) := by omega
      have hk0 : (0 : Int) ≤ (k : Int) := by omega
      obtain ⟨pb, hpb⟩ : ∃ p, p = wr.heap.size := ⟨_, rfl⟩
      rw [← hpb] at Y1
      clear al1 hW1 hel hg hB
      go_upto_region 4 with fail
      rw [← unhide HW1, ← hpb]
      clear HW1 c0 c1 hpb
      go_wp2_with fail
      go_loopw [9] (fun iv wr => ∃ i : Nat, i ≤ x.f1.size ∧ iv = .int .i64 i ∧ Hid (∀ j, j < i → cl1 x at' d j = false) ∧ Hid (Below W.heap.size W wr) ∧ Hid (Bx wr pb (pieceC x))) (fun iv _ => x.f1.size - (intOf iv).toNat)
      case atStart => exact ⟨0, Nat.zero_le _, rfl, hide (fun j hj => absurd hj (Nat.not_lt_zero _)), B1, Y1⟩
      case round =>
        obtain ⟨i, hi, rfl, HF, CB, P1⟩ := hrel
        clear B1 Y1
        have y1 := (unhide P1).cv
        have y1l := (unhide P1).lt
        by_cases hli : i < x.f1.size
        · have w1 : IntKind.i64.wrap (x.f0 + (i : Int)) = x.f0 + (i : Int) := by rw [IntKind.wrap_i64]; omega
          have w2 : IntKind.i64.wrap (x.f0 + (i : Int) - at') = x.f0 + (i : Int) - at' := by rw [IntKind.wrap_i64]; omega
          have hni : (i : Int) < (x.f1.size : Int) := by omega
          have hi0 : (0 : Int) ≤ (i : Int) := by omega
          go_upto_region 8 with fail
          obtain ⟨kk, hkk⟩ : ∃ kk : Int, kk = x.f0 + (i : Int) - at' := ⟨_, rfl⟩
          rw [← hkk]
          have HK := hide hkk
          clear hkk w1 w2
          by_cases hk1 : 0 ≤ kk
          · by_cases hk2 : kk < d.size
            · obtain ⟨n, hn9⟩ : ∃ n : Nat, kk = n := ⟨kk.toNat, by omega⟩
              subst hn9
              have hnd : n < d.size := by omega
              have I1 := hide (idx_str d n n rfl hnd)
              have I2 := hide (idx_str x.f1 i i rfl hli)
              have e1 : cl1 x at' d i = ((d.data[n]'hnd) != (x.f1.data[i]'hli)) := by
                unfold cl1
                rw [← unhide HK, decide_eq_true hk1, decide_eq_true hk2, show ((n : Int)).toNat = n from rfl, Array.getElem?_eq_getElem hnd, Array.getElem?_eq_getElem hli, so_ne]
                rfl
              rw [← by_ne] at e1
              have E1 := hide e1
              generalize (((d.data[n]'hnd).toNat : Nat) : Int) = b1 at *
              generalize (((x.f1.data[i]'hli).toNat : Nat) : Int) = b2 at *
              have J1 := unhide I1
              have J2 := unhide I2
              have q1 : decide ((0 : Int) ≤ (n : Int)) = true := decide_eq_true (by omega)
              have q2 : decide ((n : Int) < (d.size : Int)) = true := decide_eq_true (by omega)
              clear e1 I1 I2 y1
              refine wp_region_noPanic ?_
              refine wp_region_held_drew (S := fun V => Below wr.heap.size wr V) (by kernel_rfl) ((Below.refl _ _).drew) (fun hHeld => ?_)
              refine wpAnyH_take (i := 0) (v := ?_) rfl (by kernel_rfl) (by kernel_rfl) (by kernel_rfl) (fun _ _ _ h => h) (Or.inl ⟨by rfl, ?_⟩) hHeld ?_
              rotate_left
              · intro V hSw; go_simp; rfl
              try simp only [Act.put, List.getElem_toArray, List.getElem_cons_zero, List.setIfInBounds_toArray, List.set_cons_zero, List.set_cons_succ]
              refine wpAnyH_take (i := 1) (v := ?_) rfl (by kernel_rfl) (by kernel_rfl) (by kernel_rfl) (fun _ _ _ h => h) (Or.inl ⟨by rfl, ?_⟩) hHeld ?_
              rotate_left
              · intro V hSw; go_simp; rfl
              try simp only [Act.put, List.getElem_toArray, List.getElem_cons_succ, List.getElem_cons_zero, List.setIfInBounds_toArray, List.set_cons_zero, List.set_cons_succ]
              refine wpAnyH_take (i := 2) (v := ?_) rfl (by kernel_rfl) (by kernel_rfl) (by kernel_rfl) (fun _ _ _ h => h) (Or.inl ⟨by rfl, ?_⟩) hHeld ?_
              rotate_left
              · intro V hSw; go_simp; rfl
              try simp only [Act.put, List.getElem_toArray, List.getElem_cons_succ, List.getElem_cons_zero, List.setIfInBounds_toArray, List.set_cons_zero, List.set_cons_succ]
              refine wpAnyH_take (i := 3) (v := ?_) rfl (by kernel_rfl) (by kernel_rfl) (by kernel_rfl) (fun _ _ _ h => h) (Or.inl ⟨by rfl, ?_⟩) hHeld ?_
              rotate_left
              · intro V hSw; go_simp; rfl
              try simp only [Act.put, List.getElem_toArray, List.getElem_cons_succ, List.getElem_cons_zero, List.setIfInBounds_toArray, List.set_cons_zero, List.set_cons_succ]
              refine wpAnyH_take (i := 4) (v := ?_) rfl (by kernel_rfl) (by kernel_rfl) (by kernel_rfl) (fun _ _ _ h => h) (Or.inl ⟨by rfl, ?_⟩) hHeld ?_
              rotate_left
              · intro V hSw; go_simp; rfl
              try simp only [Act.put, List.getElem_toArray, List.getElem_cons_succ, List.getElem_cons_zero, List.setIfInBounds_toArray, List.set_cons_zero, List.set_cons_succ]
              refine wpAnyH_take (i := 5) (v := ?_) rfl (by kernel_rfl) (by kernel_rfl) (by kernel_rfl) (fun _ _ _ h => h) (Or.inl ⟨by rfl, ?_⟩) hHeld ?_
              rotate_left
              · intro V hSw; go_simp; rfl
              try simp only [Act.put, List.getElem_toArray, List.getElem_cons_succ, List.getElem_cons_zero, List.setIfInBounds_toArray, List.set_cons_zero, List.set_cons_succ]
              refine wpAnyH_take (i := 6) (v := ?_) rfl (by kernel_rfl) (by kernel_rfl) (by kernel_rfl) (fun _ _ _ h => h) (Or.inl ⟨by rfl, ?_⟩) hHeld ?_
              rotate_left
              · intro V hSw; go_simp; rfl
              try simp only [Act.put, List.getElem_toArray, List.getElem_cons_succ, List.getElem_cons_zero, List.setIfInBounds_toArray, List.set_cons_zero, List.set_cons_succ]
              refine wpAnyH_take (i := 7) (v := ?_) rfl (by kernel_rfl) (by kernel_rfl) (by kernel_rfl) (fun _ _ _ h => h) (Or.inl ⟨by rfl, ?_⟩) hHeld ?_
              rotate_left
              · intro V hSw; go_simp; rfl
              try simp only [Act.put, List.getElem_toArray, List.getElem_cons_succ, List.getElem_cons_zero, List.setIfInBounds_toArray, List.set_cons_zero, List.set_cons_succ]
              refine wpAnyH_take (i := 8) (v := ?_) rfl (by kernel_rfl) (by kernel_rfl) (by kernel_rfl) (fun _ _ _ h => h) (Or.inl ⟨by rfl, ?_⟩) hHeld ?_
              rotate_left
              · intro V hSw; go_simp; rfl
              try simp only [Act.put, List.getElem_toArray, List.getElem_cons_succ, List.getElem_cons_zero, List.setIfInBounds_toArray, List.set_cons_zero, List.set_cons_succ]
              refine wpAnyH_take (i := 9) (v := ?_) rfl (by kernel_rfl) (by kernel_rfl) (by kernel_rfl) (fun _ _ _ h => h) (Or.inl ⟨by rfl, ?_⟩) hHeld ?_
              rotate_left
              · intro V hSw; go_simp; rfl
              try simp only [Act.put, List.getElem_toArray, List.getElem_cons_succ, List.getElem_cons_zero, List.setIfInBounds_toArray, List.set_cons_zero, List.set_cons_succ]
              refine wpAnyH_take (i := 10) (v := ?_) rfl (by kernel_rfl) (by kernel_rfl) (by kernel_rfl) (fun _ _ _ h => h) (Or.inl ⟨by rfl, ?_⟩) hHeld ?_
              rotate_left
              · intro V hSw; go_simp; rfl
              try simp only [Act.put, List.getElem_toArray, List.getElem_cons_succ, List.getElem_cons_zero, List.setIfInBounds_toArray, List.set_cons_zero, List.set_cons_succ]
              refine wpAnyH_take (i := 11) (v := ?_) rfl (by kernel_rfl) (by kernel_rfl) (by kernel_rfl) (fun _ _ _ h => h) (Or.inl ⟨by rfl, ?_⟩) hHeld ?_
              rotate_left
              · intro V hSw; go_simp; rfl
              try simp only [Act.put, List.getElem_toArray, List.getElem_cons_succ, List.getElem_cons_zero, List.setIfInBounds_toArray, List.set_cons_zero, List.set_cons_succ]
              refine wpAnyH_take (i := 12) (v := ?_) rfl (by kernel_rfl) (by kernel_rfl) (by kernel_rfl) (fun _ _ _ h => h) (Or.inl ⟨by rfl, ?_⟩) hHeld ?_
              rotate_left
              · intro V hSw; have y1 := (Bx.below (unhide P1) hSw).cv; have y2 := (Bx.below (unhide P1) hSw).lt; go_simp; rfl
              try simp only [Act.put, List.getElem_toArray, List.getElem_cons_succ, List.getElem_cons_zero, List.setIfInBounds_toArray, List.set_cons_zero, List.set_cons_succ]
              refine wpAnyH_take (i := 13) (v := ?_) rfl (by kernel_rfl) (by kernel_rfl) (by kernel_rfl) (fun _ _ _ h => h) (Or.inl ⟨by rfl, ?_⟩) hHeld ?_
              rotate_left
              · intro V hSw; have y1 := (Bx.below (unhide P1) hSw).cv; have y2 := (Bx.below (unhide P1) hSw).lt; go_simp; rfl
              try simp only [Act.put, List.getElem_toArray, List.getElem_cons_succ, List.getElem_cons_zero, List.setIfInBounds_toArray, List.set_cons_zero, List.set_cons_succ]
              refine wpAnyH_take (i := 14) (v := ?_) rfl (by kernel_rfl) (by kernel_rfl) (by kernel_rfl) (fun _ _ _ h => h) (Or.inl ⟨by rfl, ?_⟩) hHeld ?_
              rotate_left
              · intro V hSw; go_simp; rfl
              try simp only [Act.put, List.getElem_toArray, List.getElem_cons_succ, List.getElem_cons_zero, List.setIfInBounds_toArray, List.set_cons_zero, List.set_cons_succ]
              refine wpAnyH_take (i := 15) (v := ?_) rfl (by kernel_rfl) (by kernel_rfl) (by kernel_rfl) (fun _ _ _ h => h) (Or.inl ⟨by rfl, ?_⟩) hHeld ?_
              rotate_left
              · intro V hSw; go_simp; rfl
              try simp only [Act.put, List.getElem_toArray, List.getElem_cons_succ, List.getElem_cons_zero, List.setIfInBounds_toArray, List.set_cons_zero, List.set_cons_succ]
              refine wpAnyH_take (i := 16) (v := ?_) rfl (by kernel_rfl) (by kernel_rfl) (by kernel_rfl) (fun _ _ _ h => h) (Or.inl ⟨by rfl, ?_⟩) hHeld ?_
              rotate_left
              · intro V hSw; go_simp; rfl
              try simp only [Act.put, List.getElem_toArray, List.getElem_cons_succ, List.getElem_cons_zero, List.setIfInBounds_toArray, List.set_cons_zero, List.set_cons_succ]
              refine wpAnyH_take (i := 17) (v := ?_) rfl (by kernel_rfl) (by kernel_rfl) (by kernel_rfl) (fun _ _ _ h => h) (Or.inl ⟨by rfl, ?_⟩) hHeld ?_
              rotate_left
              · intro V hSw; go_simp; rfl
              try simp only [Act.put, List.getElem_toArray, List.getElem_cons_succ, List.getElem_cons_zero, List.setIfInBounds_toArray, List.set_cons_zero, List.set_cons_succ]
              refine wpAnyH_done (by kernel_rfl) ?_ _
              refine NoPanic.normal ?_
              clear hHeld
              cases hb : (b1 != b2) with
              | true =>
                have hg : Hid (g = true) := by show _ = _; rw [unhide HD]; unfold clP; rw [(List.any_eq_true (p := cl1 x at' d)).2 ⟨i, List.mem_range.2 hli, (unhide E1).trans hb⟩, Bool.true_or]
                have CB' := hide (unhide CB).drew
                clear HD CB J1 J2
                go_wp2
                go_ret
                exact ⟨(congrArg (fun b => Ending.returned (Value.bool b)) (unhide hg)).symm, unhide CB'⟩
              | false =>
                have HF' := hide (fun j (hj : j < i + 1) => if h : j < i then unhide HF j h else (show j = i by omega) ▸ (unhide E1).trans hb)
                have CB' := hide (unhide CB).drew
                have P1' := hide (unhide P1).drew
                clear CB J1 J2 HF
                go_wp2
                exact ⟨⟨i + 1, by omega, by go_num, HF', CB', P1'⟩, by simp [intOf]; omega⟩
            · have q1 : decide ((0 : Int) ≤ kk) = true := decide_eq_true hk1
              have q2 : decide (kk < (d.size : Int)) = false := decide_eq_false hk2
              have e1 : cl1 x at' d i = false := by unfold cl1; rw [← unhide HK, decide_eq_false hk2, Bool.and_false, Bool.false_and]
              have HF' := hide (fun j (hj : j < i + 1) => if h : j < i then unhide HF j h else (show j = i by omega) ▸ e1)
              have CB' := hide (unhide CB).drew
              have P1' := hide (unhide P1).drew
              clear e1 y1
              refine wp_region_noPanic ?_
              refine wp_region_held_drew (S := fun V => Below wr.heap.size wr V) (by kernel_rfl) ((Below.refl _ _).drew) (fun hHeld => ?_)
              refine wpAnyH_take (i := 0) (v := ?_) rfl (by kernel_rfl) (by kernel_rfl) (by kernel_rfl) (fun _ _ _ h => h) (Or.inl ⟨by rfl, ?_⟩) hHeld ?_
              rotate_left
              · intro V hSw; go_simp; rfl
              try simp only [Act.put, List.getElem_toArray, List.getElem_cons_zero, List.setIfInBounds_toArray, List.set_cons_zero, List.set_cons_succ]
              refine wpAnyH_take (i := 1) (v := ?_) rfl (by kernel_rfl) (by kernel_rfl) (by kernel_rfl) (fun _ _ _ h => h) (Or.inl ⟨by rfl, ?_⟩) hHeld ?_
              rotate_left
              · intro V hSw; go_simp; rfl
              try simp only [Act.put, List.getElem_toArray, List.getElem_cons_succ, List.getElem_cons_zero, List.setIfInBounds_toArray, List.set_cons_zero, List.set_cons_succ]
              refine wpAnyH_take (i := 2) (v := ?_) rfl (by kernel_rfl) (by kernel_rfl) (by kernel_rfl) (fun _ _ _ h => h) (Or.inl ⟨by rfl, ?_⟩) hHeld ?_
              rotate_left
              · intro V hSw; go_simp; rfl
              try simp only [Act.put, List.getElem_toArray, List.getElem_cons_succ, List.getElem_cons_zero, List.setIfInBounds_toArray, List.set_cons_zero, List.set_cons_succ]
              refine wpAnyH_take (i := 3) (v := ?_) rfl (by kernel_rfl) (by kernel_rfl) (by kernel_rfl) (fun _ _ _ h => h) (Or.inl ⟨by rfl, ?_⟩) hHeld ?_
              rotate_left
              · intro V hSw; go_simp; rfl
              try simp only [Act.put, List.getElem_toArray, List.getElem_cons_succ, List.getElem_cons_zero, List.setIfInBounds_toArray, List.set_cons_zero, List.set_cons_succ]
              refine wpAnyH_take (i := 4) (v := ?_) rfl (by kernel_rfl) (by kernel_rfl) (by kernel_rfl) (fun _ _ _ h => h) (Or.inl ⟨by rfl, ?_⟩) hHeld ?_
              rotate_left
              · intro V hSw; go_simp; rfl
              try simp only [Act.put, List.getElem_toArray, List.getElem_cons_succ, List.getElem_cons_zero, List.setIfInBounds_toArray, List.set_cons_zero, List.set_cons_succ]
              refine wpAnyH_take (i := 5) (v := ?_) rfl (by kernel_rfl) (by kernel_rfl) (by kernel_rfl) (fun _ _ _ h => h) (Or.inl ⟨by rfl, ?_⟩) hHeld ?_
              rotate_left
              · intro V hSw; go_simp; rfl
              try simp only [Act.put, List.getElem_toArray, List.getElem_cons_succ, List.getElem_cons_zero, List.setIfInBounds_toArray, List.set_cons_zero, List.set_cons_succ]
              refine wpAnyH_take (i := 6) (v := ?_) rfl (by kernel_rfl) (by kernel_rfl) (by kernel_rfl) (fun _ _ _ h => h) (Or.inl ⟨by rfl, ?_⟩) hHeld ?_
              rotate_left
              · intro V hSw; go_simp; rfl
              try simp only [Act.put, List.getElem_toArray, List.getElem_cons_succ, List.getElem_cons_zero, List.setIfInBounds_toArray, List.set_cons_zero, List.set_cons_succ]
              refine wpAnyH_take (i := 7) (v := ?_) rfl (by kernel_rfl) (by kernel_rfl) (by kernel_rfl) (fun _ _ _ h => h) (Or.inl ⟨by rfl, ?_⟩) hHeld ?_
              rotate_left
              · intro V hSw; go_simp; rfl
              try simp only [Act.put, List.getElem_toArray, List.getElem_cons_succ, List.getElem_cons_zero, List.setIfInBounds_toArray, List.set_cons_zero, List.set_cons_succ]
              refine wpAnyH_take (i := 8) (v := ?_) rfl (by kernel_rfl) (by kernel_rfl) (by kernel_rfl) (fun _ _ _ h => h) (Or.inl ⟨by rfl, ?_⟩) hHeld ?_
              rotate_left
              · intro V hSw; go_simp; rfl
              try simp only [Act.put, List.getElem_toArray, List.getElem_cons_succ, List.getElem_cons_zero, List.setIfInBounds_toArray, List.set_cons_zero, List.set_cons_succ]
              refine wpAnyH_take (i := 9) (v := undef) rfl (by kernel_rfl) (by kernel_rfl) (by kernel_rfl) (fun _ _ _ h => h) (Or.inr ⟨by rfl, rfl⟩) hHeld ?_
              try simp only [Act.put, List.getElem_toArray, List.getElem_cons_succ, List.getElem_cons_zero, List.setIfInBounds_toArray, List.set_cons_zero, List.set_cons_succ]
              refine wpAnyH_take (i := 10) (v := undef) rfl (by kernel_rfl) (by kernel_rfl) (by kernel_rfl) (fun _ _ _ h => h) (Or.inr ⟨by rfl, rfl⟩) hHeld ?_
              try simp only [Act.put, List.getElem_toArray, List.getElem_cons_succ, List.getElem_cons_zero, List.setIfInBounds_toArray, List.set_cons_zero, List.set_cons_succ]
              refine wpAnyH_take (i := 11) (v := undef) rfl (by kernel_rfl) (by kernel_rfl) (by kernel_rfl) (fun _ _ _ h => h) (Or.inr ⟨by rfl, rfl⟩) hHeld ?_
              try simp only [Act.put, List.getElem_toArray, List.getElem_cons_succ, List.getElem_cons_zero, List.setIfInBounds_toArray, List.set_cons_zero, List.set_cons_succ]
              refine wpAnyH_take (i := 12) (v := undef) rfl (by kernel_rfl) (by kernel_rfl) (by kernel_rfl) (fun _ _ _ h => h) (Or.inr ⟨by rfl, rfl⟩) hHeld ?_
              try simp only [Act.put, List.getElem_toArray, List.getElem_cons_succ, List.getElem_cons_zero, List.setIfInBounds_toArray, List.set_cons_zero, List.set_cons_succ]
              refine wpAnyH_take (i := 13) (v := undef) rfl (by kernel_rfl) (by kernel_rfl) (by kernel_rfl) (fun _ _ _ h => h) (Or.inr ⟨by rfl, rfl⟩) hHeld ?_
              try simp only [Act.put, List.getElem_toArray, List.getElem_cons_succ, List.getElem_cons_zero, List.setIfInBounds_toArray, List.set_cons_zero, List.set_cons_succ]
              refine wpAnyH_take (i := 14) (v := undef) rfl (by kernel_rfl) (by kernel_rfl) (by kernel_rfl) (fun _ _ _ h => h) (Or.inr ⟨by rfl, rfl⟩) hHeld ?_
              try simp only [Act.put, List.getElem_toArray, List.getElem_cons_succ, List.getElem_cons_zero, List.setIfInBounds_toArray, List.set_cons_zero, List.set_cons_succ]
              refine wpAnyH_take (i := 15) (v := undef) rfl (by kernel_rfl) (by kernel_rfl) (by kernel_rfl) (fun _ _ _ h => h) (Or.inr ⟨by rfl, rfl⟩) hHeld ?_
              try simp only [Act.put, List.getElem_toArray, List.getElem_cons_succ, List.getElem_cons_zero, List.setIfInBounds_toArray, List.set_cons_zero, List.set_cons_succ]
              refine wpAnyH_take (i := 16) (v := undef) rfl (by kernel_rfl) (by kernel_rfl) (by kernel_rfl) (fun _ _ _ h => h) (Or.inr ⟨by rfl, rfl⟩) hHeld ?_
              try simp only [Act.put, List.getElem_toArray, List.getElem_cons_succ, List.getElem_cons_zero, List.setIfInBounds_toArray, List.set_cons_zero, List.set_cons_succ]
              refine wpAnyH_take (i := 17) (v := ?_) rfl (by kernel_rfl) (by kernel_rfl) (by kernel_rfl) (fun _ _ _ h => h) (Or.inl ⟨by rfl, ?_⟩) hHeld ?_
              rotate_left
              · intro V hSw; go_simp; rfl
              try simp only [Act.put, List.getElem_toArray, List.getElem_cons_succ, List.getElem_cons_zero, List.setIfInBounds_toArray, List.set_cons_zero, List.set_cons_succ]
              refine wpAnyH_done (by kernel_rfl) ?_ _
              refine NoPanic.normal ?_
              clear hHeld
              clear CB HF
              go_wp2
              exact ⟨⟨i + 1, by omega, by go_num, HF', CB', P1'⟩, by simp [intOf]; omega⟩
          · have q1 : decide ((0 : Int) ≤ kk) = false := decide_eq_false hk1
            have e1 : cl1 x at' d i = false := by unfold cl1; rw [← unhide HK, decide_eq_false hk1, Bool.false_and, Bool.false_and]
            have HF' := hide (fun j (hj : j < i + 1) => if h : j < i then unhide HF j h else (show j = i by omega) ▸ e1)
            have CB' := hide (unhide CB).drew
            have P1' := hide (unhide P1).drew
            clear e1 y1
            refine wp_region_noPanic ?_
            refine wp_region_held_drew (S := fun V => Below wr.heap.size wr V) (by kernel_rfl) ((Below.refl _ _).drew) (fun hHeld => ?_)
            refine wpAnyH_take (i := 0) (v := ?_) rfl (by kernel_rfl) (by kernel_rfl) (by kernel_rfl) (fun _ _ _ h => h) (Or.inl ⟨by rfl, ?_⟩) hHeld ?_
            rotate_left
            · intro V hSw; go_simp; rfl
            try simp only [Act.put, List.getElem_toArray, List.getElem_cons_zero, List.setIfInBounds_toArray, List.set_cons_zero, List.set_cons_succ]
            refine wpAnyH_take (i := 1) (v := ?_) rfl (by kernel_rfl) (by kernel_rfl) (by kernel_rfl) (fun _ _ _ h => h) (Or.inl ⟨by rfl, ?_⟩) hHeld ?_
            rotate_left
            · intro V hSw; go_simp; rfl
            try simp only [Act.put, List.getElem_toArray, List.getElem_cons_succ, List.getElem_cons_zero, List.setIfInBounds_toArray, List.set_cons_zero, List.set_cons_succ]
            refine wpAnyH_take (i := 2) (v := ?_) rfl (by kernel_rfl) (by kernel_rfl) (by kernel_rfl) (fun _ _ _ h => h) (Or.inl ⟨by rfl, ?_⟩) hHeld ?_
            rotate_left
            · intro V hSw; go_simp; rfl
            try simp only [Act.put, List.getElem_toArray, List.getElem_cons_succ, List.getElem_cons_zero, List.setIfInBounds_toArray, List.set_cons_zero, List.set_cons_succ]
            refine wpAnyH_take (i := 3) (v := undef) rfl (by kernel_rfl) (by kernel_rfl) (by kernel_rfl) (fun _ _ _ h => h) (Or.inr ⟨by rfl, rfl⟩) hHeld ?_
            try simp only [Act.put, List.getElem_toArray, List.getElem_cons_succ, List.getElem_cons_zero, List.setIfInBounds_toArray, List.set_cons_zero, List.set_cons_succ]
            refine wpAnyH_take (i := 4) (v := undef) rfl (by kernel_rfl) (by kernel_rfl) (by kernel_rfl) (fun _ _ _ h => h) (Or.inr ⟨by rfl, rfl⟩) hHeld ?_
            try simp only [Act.put, List.getElem_toArray, List.getElem_cons_succ, List.getElem_cons_zero, List.setIfInBounds_toArray, List.set_cons_zero, List.set_cons_succ]
            refine wpAnyH_take (i := 5) (v := undef) rfl (by kernel_rfl) (by kernel_rfl) (by kernel_rfl) (fun _ _ _ h => h) (Or.inr ⟨by rfl, rfl⟩) hHeld ?_
            try simp only [Act.put, List.getElem_toArray, List.getElem_cons_succ, List.getElem_cons_zero, List.setIfInBounds_toArray, List.set_cons_zero, List.set_cons_succ]
            refine wpAnyH_take (i := 6) (v := undef) rfl (by kernel_rfl) (by kernel_rfl) (by kernel_rfl) (fun _ _ _ h => h) (Or.inr ⟨by rfl, rfl⟩) hHeld ?_
            try simp only [Act.put, List.getElem_toArray, List.getElem_cons_succ, List.getElem_cons_zero, List.setIfInBounds_toArray, List.set_cons_zero, List.set_cons_succ]
            refine wpAnyH_take (i := 7) (v := ?_) rfl (by kernel_rfl) (by kernel_rfl) (by kernel_rfl) (fun _ _ _ h => h) (Or.inl ⟨by rfl, ?_⟩) hHeld ?_
            rotate_left
            · intro V hSw; go_simp; rfl
            try simp only [Act.put, List.getElem_toArray, List.getElem_cons_succ, List.getElem_cons_zero, List.setIfInBounds_toArray, List.set_cons_zero, List.set_cons_succ]
            refine wpAnyH_take (i := 8) (v := ?_) rfl (by kernel_rfl) (by kernel_rfl) (by kernel_rfl) (fun _ _ _ h => h) (Or.inl ⟨by rfl, ?_⟩) hHeld ?_
            rotate_left
            · intro V hSw; go_simp; rfl
            try simp only [Act.put, List.getElem_toArray, List.getElem_cons_succ, List.getElem_cons_zero, List.setIfInBounds_toArray, List.set_cons_zero, List.set_cons_succ]
            refine wpAnyH_take (i := 9) (v := undef) rfl (by kernel_rfl) (by kernel_rfl) (by kernel_rfl) (fun _ _ _ h => h) (Or.inr ⟨by rfl, rfl⟩) hHeld ?_
            try simp only [Act.put, List.getElem_toArray, List.getElem_cons_succ, List.getElem_cons_zero, List.setIfInBounds_toArray, List.set_cons_zero, List.set_cons_succ]
            refine wpAnyH_take (i := 10) (v := undef) rfl (by kernel_rfl) (by kernel_rfl) (by kernel_rfl) (fun _ _ _ h => h) (Or.inr ⟨by rfl, rfl⟩) hHeld ?_
            try simp only [Act.put, List.getElem_toArray, List.getElem_cons_succ, List.getElem_cons_zero, List.setIfInBounds_toArray, List.set_cons_zero, List.set_cons_succ]
            refine wpAnyH_take (i := 11) (v := undef) rfl (by kernel_rfl) (by kernel_rfl) (by kernel_rfl) (fun _ _ _ h => h) (Or.inr ⟨by rfl, rfl⟩) hHeld ?_
            try simp only [Act.put, List.getElem_toArray, List.getElem_cons_succ, List.getElem_cons_zero, List.setIfInBounds_toArray, List.set_cons_zero, List.set_cons_succ]
            refine wpAnyH_take (i := 12) (v := undef) rfl (by kernel_rfl) (by kernel_rfl) (by kernel_rfl) (fun _ _ _ h => h) (Or.inr ⟨by rfl, rfl⟩) hHeld ?_
            try simp only [Act.put, List.getElem_toArray, List.getElem_cons_succ, List.getElem_cons_zero, List.setIfInBounds_toArray, List.set_cons_zero, List.set_cons_succ]
            refine wpAnyH_take (i := 13) (v := undef) rfl (by kernel_rfl) (by kernel_rfl) (by kernel_rfl) (fun _ _ _ h => h) (Or.inr ⟨by rfl, rfl⟩) hHeld ?_
            try simp only [Act.put, List.getElem_toArray, List.getElem_cons_succ, List.getElem_cons_zero, List.setIfInBounds_toArray, List.set_cons_zero, List.set_cons_succ]
            refine wpAnyH_take (i := 14) (v := undef) rfl (by kernel_rfl) (by kernel_rfl) (by kernel_rfl) (fun _ _ _ h => h) (Or.inr ⟨by rfl, rfl⟩) hHeld ?_
            try simp only [Act.put, List.getElem_toArray, List.getElem_cons_succ, List.getElem_cons_zero, List.setIfInBounds_toArray, List.set_cons_zero, List.set_cons_succ]
            refine wpAnyH_take (i := 15) (v := undef) rfl (by kernel_rfl) (by kernel_rfl) (by kernel_rfl) (fun _ _ _ h => h) (Or.inr ⟨by rfl, rfl⟩) hHeld ?_
            try simp only [Act.put, List.getElem_toArray, List.getElem_cons_succ, List.getElem_cons_zero, List.setIfInBounds_toArray, List.set_cons_zero, List.set_cons_succ]
            refine wpAnyH_take (i := 16) (v := undef) rfl (by kernel_rfl) (by kernel_rfl) (by kernel_rfl) (fun _ _ _ h => h) (Or.inr ⟨by rfl, rfl⟩) hHeld ?_
            try simp only [Act.put, List.getElem_toArray, List.getElem_cons_succ, List.getElem_cons_zero, List.setIfInBounds_toArray, List.set_cons_zero, List.set_cons_succ]
            refine wpAnyH_take (i := 17) (v := ?_) rfl (by kernel_rfl) (by kernel_rfl) (by kernel_rfl) (fun _ _ _ h => h) (Or.inl ⟨by rfl, ?_⟩) hHeld ?_
            rotate_left
            · intro V hSw; go_simp; rfl
            try simp only [Act.put, List.getElem_toArray, List.getElem_cons_succ, List.getElem_cons_zero, List.setIfInBounds_toArray, List.set_cons_zero, List.set_cons_succ]
            refine wpAnyH_done (by kernel_rfl) ?_ _
            refine NoPanic.normal ?_
            clear hHeld
            clear CB HF
            go_wp2
            exact ⟨⟨i + 1, by omega, by go_num, HF', CB', P1'⟩, by simp [intOf]; omega⟩
        · obtain rfl : i = x.f1.size := by omega
          have hc : clP x at' d = false := by
            unfold clP
            rw [List.any_eq_false]
            exact fun j hj => by rw [unhide HF j (List.mem_range.1 hj)]; exact Bool.false_ne_true
          have HG : Hid (g = clB (P.drop (k + 1)) at' d) := by show _ = _; rw [unhide HD, hc, Bool.false_or]
          clear hc HD
          go_wp2
          exact ⟨⟨k + 1, by omega, by go_num, HG, CB⟩, by simp [intOf]; omega⟩
    · obtain rfl : k = P.length := by omega
      have hg' : Hid (g = false) := by show _ = _; rw [unhide hg, List.drop_length]; rfl
      clear hg
      go_wp2
      go_ret
      exact ⟨(congrArg (fun b => Ending.returned (Value.bool b)) (unhide hg')).symm, unhide hB⟩
end Go.Proofs.Ytmicpknilhiliaa.Rc
