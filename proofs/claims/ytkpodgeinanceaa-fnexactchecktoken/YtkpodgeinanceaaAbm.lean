/-
  Contracts: a block's columns mixed.
-/
import Derived.Test.YtkpodgeinanceaaAbx
namespace Go.Proofs.Ytkpodgeinanceaa
open Go.ChangeShapes Go.WideShapes Go.ChangeAt Go.RowKit
set_option linter.unusedVariables false
set_option maxRecDepth 100000

/-- a block's columns mixed -/
def mxb (f : Nat → Nat) (i : Nat) : Nat := mixc (fun j => f (4 * (i / 4) + j)) (i % 4)
theorem mxb_at (f : Nat → Nat) (k j : Nat) (h : j < 4) : mxb f (4 * k + j) = mixc (fun j => f (4 * k + j)) j := by
  unfold mxb
  rw [show (4 * k + j) / 4 = k by omega, show (4 * k + j) % 4 = j by omega]
theorem mxb_lt (f : Nat → Nat) (h : ∀ i, f i < 256) (i : Nat) : mxb f i < 256 := mixc_lt _ (fun j => h _) _
theorem q4_rowb (w : World) (a b c d : Nat) (t : TypeId) : Ar (w.alloc (.cells #[.int .u8 a, .int .u8 b, .int .u8 c, .int .u8 d] t)) w.heap.size 0 4 (q4 a b c d) := by
  have h := Ar.new w 4 (q4 a b c d) t
  rw [us_def] at h
  exact h
theorem us4q (a b c d : Nat) : us 4 (q4 a b c d) = [.int .u8 (a : Int), .int .u8 (b : Int), .int .u8 (c : Int), .int .u8 (d : Int)] := by rw [us_def]; rfl
theorem q4_mix (F : Nat → Nat) (j : Nat) (h : j < 4) : q4 (mixc F 0) (mixc F 1) (mixc F 2) (mixc F 3) j = mixc F j := by
  have e : j = 0 ∨ j = 1 ∨ j = 2 ∨ j = 3 := by omega
  rcases e with rfl | rfl | rfl | rfl <;> rfl

theorem mix_eq (f : Nat → Nat) (k i : Nat) (hi : i < 4) : q4 (mixc (q4 (f (4 * k)) (f (4 * k + 1)) (f (4 * k + 2)) (f (4 * k + 3))) 0) (mixc (q4 (f (4 * k)) (f (4 * k + 1)) (f (4 * k + 2)) (f (4 * k + 3))) 1) (mixc (q4 (f (4 * k)) (f (4 * k + 1)) (f (4 * k + 2)) (f (4 * k + 3))) 2) (mixc (q4 (f (4 * k)) (f (4 * k + 1)) (f (4 * k + 2)) (f (4 * k + 3))) 3) i = mxb f (4 * k + i) := by
  rw [mxb_at f k i hi]
  have e : i = 0 ∨ i = 1 ∨ i = 2 ∨ i = 3 := by omega
  rcases e with rfl | rfl | rfl | rfl <;> rfl
theorem implMixed4 (a b c d : Nat) (ha : a < 256) (hb : b < 256) (hc : c < 256) (hd : d < 256) (w : World) :
    Calls Try.prog 102 #[.agg #[.int .u8 a, .int .u8 b, .int .u8 c, .int .u8 d]] w fun e w' => e = .returned (.agg #[.int .u8 (mixc (q4 a b c d) 0 : Nat), .int .u8 (mixc (q4 a b c d) 1 : Nat), .int .u8 (mixc (q4 a b c d) 2 : Nat), .int .u8 (mixc (q4 a b c d) 3 : Nat)]) ∧ Below w.heap.size w w' := by
  have h := implMixed (q4 a b c d) (by intro i; unfold q4; split; assumption; split; assumption; split <;> assumption) w
  rw [us4 (mixc (q4 a b c d)), us4q] at h
  exact h
theorem zero4k {w w1 : World} {t : TypeId} (h : Below (w.alloc (.cells #[.int .u8 0, .int .u8 0, .int .u8 0, .int .u8 0] t)).drew.heap.size (w.alloc (.cells #[.int .u8 0, .int .u8 0, .int .u8 0, .int .u8 0] t)).drew w1) : Ar w1 w.heap.size 0 4 (fun _ => 0) := by
  have h0 : Ar (w.alloc (.cells #[.int .u8 0, .int .u8 0, .int .u8 0, .int .u8 0] t)) w.heap.size 0 4 (fun _ => 0) := by
    have h9 := Ar.new w 4 (fun _ => 0) t
    rw [us_def] at h9
    exact h9
  exact h0.drew.below h (by simp)

theorem s4_below {b p0 p1 p2 p3 x0 x1 x2 x3 B : Nat} {W W' : World} (h : S4 b p0 p1 p2 p3 x0 x1 x2 x3 W) (hb : Below B W W') (hB : b < B) : S4 b p0 p1 p2 p3 x0 x1 x2 x3 W' :=
  ⟨(hb.cell (p := ⟨b, p0, none⟩) hB).trans h.1, (hb.cell (p := ⟨b, p1, none⟩) hB).trans h.2.1, (hb.cell (p := ⟨b, p2, none⟩) hB).trans h.2.2.1, (hb.cell (p := ⟨b, p3, none⟩) hB).trans h.2.2.2⟩
theorem s4_alloc {b p0 p1 p2 p3 x0 x1 x2 x3 : Nat} {W : World} (o : Obj) (h : S4 b p0 p1 p2 p3 x0 x1 x2 x3 W) (hB : b < W.heap.size) : S4 b p0 p1 p2 p3 x0 x1 x2 x3 (W.alloc o) :=
  s4_below h ((Below.refl W.heap.size W).alloc (Nat.le_refl _) o) hB
theorem zero4cb {w1 : World} {b : Nat} (hz : Ar w1 b 0 4 (fun _ => 0)) : (w1.cell? ⟨b, 0, none⟩ = some (.int .u8 0) ∧ w1.frozen? ⟨b, 0, none⟩ = false) ∧ (w1.cell? ⟨b, 1, none⟩ = some (.int .u8 0) ∧ w1.frozen? ⟨b, 1, none⟩ = false) ∧ (w1.cell? ⟨b, 2, none⟩ = some (.int .u8 0) ∧ w1.frozen? ⟨b, 2, none⟩ = false) ∧ (w1.cell? ⟨b, 3, none⟩ = some (.int .u8 0) ∧ w1.frozen? ⟨b, 3, none⟩ = false) :=
  ⟨⟨hz.c0 0 (by omega), hz.f0 0 (by omega)⟩, ⟨hz.c0 1 (by omega), hz.f0 1 (by omega)⟩, ⟨hz.c0 2 (by omega), hz.f0 2 (by omega)⟩, ⟨hz.c0 3 (by omega), hz.f0 3 (by omega)⟩⟩
/-- copy as one step of a region that draws -/
theorem step_copy_run {P : Program} {ops : Array Oper} {o : Oper} {a : Act} {w : World} {K : Act → World → Prop} {Q : Exit → Act → World → Prop} {E : Prop}
    (hg : o.guard = none) (d x : Operand) (t : TypeId) (hop : o.op = Op.call { callee := Callee.builtin Builtin.copy, args := #[d, x], argTypes := #[t, t] })
    (v1 v2 v' : Value) (w' : World) (hd : a.eval d = v1) (hx : a.eval x = v2) (hrun : (Builtin.copy_ #[t, t] o.type #[v1, v2]).run P w = .ok v' w') (hK : K (a.put o.dst v') w') :
    if Region.wanted o (yielded ops a.tmps) = true then Oper.wp P o a w K Q else E := by
  have hw : Region.wanted o (yielded ops a.tmps) = true := by simp [Region.wanted, hg]
  rw [if_pos hw]
  unfold Oper.wp
  simp [execOp, hop, resolve, invoke, builtin, hd, hx, hrun, Result.andThen]
  exact hK


set_option maxHeartbeats 400000 in
theorem implBmixed (f : Nat → Nat) (hf : ∀ i, f i < 256) (w : World) :
    Calls Try.prog 91 #[.agg (us 16 f).toArray] w fun e w' => e = .returned (.agg (us 16 (mxb f)).toArray) ∧ Below w.heap.size w w' := by
  have HF := hide hf
  clear hf
  go_enter Try.func91, Try.ntmps91
  go_wp2_with fail
  go_loopw [4] (fun iv wr => ∃ k : Nat, k ≤ 4 ∧ iv = .int .i64 (4 * (k : Int)) ∧ Ar wr w.heap.size 0 16 f ∧ Ar wr (w.heap.size + 1) 0 16 (fun _ => 0) ∧ Ar wr (w.heap.size + 1 + 1) 0 16 (stp (mxb f) (fun _ => 0) (4 * k)) ∧ w.heap.size + 1 + 1 + 1 ≤ wr.heap.size ∧ Below w.heap.size w wr) (fun iv _ => 16 - (intOf iv).toNat)
  case atStart =>
    refine ⟨0, by omega, rfl, ?_, ?_, ?_, by simp, ?_⟩
    · exact ((Ar.new w 16 f _).alloc _).alloc _
    · have := z16_new (w.alloc (.cells (us 16 f).toArray 84)) 84
      rw [World.size_alloc] at this
      exact this.alloc _
    · have := z16_new ((w.alloc (.cells (us 16 f).toArray 84)).alloc (.cells #[.int .u8 0, .int .u8 0, .int .u8 0, .int .u8 0, .int .u8 0, .int .u8 0, .int .u8 0, .int .u8 0, .int .u8 0, .int .u8 0, .int .u8 0, .int .u8 0, .int .u8 0, .int .u8 0, .int .u8 0, .int .u8 0] 84)) 84
      rw [World.size_alloc, World.size_alloc] at this
      exact this.stepNone
    · repeat (first | exact Below.refl _ _ | refine Below.alloc ?_ (by simp <;> omega) _)
  case round =>
    obtain ⟨k, hk, rfl, h1, h3, h2, hsz, hbw⟩ := hrel
    have H1 := hide h1
    have H2 := hide h2
    have H3 := hide h3
    have HB := hide hbw
    by_cases hlt : k < 4
    · have s0 := h1.c0 (4 * k) (by omega)
      have s1 := h1.c0 (4 * k + 1) (by omega)
      have s2 := h1.c0 (4 * k + 2) (by omega)
      have s3 := h1.c0 (4 * k + 3) (by omega)
      have hM := hide (fun W => implMixed4 _ _ _ _ (unhide HF (4 * k)) (unhide HF (4 * k + 1)) (unhide HF (4 * k + 2)) (unhide HF (4 * k + 3)) W)
      have HMX := hide (fun i hi => mix_eq f k i hi)
      have hb0 : w.heap.size < wr.heap.size := by omega
      clear h1 h2 h3 hbw
      generalize f (4 * k) = x0 at *
      generalize f (4 * k + 1) = x1 at *
      generalize f (4 * k + 2) = x2 at *
      generalize f (4 * k + 3) = x3 at *
      generalize mixc (q4 x0 x1 x2 x3) 0 = m0 at *
      generalize mixc (q4 x0 x1 x2 x3) 1 = m1 at *
      generalize mixc (q4 x0 x1 x2 x3) 2 = m2 at *
      generalize mixc (q4 x0 x1 x2 x3) 3 = m3 at *
      have S0 : Hid (S4 w.heap.size (4 * k) (4 * k + 1) (4 * k + 2) (4 * k + 3) x0 x1 x2 x3 wr.drew) := ⟨s0, s1, s2, s3⟩
      have i1 : IntKind.i64.wrap (4 * (k : Int) + 1) = 4 * (k : Int) + 1 := wraps_i64 _ (by omega) (by omega)
      have i2 : IntKind.i64.wrap (4 * (k : Int) + 2) = 4 * (k : Int) + 2 := wraps_i64 _ (by omega) (by omega)
      have i3 : IntKind.i64.wrap (4 * (k : Int) + 3) = 4 * (k : Int) + 3 := wraps_i64 _ (by omega) (by omega)
      have n0 : (0 : Int) ≤ 4 * (k : Int) ∧ 4 * (k : Int) < 16 := by omega
      have n1 : (0 : Int) ≤ 4 * (k : Int) + 1 ∧ 4 * (k : Int) + 1 < 16 := by omega
      have n2 : (0 : Int) ≤ 4 * (k : Int) + 2 ∧ 4 * (k : Int) + 2 < 16 := by omega
      have n3 : (0 : Int) ≤ 4 * (k : Int) + 3 ∧ 4 * (k : Int) + 3 < 16 := by omega
      have t0 : (4 * (k : Int)).toNat = 4 * k := by omega
      have t1 : (4 * (k : Int) + 1).toNat = 4 * k + 1 := by omega
      have t2 : (4 * (k : Int) + 2).toNat = 4 * k + 2 := by omega
      have t3 : (4 * (k : Int) + 3).toNat = 4 * k + 3 := by omega
      go_wp2_with fail
      have hne : wr.heap.size ≠ w.heap.size := by omega
      refine wp_region_held_drew (S := fun W => S4 w.heap.size (4 * k) (4 * k + 1) (4 * k + 2) (4 * k + 3) x0 x1 x2 x3 W) (by kernel_rfl) (unhide S0) (fun hHeld0 => ?_)
      have hHeld := hide hHeld0
      clear hHeld0
      refine wpAnyH_take (i := 0) (v := .int .i64 (4 * (k : Int))) rfl (by kernel_rfl) (by kernel_rfl) (by kernel_rfl) (fun _ _ _ h => h) (Or.inl ⟨by rfl, ?_⟩) (unhide hHeld) ?_
      · intro W hSw; obtain ⟨q0, q1, q2, q3⟩ := hSw; go_simp
      try simp only [Act.put, List.setIfInBounds_toArray]
      refine wpAnyH_take (i := 1) (v := .pointer (some ⟨w.heap.size, 4 * k, none⟩)) rfl (by kernel_rfl) (by kernel_rfl) (by kernel_rfl) (fun _ _ _ h => h) (Or.inl ⟨by rfl, ?_⟩) (unhide hHeld) ?_
      · intro W hSw; obtain ⟨q0, q1, q2, q3⟩ := hSw; go_simp
      try simp only [Act.put]
      refine wpAnyH_take (i := 2) (v := .int .u8 (x0 : Nat)) rfl (by kernel_rfl) (by kernel_rfl) (by kernel_rfl) (fun _ _ _ h => h) (Or.inl ⟨by rfl, ?_⟩) (unhide hHeld) ?_
      · intro W hSw; obtain ⟨q0, q1, q2, q3⟩ := hSw; go_simp
      try simp only [Act.put]
      refine wpAnyH_take (i := 3) (v := .int .i64 (4 * (k : Int))) rfl (by kernel_rfl) (by kernel_rfl) (by kernel_rfl) (fun _ _ _ h => h) (Or.inl ⟨by rfl, ?_⟩) (unhide hHeld) ?_
      · intro W hSw; obtain ⟨q0, q1, q2, q3⟩ := hSw; go_simp
      try simp only [Act.put]
      refine wpAnyH_take (i := 4) (v := .int .i64 (4 * (k : Int) + 1)) rfl (by kernel_rfl) (by kernel_rfl) (by kernel_rfl) (fun _ _ _ h => h) (Or.inl ⟨by rfl, ?_⟩) (unhide hHeld) ?_
      · intro W hSw; obtain ⟨q0, q1, q2, q3⟩ := hSw; go_simp
      try simp only [Act.put]
      refine wpAnyH_take (i := 5) (v := .pointer (some ⟨w.heap.size, 4 * k + 1, none⟩)) rfl (by kernel_rfl) (by kernel_rfl) (by kernel_rfl) (fun _ _ _ h => h) (Or.inl ⟨by rfl, ?_⟩) (unhide hHeld) ?_
      · intro W hSw; obtain ⟨q0, q1, q2, q3⟩ := hSw; go_simp
      try simp only [Act.put]
      refine wpAnyH_take (i := 6) (v := .int .u8 (x1 : Nat)) rfl (by kernel_rfl) (by kernel_rfl) (by kernel_rfl) (fun _ _ _ h => h) (Or.inl ⟨by rfl, ?_⟩) (unhide hHeld) ?_
      · intro W hSw; obtain ⟨q0, q1, q2, q3⟩ := hSw; go_simp
      try simp only [Act.put]
      refine wpAnyH_take (i := 7) (v := .int .i64 (4 * (k : Int))) rfl (by kernel_rfl) (by kernel_rfl) (by kernel_rfl) (fun _ _ _ h => h) (Or.inl ⟨by rfl, ?_⟩) (unhide hHeld) ?_
      · intro W hSw; obtain ⟨q0, q1, q2, q3⟩ := hSw; go_simp
      try simp only [Act.put]
      refine wpAnyH_take (i := 8) (v := .int .i64 (4 * (k : Int) + 2)) rfl (by kernel_rfl) (by kernel_rfl) (by kernel_rfl) (fun _ _ _ h => h) (Or.inl ⟨by rfl, ?_⟩) (unhide hHeld) ?_
      · intro W hSw; obtain ⟨q0, q1, q2, q3⟩ := hSw; go_simp
      try simp only [Act.put]
      refine wpAnyH_take (i := 9) (v := .pointer (some ⟨w.heap.size, 4 * k + 2, none⟩)) rfl (by kernel_rfl) (by kernel_rfl) (by kernel_rfl) (fun _ _ _ h => h) (Or.inl ⟨by rfl, ?_⟩) (unhide hHeld) ?_
      · intro W hSw; obtain ⟨q0, q1, q2, q3⟩ := hSw; go_simp
      try simp only [Act.put]
      refine wpAnyH_take (i := 10) (v := .int .u8 (x2 : Nat)) rfl (by kernel_rfl) (by kernel_rfl) (by kernel_rfl) (fun _ _ _ h => h) (Or.inl ⟨by rfl, ?_⟩) (unhide hHeld) ?_
      · intro W hSw; obtain ⟨q0, q1, q2, q3⟩ := hSw; go_simp
      try simp only [Act.put]
      refine wpAnyH_take (i := 11) (v := .int .i64 (4 * (k : Int))) rfl (by kernel_rfl) (by kernel_rfl) (by kernel_rfl) (fun _ _ _ h => h) (Or.inl ⟨by rfl, ?_⟩) (unhide hHeld) ?_
      · intro W hSw; obtain ⟨q0, q1, q2, q3⟩ := hSw; go_simp
      try simp only [Act.put]
      refine wpAnyH_take (i := 12) (v := .int .i64 (4 * (k : Int) + 3)) rfl (by kernel_rfl) (by kernel_rfl) (by kernel_rfl) (fun _ _ _ h => h) (Or.inl ⟨by rfl, ?_⟩) (unhide hHeld) ?_
      · intro W hSw; obtain ⟨q0, q1, q2, q3⟩ := hSw; go_simp
      try simp only [Act.put]
      refine wpAnyH_take (i := 13) (v := .pointer (some ⟨w.heap.size, 4 * k + 3, none⟩)) rfl (by kernel_rfl) (by kernel_rfl) (by kernel_rfl) (fun _ _ _ h => h) (Or.inl ⟨by rfl, ?_⟩) (unhide hHeld) ?_
      · intro W hSw; obtain ⟨q0, q1, q2, q3⟩ := hSw; go_simp
      try simp only [Act.put]
      refine wpAnyH_take (i := 14) (v := .int .u8 (x3 : Nat)) rfl (by kernel_rfl) (by kernel_rfl) (by kernel_rfl) (fun _ _ _ h => h) (Or.inl ⟨by rfl, ?_⟩) (unhide hHeld) ?_
      · intro W hSw; obtain ⟨q0, q1, q2, q3⟩ := hSw; go_simp
      try simp only [Act.put]
      refine wpAnyH_take (i := 15) (v := .agg #[.int .u8 (x0 : Nat), .int .u8 (x1 : Nat), .int .u8 (x2 : Nat), .int .u8 (x3 : Nat)]) rfl (by kernel_rfl) (by kernel_rfl) (by kernel_rfl) (fun _ _ _ h => h) (Or.inl ⟨by rfl, ?_⟩) (unhide hHeld) ?_
      · intro W hSw; obtain ⟨q0, q1, q2, q3⟩ := hSw; go_simp
      try simp only [Act.put]
      refine wpAnyH_ready (rs := [16, 17]) (by kernel_rfl) (by simp) ?_
      refine AllReadyH.cons rfl (fun K hK => ?_) (AllReadyH.cons rfl (fun K hK => ?_) AllReadyH.nil)
      · go_simp
        go_at_call 102
        with_reducible refine (unhide hM _).mono ?_
        rintro e w1 ⟨rfl, hb1⟩
        have K1 := hide (s4_below (unhide S0) hb1 (by rw [World.size_drew]; exact hb0))
        have hlt1 : w.heap.size < w1.heap.size := Nat.lt_of_lt_of_le hb0 hb1.size
        have HB1 := hide hb1
        clear hb1
        refine hK.out _ _ (unhide K1) (fun hHeld => ?_)
        clear hK K
        try simp only [Act.put, List.setIfInBounds_toArray, List.set_cons_zero, List.set_cons_succ]
        refine wpAnyH_ready (rs := [17]) (by kernel_rfl) (by simp) ?_
        refine AllReadyH.cons rfl (fun K hK => ?_) AllReadyH.nil
        go_simp
        refine hK.out _ _ (s4_alloc _ (unhide K1) hlt1) (fun hHeld => ?_)
        clear hK K
        try simp only [Act.put, List.setIfInBounds_toArray, List.set_cons_zero, List.set_cons_succ]
        refine wpAnyH_ready (rs := [18]) (by kernel_rfl) (by simp) ?_
        refine AllReadyH.cons rfl (fun K hK => ?_) AllReadyH.nil
        go_simp
        refine hK.out _ _ (s4_alloc _ (unhide K1) hlt1) (fun hHeld => ?_)
        clear hK K
        try simp only [Act.put, List.setIfInBounds_toArray, List.set_cons_zero, List.set_cons_succ]
        refine wpAnyH_done (by kernel_rfl) ?_ _
        have b1 := unhide HB1
        have hs1 := b1.size
        rw [World.size_drew] at hs1
        have A5 := q4_rowb w1 m0 m1 m2 m3 140
        have A1 := ((unhide H1).drew.below b1 (unhide H1).lt).alloc (.cells #[.int .u8 m0, .int .u8 m1, .int .u8 m2, .int .u8 m3] 140)
        have A2 := ((unhide H2).drew.below b1 (unhide H2).lt).alloc (.cells #[.int .u8 m0, .int .u8 m1, .int .u8 m2, .int .u8 m3] 140)
        have A3 := ((unhide H3).drew.below b1 (unhide H3).lt).alloc (.cells #[.int .u8 m0, .int .u8 m1, .int .u8 m2, .int .u8 m3] 140)
        have AB := ((unhide HB).drew.trans (b1.mono (by rw [World.size_drew]; omega))).alloc (by omega) (.cells #[.int .u8 m0, .int .u8 m1, .int .u8 m2, .int .u8 m3] 140)
        have hsz5 : w.heap.size + 1 + 1 + 1 ≤ (w1.alloc (.cells #[.int .u8 m0, .int .u8 m1, .int .u8 m2, .int .u8 m3] 140)).heap.size := by rw [World.size_alloc]; omega
        have hmb : w1.heap.size ≠ w.heap.size + 1 + 1 ∧ w.heap.size ≤ w1.heap.size := by omega
        generalize w1.alloc (.cells #[.int .u8 m0, .int .u8 m1, .int .u8 m2, .int .u8 m3] 140) = W at A1 A2 A3 A5 AB hsz5 ⊢
        generalize w1.heap.size = mb at A5 hmb ⊢
        clear S0 K1 hM HB1 s0 s1 s2 s3 hHeld b1 hs1 hlt1
        have HA5 := hide A5
        have HA1 := hide A1
        have HA2 := hide A2
        have HA3 := hide A3
        have HAB := hide AB
        clear A1 A2 A3 A5 AB
        have hcp := run_copy_cells (P := Try.prog) W.drew 32 32 3 5 (w.heap.size + 1 + 1) (4 * k) (16 - 4 * k) (16 - 4 * k) ⟨mb, 0, none⟩ 4 4 (us 4 (q4 m0 m1 m2 m3)) Try.underlying32 (by kernel_rfl) (by rw [us_length]; exact (Nat.min_eq_left (by omega)).symm) (fun j v hv => by rw [Addr.add_mid]; exact (unhide HA5).drew.range j v hv) (fun j hj => by rw [us_length] at hj; have := (unhide HA2).drew.c (4 * k + j) (by omega); rw [Nat.zero_add] at this; rw [this]; rfl) (fun j hj => by rw [us_length] at hj; have := (unhide HA2).drew.fz (4 * k + j) (by omega); rwa [Nat.zero_add] at this) (us_oneL 4 _)
        have RUN := hide hcp
        clear hcp
        have j1 : IntKind.i64.wrap (4 * (k : Int)) = 4 * (k : Int) := wraps_i64 _ (by omega) (by omega)
        have j2 : 4 * (k : Int) ≤ 16 := by omega
        have j3 : (16 - 4 * (k : Int)).toNat = 16 - 4 * k := by omega
        go_wp2_with fail
        refine wp_region_held_drew (S := fun _ => True) (by kernel_rfl) True.intro (fun hHeld => ?_)
        refine wpAnyH_take (i := 0) (v := .int .i64 (4 * (k : Int))) rfl (by kernel_rfl) (by kernel_rfl) (by kernel_rfl) (fun _ _ _ h => h) (Or.inl ⟨by rfl, ?_⟩) hHeld ?_
        · intro W hSw; go_simp
        try simp only [Act.put, List.setIfInBounds_toArray]
        refine wpAnyH_take (i := 1) (v := .slice (some ⟨w.heap.size + 1 + 1, 4 * k, none⟩) (16 - 4 * k) (16 - 4 * k)) rfl (by kernel_rfl) (by kernel_rfl) (by kernel_rfl) (fun _ _ _ h => h) (Or.inl ⟨by rfl, ?_⟩) hHeld ?_
        · intro W hSw; go_simp; intro h9; omega
        try simp only [Act.put]
        refine wpAnyH_take (i := 2) (v := .slice (some ⟨mb, 0, none⟩) 4 4) rfl (by kernel_rfl) (by kernel_rfl) (by kernel_rfl) (fun _ _ _ h => h) (Or.inl ⟨by rfl, ?_⟩) hHeld ?_
        · intro W hSw; go_simp
        try simp only [Act.put]
        refine wpAnyH_ready (rs := [3]) (by kernel_rfl) (by simp) ?_
        refine AllReadyH.cons rfl (fun K hK => ?_) AllReadyH.nil
        refine step_copy_run rfl (.tmp 28) (.tmp 29) 32 rfl _ _ _ _ rfl rfl (unhide RUN) ?_
        refine hK.out _ _ True.intro (fun hHeld => ?_)
        clear hK K
        try simp only [Act.put]
        refine wpAnyH_done (by kernel_rfl) ?_ _
        simp only [List.getElem_toArray, List.getElem_cons_succ, List.getElem_cons_zero]
        have F2 : Ar (W.drew.setCells (w.heap.size + 1 + 1) (4 * k) (us 4 (q4 m0 m1 m2 m3))) (w.heap.size + 1 + 1) 0 16 (stp (mxb f) (fun _ => 0) (4 * (k + 1))) := by
          have := (unhide HA2).drew.putPart (p := 4 * k) (m := 4) (g := q4 m0 m1 m2 m3) (G := stp (mxb f) (fun _ => 0) (4 * (k + 1))) (by omega) (fun i hi => by rw [unhide HMX i hi]; unfold stp; rw [if_pos (by omega)]) (fun i hi h => by
            unfold stp
            rcases h with h | h
            · rw [if_pos (by omega), if_pos h]
            · rw [if_neg (by omega), if_neg (by omega)])
          rwa [Nat.zero_add] at this
        have F1 := (unhide HA1).drew.others (b' := w.heap.size + 1 + 1) (o' := 4 * k) (vs := us 4 (q4 m0 m1 m2 m3)) (Or.inl (by omega))
        have F3 := (unhide HA3).drew.others (b' := w.heap.size + 1 + 1) (o' := 4 * k) (vs := us 4 (q4 m0 m1 m2 m3)) (Or.inl (by omega))
        have F4 := Go.Proofs.Ytkpodgeinanceaa.below_setCells (b := w.heap.size + 1 + 1) (by omega) (us 4 (q4 m0 m1 m2 m3)) (4 * k) _ (unhide HAB).drew
        have F5 := size_setCells (w.heap.size + 1 + 1) (us 4 (q4 m0 m1 m2 m3)) (4 * k) W.drew
        rw [World.size_drew] at F5
        generalize W.drew.setCells (w.heap.size + 1 + 1) (4 * k) (us 4 (q4 m0 m1 m2 m3)) = W9 at F1 F2 F3 F4 F5 ⊢
        have G1 := hide F1
        have G2 := hide F2
        have G3 := hide F3
        have G4 := hide F4
        clear F1 F2 F3 F4 RUN HA1 HA2 HA3 HA5 HAB HMX
        go_wp2
        exact ⟨⟨k + 1, by omega, by congr 1, unhide G1, unhide G3, unhide G2, by omega, unhide G4⟩, by simp [intOf]; omega⟩
      · go_simp
        refine hK.out _ _ (s4_alloc _ (unhide S0) hb0) (fun hHeld => ?_)
        clear hK K
        try simp only [Act.put, List.setIfInBounds_toArray, List.set_cons_zero, List.set_cons_succ]
        refine wpAnyH_ready (rs := [16]) (by kernel_rfl) (by simp) ?_
        refine AllReadyH.cons rfl (fun K hK => ?_) AllReadyH.nil
        go_simp
        go_at_call 102
        with_reducible refine (unhide hM _).mono ?_
        rintro e w1 ⟨rfl, hb1⟩
        have K1 := hide (s4_below (show S4 w.heap.size (4 * k) (4 * k + 1) (4 * k + 2) (4 * k + 3) x0 x1 x2 x3 (wr.alloc (.cells #[.int .u8 0, .int .u8 0, .int .u8 0, .int .u8 0] 140)).drew from s4_alloc _ (unhide S0) hb0) hb1 (by rw [World.size_drew, World.size_alloc]; omega))
        have hz := zero4k hb1
        obtain ⟨⟨c0, g0⟩, ⟨c1, g1⟩, ⟨c2, g2⟩, ⟨c3, g3⟩⟩ := zero4cb hz
        have HB1 := hide hb1
        have HZ := hide hz
        clear hb1 hz
        refine hK.out _ _ (unhide K1) (fun hHeld => ?_)
        clear hK K
        try simp only [Act.put, List.setIfInBounds_toArray, List.set_cons_zero, List.set_cons_succ]
        refine wpAnyH_ready (rs := [18]) (by kernel_rfl) (by simp) ?_
        refine AllReadyH.cons rfl (fun K hK => ?_) AllReadyH.nil
        go_simp
        refine hK.out _ _ (s4_set (s4_set (s4_set (s4_set (unhide K1) hne) hne) hne) hne) (fun hHeld => ?_)
        clear hK K
        try simp only [Act.put, List.setIfInBounds_toArray, List.set_cons_zero, List.set_cons_succ]
        refine wpAnyH_done (by kernel_rfl) ?_ _
        have b1 := unhide HB1
        have hs1 := b1.size
        rw [World.size_drew, World.size_alloc] at hs1
        have A5 := (((((unhide HZ).stepNone (f := q4 m0 m1 m2 m3)).step (k := 0) (x := m0) (by omega) rfl).step (k := 1) (x := m1) (by omega) rfl).step (k := 2) (x := m2) (by omega) rfl).step (k := 3) (x := m3) (by omega) rfl
        have A5 := A5.stepEnd
        have A1 := (((((unhide H1).alloc (.cells #[.int .u8 0, .int .u8 0, .int .u8 0, .int .u8 0] 140)).drew.below b1 (by rw [World.size_drew, World.size_alloc]; omega)).other (a := ⟨wr.heap.size, 0, none⟩) (v := .int .u8 m0) hne).other (a := ⟨wr.heap.size, 1, none⟩) (v := .int .u8 m1) hne).other (a := ⟨wr.heap.size, 2, none⟩) (v := .int .u8 m2) hne |>.other (a := ⟨wr.heap.size, 3, none⟩) (v := .int .u8 m3) hne
        have hne2 : wr.heap.size ≠ w.heap.size + 1 + 1 := by omega
        have hne1 : wr.heap.size ≠ w.heap.size + 1 := by omega
        have A2 := (((((unhide H2).alloc (.cells #[.int .u8 0, .int .u8 0, .int .u8 0, .int .u8 0] 140)).drew.below b1 (by rw [World.size_drew, World.size_alloc]; omega)).other (a := ⟨wr.heap.size, 0, none⟩) (v := .int .u8 m0) hne2).other (a := ⟨wr.heap.size, 1, none⟩) (v := .int .u8 m1) hne2).other (a := ⟨wr.heap.size, 2, none⟩) (v := .int .u8 m2) hne2 |>.other (a := ⟨wr.heap.size, 3, none⟩) (v := .int .u8 m3) hne2
        have A3 := (((((unhide H3).alloc (.cells #[.int .u8 0, .int .u8 0, .int .u8 0, .int .u8 0] 140)).drew.below b1 (by rw [World.size_drew, World.size_alloc]; omega)).other (a := ⟨wr.heap.size, 0, none⟩) (v := .int .u8 m0) hne1).other (a := ⟨wr.heap.size, 1, none⟩) (v := .int .u8 m1) hne1).other (a := ⟨wr.heap.size, 2, none⟩) (v := .int .u8 m2) hne1 |>.other (a := ⟨wr.heap.size, 3, none⟩) (v := .int .u8 m3) hne1
        have AB : Below w.heap.size w ((((w1.setCell ⟨wr.heap.size, 0, none⟩ (.int .u8 m0)).setCell ⟨wr.heap.size, 1, none⟩ (.int .u8 m1)).setCell ⟨wr.heap.size, 2, none⟩ (.int .u8 m2)).setCell ⟨wr.heap.size, 3, none⟩ (.int .u8 m3)) := by
          iterate 4 refine Below.setCell ?_ (by simp; omega) _
          exact ((unhide HB).alloc (by omega) (.cells #[.int .u8 0, .int .u8 0, .int .u8 0, .int .u8 0] 140)).drew.trans (b1.mono (by rw [World.size_drew, World.size_alloc]; omega))
        have hsz5 : w.heap.size + 1 + 1 + 1 ≤ ((((w1.setCell ⟨wr.heap.size, 0, none⟩ (.int .u8 m0)).setCell ⟨wr.heap.size, 1, none⟩ (.int .u8 m1)).setCell ⟨wr.heap.size, 2, none⟩ (.int .u8 m2)).setCell ⟨wr.heap.size, 3, none⟩ (.int .u8 m3)).heap.size := by
          simp [World.setCell]; omega
        have hmb : wr.heap.size ≠ w.heap.size + 1 + 1 ∧ w.heap.size ≤ wr.heap.size := by omega
        generalize (((w1.setCell ⟨wr.heap.size, 0, none⟩ (.int .u8 m0)).setCell ⟨wr.heap.size, 1, none⟩ (.int .u8 m1)).setCell ⟨wr.heap.size, 2, none⟩ (.int .u8 m2)).setCell ⟨wr.heap.size, 3, none⟩ (.int .u8 m3) = W at A1 A2 A3 A5 AB hsz5 ⊢
        generalize wr.heap.size = mb at A5 hmb ⊢
        clear S0 K1 hM HB1 s0 s1 s2 s3 hHeld b1 hs1 c0 c1 c2 c3 g0 g1 g2 g3 HZ hne hne1 hne2
        have HA5 := hide A5
        have HA1 := hide A1
        have HA2 := hide A2
        have HA3 := hide A3
        have HAB := hide AB
        clear A1 A2 A3 A5 AB
        have hcp := run_copy_cells (P := Try.prog) W.drew 32 32 3 5 (w.heap.size + 1 + 1) (4 * k) (16 - 4 * k) (16 - 4 * k) ⟨mb, 0, none⟩ 4 4 (us 4 (q4 m0 m1 m2 m3)) Try.underlying32 (by kernel_rfl) (by rw [us_length]; exact (Nat.min_eq_left (by omega)).symm) (fun j v hv => by rw [Addr.add_mid]; exact (unhide HA5).drew.range j v hv) (fun j hj => by rw [us_length] at hj; have := (unhide HA2).drew.c (4 * k + j) (by omega); rw [Nat.zero_add] at this; rw [this]; rfl) (fun j hj => by rw [us_length] at hj; have := (unhide HA2).drew.fz (4 * k + j) (by omega); rwa [Nat.zero_add] at this) (us_oneL 4 _)
        have RUN := hide hcp
        clear hcp
        have j1 : IntKind.i64.wrap (4 * (k : Int)) = 4 * (k : Int) := wraps_i64 _ (by omega) (by omega)
        have j2 : 4 * (k : Int) ≤ 16 := by omega
        have j3 : (16 - 4 * (k : Int)).toNat = 16 - 4 * k := by omega
        go_wp2_with fail
        refine wp_region_held_drew (S := fun _ => True) (by kernel_rfl) True.intro (fun hHeld => ?_)
        refine wpAnyH_take (i := 0) (v := .int .i64 (4 * (k : Int))) rfl (by kernel_rfl) (by kernel_rfl) (by kernel_rfl) (fun _ _ _ h => h) (Or.inl ⟨by rfl, ?_⟩) hHeld ?_
        · intro W hSw; go_simp
        try simp only [Act.put, List.setIfInBounds_toArray]
        refine wpAnyH_take (i := 1) (v := .slice (some ⟨w.heap.size + 1 + 1, 4 * k, none⟩) (16 - 4 * k) (16 - 4 * k)) rfl (by kernel_rfl) (by kernel_rfl) (by kernel_rfl) (fun _ _ _ h => h) (Or.inl ⟨by rfl, ?_⟩) hHeld ?_
        · intro W hSw; go_simp; intro h9; omega
        try simp only [Act.put]
        refine wpAnyH_take (i := 2) (v := .slice (some ⟨mb, 0, none⟩) 4 4) rfl (by kernel_rfl) (by kernel_rfl) (by kernel_rfl) (fun _ _ _ h => h) (Or.inl ⟨by rfl, ?_⟩) hHeld ?_
        · intro W hSw; go_simp
        try simp only [Act.put]
        refine wpAnyH_ready (rs := [3]) (by kernel_rfl) (by simp) ?_
        refine AllReadyH.cons rfl (fun K hK => ?_) AllReadyH.nil
        refine step_copy_run rfl (.tmp 28) (.tmp 29) 32 rfl _ _ _ _ rfl rfl (unhide RUN) ?_
        refine hK.out _ _ True.intro (fun hHeld => ?_)
        clear hK K
        try simp only [Act.put]
        refine wpAnyH_done (by kernel_rfl) ?_ _
        simp only [List.getElem_toArray, List.getElem_cons_succ, List.getElem_cons_zero]
        have F2 : Ar (W.drew.setCells (w.heap.size + 1 + 1) (4 * k) (us 4 (q4 m0 m1 m2 m3))) (w.heap.size + 1 + 1) 0 16 (stp (mxb f) (fun _ => 0) (4 * (k + 1))) := by
          have := (unhide HA2).drew.putPart (p := 4 * k) (m := 4) (g := q4 m0 m1 m2 m3) (G := stp (mxb f) (fun _ => 0) (4 * (k + 1))) (by omega) (fun i hi => by rw [unhide HMX i hi]; unfold stp; rw [if_pos (by omega)]) (fun i hi h => by
            unfold stp
            rcases h with h | h
            · rw [if_pos (by omega), if_pos h]
            · rw [if_neg (by omega), if_neg (by omega)])
          rwa [Nat.zero_add] at this
        have F1 := (unhide HA1).drew.others (b' := w.heap.size + 1 + 1) (o' := 4 * k) (vs := us 4 (q4 m0 m1 m2 m3)) (Or.inl (by omega))
        have F3 := (unhide HA3).drew.others (b' := w.heap.size + 1 + 1) (o' := 4 * k) (vs := us 4 (q4 m0 m1 m2 m3)) (Or.inl (by omega))
        have F4 := Go.Proofs.Ytkpodgeinanceaa.below_setCells (b := w.heap.size + 1 + 1) (by omega) (us 4 (q4 m0 m1 m2 m3)) (4 * k) _ (unhide HAB).drew
        have F5 := size_setCells (w.heap.size + 1 + 1) (us 4 (q4 m0 m1 m2 m3)) (4 * k) W.drew
        rw [World.size_drew] at F5
        generalize W.drew.setCells (w.heap.size + 1 + 1) (4 * k) (us 4 (q4 m0 m1 m2 m3)) = W9 at F1 F2 F3 F4 F5 ⊢
        have G1 := hide F1
        have G2 := hide F2
        have G3 := hide F3
        have G4 := hide F4
        clear F1 F2 F3 F4 RUN HA1 HA2 HA3 HA5 HAB HMX
        go_wp2
        exact ⟨⟨k + 1, by omega, by congr 1, unhide G1, unhide G3, unhide G2, by omega, unhide G4⟩, by simp [intOf]; omega⟩
    · have e : k = 4 := by omega
      subst e
      have h4 := h2.stepEnd
      have h5 := h3.puts (g := mxb f)
      go_upto_region 7 with fail
      refine wp_region_list ?_
      refine wpList_load_mid rfl 84 (.tmp 3) rfl (w.heap.size + 1 + 1) 0 rfl (us 16 (mxb f)) _ h4.range Try.underlying84 rfl (by rw [us_length]; exact info_bl) ?_
      refine wpList_store_mid rfl 84 (.tmp 2) (.tmp 31) rfl (w.heap.size + 1) 0 (us 16 (mxb f)).toArray rfl rfl (by rw [us_size]; exact h3.there) (by rw [us_size]; exact info_bl) (us_one _ _) ?_
      refine wpList_nil ?_
      clear h1 h2 h3 h4 hbw
      have HH := hide h5
      clear h5
      go_wp2
      refine ret_arr 2 (w.heap.size + 1) 16 84 _ (mxb f) ?r1 ?r2 ?r3 (unhide HH) Try.underlying84 rfl info_bl ?_
      case r1 => rfl
      case r2 => rfl
      case r3 => rfl
      exact ⟨rfl, Go.Proofs.Ytkpodgeinanceaa.below_setCells (by omega) _ _ _ (unhide HB)⟩
end Go.Proofs.Ytkpodgeinanceaa
