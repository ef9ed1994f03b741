/-
  Contracts: the model's product of two blocks, walked. Contracts: the model's words told as a block; its MulBlock.
-/
import Derived.Test.YtgoafbhhihfkfaaL5wX
namespace Go.Proofs.Ytgoafbhhihfkfaa
open Go.ChangeShapes Go.WideShapes Go.ChangeAt Go.RowKit
set_option linter.unusedVariables false

theorem Q2.other {w : World} {b x y : Nat} (h : Q2 w b x y) {b' k : Nat} {v : Value} (hne : b' ≠ b) : Q2 (w.setCell ⟨b', k, none⟩ v) b x y := by
  have hn : ∀ q : Nat, (⟨b', k, none⟩ : Addr) ≠ ⟨b, q, none⟩ := fun q e => hne (congrArg Addr.block e)
  exact ⟨(World.cell?_setCell_other _ _ _ _ (hn 0)).trans h.c0, (World.cell?_setCell_other _ _ _ _ (hn 1)).trans h.c1, by rw [World.frozen?_setCell]; exact h.f0, by rw [World.frozen?_setCell]; exact h.f1⟩
theorem Q2.put0 {w : World} {b x y : Nat} (h : Q2 w b x y) (u : Nat) : Q2 (w.setCell ⟨b, 0, none⟩ (.int .u64 (u : Nat))) b u y :=
  ⟨World.cell?_setCell_same _ _ _ h.c0, (World.cell?_setCell_other _ _ _ _ (fun e => by simp at e)).trans h.c1, by rw [World.frozen?_setCell]; exact h.f0, by rw [World.frozen?_setCell]; exact h.f1⟩
theorem Q2.put1 {w : World} {b x y : Nat} (h : Q2 w b x y) (u : Nat) : Q2 (w.setCell ⟨b, 1, none⟩ (.int .u64 (u : Nat))) b x u :=
  ⟨(World.cell?_setCell_other _ _ _ _ (fun e => by simp at e)).trans h.c0, World.cell?_setCell_same _ _ _ h.c1, by rw [World.frozen?_setCell]; exact h.f0, by rw [World.frozen?_setCell]; exact h.f1⟩
theorem q2_own (w : World) (x y : Nat) (t : TypeId) : Q2 (w.alloc (.cells #[.int .u64 (x : Nat), .int .u64 (y : Nat)] t)) w.heap.size x y :=
  ⟨by simp, by simp, by simp, by simp⟩
theorem Q2.keep {w w' : World} {b x y : Nat} (h : Q2 w b x y) (hb : Below w.heap.size w w') (hl : b < w.heap.size) : Q2 w' b x y := by
  have e := hb.block b hl
  exact ⟨(World.cell?_of_block (a := ⟨b, 0, none⟩) e).trans h.c0, (World.cell?_of_block (a := ⟨b, 1, none⟩) e).trans h.c1, (World.frozen?_of_block (a := ⟨b, 0, none⟩) e).trans h.f0, (World.frozen?_of_block (a := ⟨b, 1, none⟩) e).trans h.f1⟩
theorem Q2.alloc {w : World} {b x y : Nat} (h : Q2 w b x y) (o : Obj) (hl : b < w.heap.size) : Q2 (w.alloc o) b x y := h.keep ((Below.refl _ _).alloc (Nat.le_refl _) o) hl
set_option maxRecDepth 100000 in
set_option maxHeartbeats 1000000 in
theorem specMulB (ah al bh bl : Nat) (hah : ah < 18446744073709551616) (hal : al < 18446744073709551616) (hbh : bh < 18446744073709551616) (hbl : bl < 18446744073709551616) (w : World) :
    Calls Try.prog 30 #[.agg #[.int .u64 (ah : Nat), .int .u64 (al : Nat)], .agg #[.int .u64 (bh : Nat), .int .u64 (bl : Nat)]] w fun e w' => e = .returned (.agg #[.int .u64 ((ouP ah al bh bl 128).1 : Nat), .int .u64 ((ouP ah al bh bl 128).2 : Nat)]) ∧ Below w.heap.size w w' := by
  have HBL := hide (fun i => bsP_lt bh bl hbh hbl i)
  have HOL := hide (fun i => ouP_lt ah al bh bl hbh hbl i)
  go_enter Try.func30, Try.ntmps30
  go_wp2_with fail
  have d0 := q2_own w ah al 46
  have e0 := (Below.refl w.heap.size w).alloc (Nat.le_refl _) (.cells #[.int .u64 (ah : Nat), .int .u64 (al : Nat)] 46)
  have z0 : (w.alloc (.cells #[.int .u64 (ah : Nat), .int .u64 (al : Nat)] 46)).heap.size = w.heap.size + 1 := by simp
  generalize w.alloc (.cells #[.int .u64 (ah : Nat), .int .u64 (al : Nat)] 46) = W0 at d0 e0 z0 ⊢
  have d1 := q2_own W0 bh bl 46
  have d0' := d0.alloc (.cells #[.int .u64 (bh : Nat), .int .u64 (bl : Nat)] 46) (by omega)
  have e1 := e0.alloc (by omega) (.cells #[.int .u64 (bh : Nat), .int .u64 (bl : Nat)] 46)
  have z1 : (W0.alloc (.cells #[.int .u64 (bh : Nat), .int .u64 (bl : Nat)] 46)).heap.size = w.heap.size + 1 + 1 := by simp [z0]
  generalize W0.alloc (.cells #[.int .u64 (bh : Nat), .int .u64 (bl : Nat)] 46) = W1 at d1 d0' e1 z1 ⊢
  rw [z0] at d1
  have d2 : Q2 (W1.alloc (.cells #[.int .u64 0, .int .u64 0] 46)) W1.heap.size 0 0 := q2_own W1 0 0 46
  have d0'' := d0'.alloc (.cells #[.int .u64 0, .int .u64 0] 46) (by omega)
  have d1' := d1.alloc (.cells #[.int .u64 0, .int .u64 0] 46) (by omega)
  have e2 := e1.alloc (by omega) (.cells #[.int .u64 0, .int .u64 0] 46)
  have z2 : (W1.alloc (.cells #[.int .u64 0, .int .u64 0] 46)).heap.size = w.heap.size + 1 + 1 + 1 := by simp [z1]
  generalize W1.alloc (.cells #[.int .u64 0, .int .u64 0] 46) = W2 at d2 d0'' d1' e2 z2 ⊢
  rw [z1] at d2
  have d3 : Q2 (W2.alloc (.cells #[.int .u64 0, .int .u64 0] 46)) W2.heap.size 0 0 := q2_own W2 0 0 46
  have f0 := hide (d0''.alloc (.cells #[.int .u64 0, .int .u64 0] 46) (by omega))
  have f1 := hide (d1'.alloc (.cells #[.int .u64 0, .int .u64 0] 46) (by omega))
  have f2 := hide (d2.alloc (.cells #[.int .u64 0, .int .u64 0] 46) (by omega))
  have e3 := hide (e2.alloc (by omega) (.cells #[.int .u64 0, .int .u64 0] 46))
  rw [z2] at d3
  have f3 := hide d3
  generalize W2.alloc (.cells #[.int .u64 0, .int .u64 0] 46) = W3 at f0 f1 f2 f3 e3 ⊢
  clear d0 e0 z0 d1 d0' e1 z1 d2 d0'' d1' e2 z2 d3
  go_loopw [6] (fun iv wr => ∃ i : Nat, i ≤ 128 ∧ iv = .int .i64 i ∧ Q2 wr w.heap.size ah al ∧ Q2 wr (w.heap.size + 1) (bsP bh bl i).1 (bsP bh bl i).2 ∧ Q2 wr (w.heap.size + 1 + 1) 0 0 ∧ Q2 wr (w.heap.size + 1 + 1 + 1) (ouP ah al bh bl i).1 (ouP ah al bh bl i).2 ∧ Below w.heap.size w wr) (fun iv _ => 128 - (intOf iv).toNat)
  case atStart => exact ⟨0, by omega, rfl, unhide f0, unhide f1, unhide f2, unhide f3, unhide e3⟩
  case round =>
    obtain ⟨i, hi, rfl, q0, q1, q2, q3, hB⟩ := hrel
    clear f0 f1 f2 f3 e3
    by_cases hlt : i < 128
    · obtain ⟨hb1, hb2⟩ := unhide HBL i
      obtain ⟨ho1, ho2⟩ := unhide HOL i
      have HS : Hid (bsP bh bl (i + 1) = (if (bsP bh bl i).2 % 2 = 1 then (bsP bh bl i).1 / 2 ^^^ 16212958658533785600 else (bsP bh bl i).1 / 2, (bsP bh bl i).2 / 2 + (bsP bh bl i).1 % 2 * 9223372036854775808)) := rfl
      have HO : Hid (ouP ah al bh bl (i + 1) = if btA ah al i = 1 then ((ouP ah al bh bl i).1 ^^^ (bsP bh bl i).1, (ouP ah al bh bl i).2 ^^^ (bsP bh bl i).2) else ouP ah al bh bl i) := rfl
      have HP : Hid (ouP ah al bh bl i = ((ouP ah al bh bl i).1, (ouP ah al bh bl i).2)) := rfl
      generalize (bsP bh bl i).1 = H at *
      generalize (bsP bh bl i).2 = L at *
      generalize (ouP ah al bh bl i).1 = X at *
      generalize (ouP ah al bh bl i).2 = Y at *
      obtain ⟨G, hG⟩ : ∃ G : Nat, G = H / 2 := ⟨_, rfl⟩
      have hGI : (H : Int) / 2 = (G : Int) := by omega
      have hG64 : G < 18446744073709551616 := by omega
      have HG := hide hG.symm
      clear hG
      have xX := hide (xor64 X H ho1 hb1)
      have xY := hide (xor64 Y L ho2 hb2)
      have xC : Hid (bits .xor .u64 (G : Int) 16212958658533785600 = ((G ^^^ 16212958658533785600 : Nat) : Int)) := xor64 G 16212958658533785600 hG64 (by omega)
      have oL := hide (or63 H L hb2)
      have aL := and1 (L : Int) (by omega) (by omega)
      have c0 := q0.c0
      have c1 := q0.c1
      have b0 := q1.c0
      have b1 := q1.c1
      have b2 := q1.f0
      have b3 := q1.f1
      have o0 := q3.c0
      have o1 := q3.c1
      have o2 := q3.f0
      have o3 := q3.f1
      by_cases h64 : i < 64
      · obtain ⟨j, hj⟩ : ∃ j : Nat, j = 63 - i := ⟨_, rfl⟩
        have hjI : 63 - (i : Int) = (j : Int) := by omega
        have h63 : (i : Int) ≤ 63 := by omega
        obtain ⟨y, hy⟩ : ∃ y : Nat, y = ah / 2 ^ j := ⟨_, rfl⟩
        have hyI : (ah : Int) / 2 ^ j = (y : Int) := by rw [hy]; simp
        have hA : Hid (btA ah al i = ah / 2 ^ j % 2) := by
          unfold btA
          rw [if_pos h64, ← hj]
          exact rfl
        have hdj : ah / 2 ^ j ≤ ah := Nat.div_le_self _ _
        have hy64 : y < 18446744073709551616 := by omega
        have aA := and1 (y : Int) (by omega) (by omega)
        have HJ := hide hj
        have HY := hide hy.symm
        clear hj hy hdj
        by_cases hbit : y % 2 = 1
        · by_cases hlow : L % 2 = 1
          · have t1 : bits .and .u64 (y : Int) 1 = 1 := by omega
            have t2 : bits .and .u64 (L : Int) 1 = 1 := by omega
            have s1 : (bsP bh bl (i + 1)).1 = G ^^^ 16212958658533785600 := by rw [unhide HS]; show (if L % 2 = 1 then H / 2 ^^^ 16212958658533785600 else H / 2) = _; rw [if_pos hlow, unhide HG]
            have s2 : (bsP bh bl (i + 1)).2 = (L / 2 + H % 2 * 9223372036854775808) := by rw [unhide HS]
            have s3 : (ouP ah al bh bl (i + 1)).1 = X ^^^ H := by rw [unhide HO, unhide hA, unhide HY, if_pos hbit]
            have s4 : (ouP ah al bh bl (i + 1)).2 = Y ^^^ L := by rw [unhide HO, unhide hA, unhide HY, if_pos hbit]
            have r0 := hide (((((q0.other (b' := w.heap.size + 1 + 1 + 1) (k := 0) (v := .int .u64 (((X ^^^ H) : Nat) : Int)) (by omega)).other (b' := w.heap.size + 1 + 1 + 1) (k := 1) (v := .int .u64 (((Y ^^^ L) : Nat) : Int)) (by omega)).other (b' := w.heap.size + 1) (k := 1) (v := .int .u64 (((L / 2 + H % 2 * 9223372036854775808) : Nat) : Int)) (by omega)).other (b' := w.heap.size + 1) (k := 0) (v := .int .u64 ((G : Nat) : Int)) (by omega)).other (b' := w.heap.size + 1) (k := 0) (v := .int .u64 (((G ^^^ 16212958658533785600) : Nat) : Int)) (by omega))
            have r1 := hide (((((q1.other (b' := w.heap.size + 1 + 1 + 1) (k := 0) (v := .int .u64 (((X ^^^ H) : Nat) : Int)) (by omega)).other (b' := w.heap.size + 1 + 1 + 1) (k := 1) (v := .int .u64 (((Y ^^^ L) : Nat) : Int)) (by omega)).put1 (L / 2 + H % 2 * 9223372036854775808)).put0 G).put0 (G ^^^ 16212958658533785600))
            have r2 := hide (((((q2.other (b' := w.heap.size + 1 + 1 + 1) (k := 0) (v := .int .u64 (((X ^^^ H) : Nat) : Int)) (by omega)).other (b' := w.heap.size + 1 + 1 + 1) (k := 1) (v := .int .u64 (((Y ^^^ L) : Nat) : Int)) (by omega)).other (b' := w.heap.size + 1) (k := 1) (v := .int .u64 (((L / 2 + H % 2 * 9223372036854775808) : Nat) : Int)) (by omega)).other (b' := w.heap.size + 1) (k := 0) (v := .int .u64 ((G : Nat) : Int)) (by omega)).other (b' := w.heap.size + 1) (k := 0) (v := .int .u64 (((G ^^^ 16212958658533785600) : Nat) : Int)) (by omega))
            have r3 := hide (((((q3.put0 (X ^^^ H)).put1 (Y ^^^ L)).other (b' := w.heap.size + 1) (k := 1) (v := .int .u64 (((L / 2 + H % 2 * 9223372036854775808) : Nat) : Int)) (by omega)).other (b' := w.heap.size + 1) (k := 0) (v := .int .u64 ((G : Nat) : Int)) (by omega)).other (b' := w.heap.size + 1) (k := 0) (v := .int .u64 (((G ^^^ 16212958658533785600) : Nat) : Int)) (by omega))
            have r4 := hide (((((hB.setCell (p := ⟨w.heap.size + 1 + 1 + 1, 0, none⟩) (show w.heap.size ≤ w.heap.size + 1 + 1 + 1 by omega) (.int .u64 (((X ^^^ H) : Nat) : Int))).setCell (p := ⟨w.heap.size + 1 + 1 + 1, 1, none⟩) (show w.heap.size ≤ w.heap.size + 1 + 1 + 1 by omega) (.int .u64 (((Y ^^^ L) : Nat) : Int))).setCell (p := ⟨w.heap.size + 1, 1, none⟩) (show w.heap.size ≤ w.heap.size + 1 by omega) (.int .u64 (((L / 2 + H % 2 * 9223372036854775808) : Nat) : Int))).setCell (p := ⟨w.heap.size + 1, 0, none⟩) (show w.heap.size ≤ w.heap.size + 1 by omega) (.int .u64 ((G : Nat) : Int))).setCell (p := ⟨w.heap.size + 1, 0, none⟩) (show w.heap.size ≤ w.heap.size + 1 by omega) (.int .u64 (((G ^^^ 16212958658533785600) : Nat) : Int)))
            have S := hide (And.intro (And.intro s1 s2) (And.intro s3 s4))
            clear aA aL q0 q1 q2 q3 hB s1 s2 s3 s4
            go_wp2
            rw [unhide xX, unhide xY, unhide oL, unhide xC]
            exact ⟨⟨i + 1, by omega, by go_num, unhide r0, by rw [(unhide S).1.1, (unhide S).1.2]; exact unhide r1, unhide r2, by rw [(unhide S).2.1, (unhide S).2.2]; exact unhide r3, unhide r4⟩, by simp [intOf]; omega⟩
          · have t1 : bits .and .u64 (y : Int) 1 = 1 := by omega
            have t2 : bits .and .u64 (L : Int) 1 = 0 := by omega
            have s1 : (bsP bh bl (i + 1)).1 = G := by rw [unhide HS]; show (if L % 2 = 1 then H / 2 ^^^ 16212958658533785600 else H / 2) = _; rw [if_neg hlow, unhide HG]
            have s2 : (bsP bh bl (i + 1)).2 = (L / 2 + H % 2 * 9223372036854775808) := by rw [unhide HS]
            have s3 : (ouP ah al bh bl (i + 1)).1 = X ^^^ H := by rw [unhide HO, unhide hA, unhide HY, if_pos hbit]
            have s4 : (ouP ah al bh bl (i + 1)).2 = Y ^^^ L := by rw [unhide HO, unhide hA, unhide HY, if_pos hbit]
            have r0 := hide ((((q0.other (b' := w.heap.size + 1 + 1 + 1) (k := 0) (v := .int .u64 (((X ^^^ H) : Nat) : Int)) (by omega)).other (b' := w.heap.size + 1 + 1 + 1) (k := 1) (v := .int .u64 (((Y ^^^ L) : Nat) : Int)) (by omega)).other (b' := w.heap.size + 1) (k := 1) (v := .int .u64 (((L / 2 + H % 2 * 9223372036854775808) : Nat) : Int)) (by omega)).other (b' := w.heap.size + 1) (k := 0) (v := .int .u64 ((G : Nat) : Int)) (by omega))
            have r1 := hide ((((q1.other (b' := w.heap.size + 1 + 1 + 1) (k := 0) (v := .int .u64 (((X ^^^ H) : Nat) : Int)) (by omega)).other (b' := w.heap.size + 1 + 1 + 1) (k := 1) (v := .int .u64 (((Y ^^^ L) : Nat) : Int)) (by omega)).put1 (L / 2 + H % 2 * 9223372036854775808)).put0 G)
            have r2 := hide ((((q2.other (b' := w.heap.size + 1 + 1 + 1) (k := 0) (v := .int .u64 (((X ^^^ H) : Nat) : Int)) (by omega)).other (b' := w.heap.size + 1 + 1 + 1) (k := 1) (v := .int .u64 (((Y ^^^ L) : Nat) : Int)) (by omega)).other (b' := w.heap.size + 1) (k := 1) (v := .int .u64 (((L / 2 + H % 2 * 9223372036854775808) : Nat) : Int)) (by omega)).other (b' := w.heap.size + 1) (k := 0) (v := .int .u64 ((G : Nat) : Int)) (by omega))
            have r3 := hide ((((q3.put0 (X ^^^ H)).put1 (Y ^^^ L)).other (b' := w.heap.size + 1) (k := 1) (v := .int .u64 (((L / 2 + H % 2 * 9223372036854775808) : Nat) : Int)) (by omega)).other (b' := w.heap.size + 1) (k := 0) (v := .int .u64 ((G : Nat) : Int)) (by omega))
            have r4 := hide ((((hB.setCell (p := ⟨w.heap.size + 1 + 1 + 1, 0, none⟩) (show w.heap.size ≤ w.heap.size + 1 + 1 + 1 by omega) (.int .u64 (((X ^^^ H) : Nat) : Int))).setCell (p := ⟨w.heap.size + 1 + 1 + 1, 1, none⟩) (show w.heap.size ≤ w.heap.size + 1 + 1 + 1 by omega) (.int .u64 (((Y ^^^ L) : Nat) : Int))).setCell (p := ⟨w.heap.size + 1, 1, none⟩) (show w.heap.size ≤ w.heap.size + 1 by omega) (.int .u64 (((L / 2 + H % 2 * 9223372036854775808) : Nat) : Int))).setCell (p := ⟨w.heap.size + 1, 0, none⟩) (show w.heap.size ≤ w.heap.size + 1 by omega) (.int .u64 ((G : Nat) : Int)))
            have S := hide (And.intro (And.intro s1 s2) (And.intro s3 s4))
            clear aA aL q0 q1 q2 q3 hB s1 s2 s3 s4
            go_wp2
            rw [unhide xX, unhide xY, unhide oL]
            exact ⟨⟨i + 1, by omega, by go_num, unhide r0, by rw [(unhide S).1.1, (unhide S).1.2]; exact unhide r1, unhide r2, by rw [(unhide S).2.1, (unhide S).2.2]; exact unhide r3, unhide r4⟩, by simp [intOf]; omega⟩
        · by_cases hlow : L % 2 = 1
          · have t1 : bits .and .u64 (y : Int) 1 = 0 := by omega
            have t2 : bits .and .u64 (L : Int) 1 = 1 := by omega
            have s1 : (bsP bh bl (i + 1)).1 = G ^^^ 16212958658533785600 := by rw [unhide HS]; show (if L % 2 = 1 then H / 2 ^^^ 16212958658533785600 else H / 2) = _; rw [if_pos hlow, unhide HG]
            have s2 : (bsP bh bl (i + 1)).2 = (L / 2 + H % 2 * 9223372036854775808) := by rw [unhide HS]
            have s3 : (ouP ah al bh bl (i + 1)).1 = X := by rw [unhide HO, unhide hA, unhide HY, if_neg hbit]; rw [unhide HP]
            have s4 : (ouP ah al bh bl (i + 1)).2 = Y := by rw [unhide HO, unhide hA, unhide HY, if_neg hbit]; rw [unhide HP]
            have r0 := hide (((q0.other (b' := w.heap.size + 1) (k := 1) (v := .int .u64 (((L / 2 + H % 2 * 9223372036854775808) : Nat) : Int)) (by omega)).other (b' := w.heap.size + 1) (k := 0) (v := .int .u64 ((G : Nat) : Int)) (by omega)).other (b' := w.heap.size + 1) (k := 0) (v := .int .u64 (((G ^^^ 16212958658533785600) : Nat) : Int)) (by omega))
            have r1 := hide (((q1.put1 (L / 2 + H % 2 * 9223372036854775808)).put0 G).put0 (G ^^^ 16212958658533785600))
            have r2 := hide (((q2.other (b' := w.heap.size + 1) (k := 1) (v := .int .u64 (((L / 2 + H % 2 * 9223372036854775808) : Nat) : Int)) (by omega)).other (b' := w.heap.size + 1) (k := 0) (v := .int .u64 ((G : Nat) : Int)) (by omega)).other (b' := w.heap.size + 1) (k := 0) (v := .int .u64 (((G ^^^ 16212958658533785600) : Nat) : Int)) (by omega))
            have r3 := hide (((q3.other (b' := w.heap.size + 1) (k := 1) (v := .int .u64 (((L / 2 + H % 2 * 9223372036854775808) : Nat) : Int)) (by omega)).other (b' := w.heap.size + 1) (k := 0) (v := .int .u64 ((G : Nat) : Int)) (by omega)).other (b' := w.heap.size + 1) (k := 0) (v := .int .u64 (((G ^^^ 16212958658533785600) : Nat) : Int)) (by omega))
            have r4 := hide (((hB.setCell (p := ⟨w.heap.size + 1, 1, none⟩) (show w.heap.size ≤ w.heap.size + 1 by omega) (.int .u64 (((L / 2 + H % 2 * 9223372036854775808) : Nat) : Int))).setCell (p := ⟨w.heap.size + 1, 0, none⟩) (show w.heap.size ≤ w.heap.size + 1 by omega) (.int .u64 ((G : Nat) : Int))).setCell (p := ⟨w.heap.size + 1, 0, none⟩) (show w.heap.size ≤ w.heap.size + 1 by omega) (.int .u64 (((G ^^^ 16212958658533785600) : Nat) : Int)))
            have S := hide (And.intro (And.intro s1 s2) (And.intro s3 s4))
            clear aA aL q0 q1 q2 q3 hB s1 s2 s3 s4
            go_wp2
            rw [unhide oL, unhide xC]
            exact ⟨⟨i + 1, by omega, by go_num, unhide r0, by rw [(unhide S).1.1, (unhide S).1.2]; exact unhide r1, unhide r2, by rw [(unhide S).2.1, (unhide S).2.2]; exact unhide r3, unhide r4⟩, by simp [intOf]; omega⟩
          · have t1 : bits .and .u64 (y : Int) 1 = 0 := by omega
            have t2 : bits .and .u64 (L : Int) 1 = 0 := by omega
            have s1 : (bsP bh bl (i + 1)).1 = G := by rw [unhide HS]; show (if L % 2 = 1 then H / 2 ^^^ 16212958658533785600 else H / 2) = _; rw [if_neg hlow, unhide HG]
            have s2 : (bsP bh bl (i + 1)).2 = (L / 2 + H % 2 * 9223372036854775808) := by rw [unhide HS]
            have s3 : (ouP ah al bh bl (i + 1)).1 = X := by rw [unhide HO, unhide hA, unhide HY, if_neg hbit]; rw [unhide HP]
            have s4 : (ouP ah al bh bl (i + 1)).2 = Y := by rw [unhide HO, unhide hA, unhide HY, if_neg hbit]; rw [unhide HP]
            have r0 := hide ((q0.other (b' := w.heap.size + 1) (k := 1) (v := .int .u64 (((L / 2 + H % 2 * 9223372036854775808) : Nat) : Int)) (by omega)).other (b' := w.heap.size + 1) (k := 0) (v := .int .u64 ((G : Nat) : Int)) (by omega))
            have r1 := hide ((q1.put1 (L / 2 + H % 2 * 9223372036854775808)).put0 G)
            have r2 := hide ((q2.other (b' := w.heap.size + 1) (k := 1) (v := .int .u64 (((L / 2 + H % 2 * 9223372036854775808) : Nat) : Int)) (by omega)).other (b' := w.heap.size + 1) (k := 0) (v := .int .u64 ((G : Nat) : Int)) (by omega))
            have r3 := hide ((q3.other (b' := w.heap.size + 1) (k := 1) (v := .int .u64 (((L / 2 + H % 2 * 9223372036854775808) : Nat) : Int)) (by omega)).other (b' := w.heap.size + 1) (k := 0) (v := .int .u64 ((G : Nat) : Int)) (by omega))
            have r4 := hide ((hB.setCell (p := ⟨w.heap.size + 1, 1, none⟩) (show w.heap.size ≤ w.heap.size + 1 by omega) (.int .u64 (((L / 2 + H % 2 * 9223372036854775808) : Nat) : Int))).setCell (p := ⟨w.heap.size + 1, 0, none⟩) (show w.heap.size ≤ w.heap.size + 1 by omega) (.int .u64 ((G : Nat) : Int)))
            have S := hide (And.intro (And.intro s1 s2) (And.intro s3 s4))
            clear aA aL q0 q1 q2 q3 hB s1 s2 s3 s4
            go_wp2
            rw [unhide oL]
            exact ⟨⟨i + 1, by omega, by go_num, unhide r0, by rw [(unhide S).1.1, (unhide S).1.2]; exact unhide r1, unhide r2, by rw [(unhide S).2.1, (unhide S).2.2]; exact unhide r3, unhide r4⟩, by simp [intOf]; omega⟩
      · obtain ⟨j, hj⟩ : ∃ j : Nat, j = 127 - i := ⟨_, rfl⟩
        have hjI : 127 - (i : Int) = (j : Int) := by omega
        have h63 : ¬ (i : Int) ≤ 63 := by omega
        obtain ⟨y, hy⟩ : ∃ y : Nat, y = al / 2 ^ j := ⟨_, rfl⟩
        have hyI : (al : Int) / 2 ^ j = (y : Int) := by rw [hy]; simp
        have hA : Hid (btA ah al i = al / 2 ^ j % 2) := by
          unfold btA
          rw [if_neg h64, ← hj]
          exact rfl
        have hdj : al / 2 ^ j ≤ al := Nat.div_le_self _ _
        have hy64 : y < 18446744073709551616 := by omega
        have aA := and1 (y : Int) (by omega) (by omega)
        have HJ := hide hj
        have HY := hide hy.symm
        clear hj hy hdj
        by_cases hbit : y % 2 = 1
        · by_cases hlow : L % 2 = 1
          · have t1 : bits .and .u64 (y : Int) 1 = 1 := by omega
            have t2 : bits .and .u64 (L : Int) 1 = 1 := by omega
            have s1 : (bsP bh bl (i + 1)).1 = G ^^^ 16212958658533785600 := by rw [unhide HS]; show (if L % 2 = 1 then H / 2 ^^^ 16212958658533785600 else H / 2) = _; rw [if_pos hlow, unhide HG]
            have s2 : (bsP bh bl (i + 1)).2 = (L / 2 + H % 2 * 9223372036854775808) := by rw [unhide HS]
            have s3 : (ouP ah al bh bl (i + 1)).1 = X ^^^ H := by rw [unhide HO, unhide hA, unhide HY, if_pos hbit]
            have s4 : (ouP ah al bh bl (i + 1)).2 = Y ^^^ L := by rw [unhide HO, unhide hA, unhide HY, if_pos hbit]
            have r0 := hide (((((q0.other (b' := w.heap.size + 1 + 1 + 1) (k := 0) (v := .int .u64 (((X ^^^ H) : Nat) : Int)) (by omega)).other (b' := w.heap.size + 1 + 1 + 1) (k := 1) (v := .int .u64 (((Y ^^^ L) : Nat) : Int)) (by omega)).other (b' := w.heap.size + 1) (k := 1) (v := .int .u64 (((L / 2 + H % 2 * 9223372036854775808) : Nat) : Int)) (by omega)).other (b' := w.heap.size + 1) (k := 0) (v := .int .u64 ((G : Nat) : Int)) (by omega)).other (b' := w.heap.size + 1) (k := 0) (v := .int .u64 (((G ^^^ 16212958658533785600) : Nat) : Int)) (by omega))
            have r1 := hide (((((q1.other (b' := w.heap.size + 1 + 1 + 1) (k := 0) (v := .int .u64 (((X ^^^ H) : Nat) : Int)) (by omega)).other (b' := w.heap.size + 1 + 1 + 1) (k := 1) (v := .int .u64 (((Y ^^^ L) : Nat) : Int)) (by omega)).put1 (L / 2 + H % 2 * 9223372036854775808)).put0 G).put0 (G ^^^ 16212958658533785600))
            have r2 := hide (((((q2.other (b' := w.heap.size + 1 + 1 + 1) (k := 0) (v := .int .u64 (((X ^^^ H) : Nat) : Int)) (by omega)).other (b' := w.heap.size + 1 + 1 + 1) (k := 1) (v := .int .u64 (((Y ^^^ L) : Nat) : Int)) (by omega)).other (b' := w.heap.size + 1) (k := 1) (v := .int .u64 (((L / 2 + H % 2 * 9223372036854775808) : Nat) : Int)) (by omega)).other (b' := w.heap.size + 1) (k := 0) (v := .int .u64 ((G : Nat) : Int)) (by omega)).other (b' := w.heap.size + 1) (k := 0) (v := .int .u64 (((G ^^^ 16212958658533785600) : Nat) : Int)) (by omega))
            have r3 := hide (((((q3.put0 (X ^^^ H)).put1 (Y ^^^ L)).other (b' := w.heap.size + 1) (k := 1) (v := .int .u64 (((L / 2 + H % 2 * 9223372036854775808) : Nat) : Int)) (by omega)).other (b' := w.heap.size + 1) (k := 0) (v := .int .u64 ((G : Nat) : Int)) (by omega)).other (b' := w.heap.size + 1) (k := 0) (v := .int .u64 (((G ^^^ 16212958658533785600) : Nat) : Int)) (by omega))
            have r4 := hide (((((hB.setCell (p := ⟨w.heap.size + 1 + 1 + 1, 0, none⟩) (show w.heap.size ≤ w.heap.size + 1 + 1 + 1 by omega) (.int .u64 (((X ^^^ H) : Nat) : Int))).setCell (p := ⟨w.heap.size + 1 + 1 + 1, 1, none⟩) (show w.heap.size ≤ w.heap.size + 1 + 1 + 1 by omega) (.int .u64 (((Y ^^^ L) : Nat) : Int))).setCell (p := ⟨w.heap.size + 1, 1, none⟩) (show w.heap.size ≤ w.heap.size + 1 by omega) (.int .u64 (((L / 2 + H % 2 * 9223372036854775808) : Nat) : Int))).setCell (p := ⟨w.heap.size + 1, 0, none⟩) (show w.heap.size ≤ w.heap.size + 1 by omega) (.int .u64 ((G : Nat) : Int))).setCell (p := ⟨w.heap.size + 1, 0, none⟩) (show w.heap.size ≤ w.heap.size + 1 by omega) (.int .u64 (((G ^^^ 16212958658533785600) : Nat) : Int)))
            have S := hide (And.intro (And.intro s1 s2) (And.intro s3 s4))
            clear aA aL q0 q1 q2 q3 hB s1 s2 s3 s4
            go_wp2
            rw [unhide xX, unhide xY, unhide oL, unhide xC]
            exact ⟨⟨i + 1, by omega, by go_num, unhide r0, by rw [(unhide S).1.1, (unhide S).1.2]; exact unhide r1, unhide r2, by rw [(unhide S).2.1, (unhide S).2.2]; exact unhide r3, unhide r4⟩, by simp [intOf]; omega⟩
          · have t1 : bits .and .u64 (y : Int) 1 = 1 := by omega
            have t2 : bits .and .u64 (L : Int) 1 = 0 := by omega
            have s1 : (bsP bh bl (i + 1)).1 = G := by rw [unhide HS]; show (if L % 2 = 1 then H / 2 ^^^ 16212958658533785600 else H / 2) = _; rw [if_neg hlow, unhide HG]
            have s2 : (bsP bh bl (i + 1)).2 = (L / 2 + H % 2 * 9223372036854775808) := by rw [unhide HS]
            have s3 : (ouP ah al bh bl (i + 1)).1 = X ^^^ H := by rw [unhide HO, unhide hA, unhide HY, if_pos hbit]
            have s4 : (ouP ah al bh bl (i + 1)).2 = Y ^^^ L := by rw [unhide HO, unhide hA, unhide HY, if_pos hbit]
            have r0 := hide ((((q0.other (b' := w.heap.size + 1 + 1 + 1) (k := 0) (v := .int .u64 (((X ^^^ H) : Nat) : Int)) (by omega)).other (b' := w.heap.size + 1 + 1 + 1) (k := 1) (v := .int .u64 (((Y ^^^ L) : Nat) : Int)) (by omega)).other (b' := w.heap.size + 1) (k := 1) (v := .int .u64 (((L / 2 + H % 2 * 9223372036854775808) : Nat) : Int)) (by omega)).other (b' := w.heap.size + 1) (k := 0) (v := .int .u64 ((G : Nat) : Int)) (by omega))
            have r1 := hide ((((q1.other (b' := w.heap.size + 1 + 1 + 1) (k := 0) (v := .int .u64 (((X ^^^ H) : Nat) : Int)) (by omega)).other (b' := w.heap.size + 1 + 1 + 1) (k := 1) (v := .int .u64 (((Y ^^^ L) : Nat) : Int)) (by omega)).put1 (L / 2 + H % 2 * 9223372036854775808)).put0 G)
            have r2 := hide ((((q2.other (b' := w.heap.size + 1 + 1 + 1) (k := 0) (v := .int .u64 (((X ^^^ H) : Nat) : Int)) (by omega)).other (b' := w.heap.size + 1 + 1 + 1) (k := 1) (v := .int .u64 (((Y ^^^ L) : Nat) : Int)) (by omega)).other (b' := w.heap.size + 1) (k := 1) (v := .int .u64 (((L / 2 + H % 2 * 9223372036854775808) : Nat) : Int)) (by omega)).other (b' := w.heap.size + 1) (k := 0) (v := .int .u64 ((G : Nat) : Int)) (by omega))
            have r3 := hide ((((q3.put0 (X ^^^ H)).put1 (Y ^^^ L)).other (b' := w.heap.size + 1) (k := 1) (v := .int .u64 (((L / 2 + H % 2 * 9223372036854775808) : Nat) : Int)) (by omega)).other (b' := w.heap.size + 1) (k := 0) (v := .int .u64 ((G : Nat) : Int)) (by omega))
            have r4 := hide ((((hB.setCell (p := ⟨w.heap.size + 1 + 1 + 1, 0, none⟩) (show w.heap.size ≤ w.heap.size + 1 + 1 + 1 by omega) (.int .u64 (((X ^^^ H) : Nat) : Int))).setCell (p := ⟨w.heap.size + 1 + 1 + 1, 1, none⟩) (show w.heap.size ≤ w.heap.size + 1 + 1 + 1 by omega) (.int .u64 (((Y ^^^ L) : Nat) : Int))).setCell (p := ⟨w.heap.size + 1, 1, none⟩) (show w.heap.size ≤ w.heap.size + 1 by omega) (.int .u64 (((L / 2 + H % 2 * 9223372036854775808) : Nat) : Int))).setCell (p := ⟨w.heap.size + 1, 0, none⟩) (show w.heap.size ≤ w.heap.size + 1 by omega) (.int .u64 ((G : Nat) : Int)))
            have S := hide (And.intro (And.intro s1 s2) (And.intro s3 s4))
            clear aA aL q0 q1 q2 q3 hB s1 s2 s3 s4
            go_wp2
            rw [unhide xX, unhide xY, unhide oL]
            exact ⟨⟨i + 1, by omega, by go_num, unhide r0, by rw [(unhide S).1.1, (unhide S).1.2]; exact unhide r1, unhide r2, by rw [(unhide S).2.1, (unhide S).2.2]; exact unhide r3, unhide r4⟩, by simp [intOf]; omega⟩
        · by_cases hlow : L % 2 = 1
          · have t1 : bits .and .u64 (y : Int) 1 = 0 := by omega
            have t2 : bits .and .u64 (L : Int) 1 = 1 := by omega
            have s1 : (bsP bh bl (i + 1)).1 = G ^^^ 16212958658533785600 := by rw [unhide HS]; show (if L % 2 = 1 then H / 2 ^^^ 16212958658533785600 else H / 2) = _; rw [if_pos hlow, unhide HG]
            have s2 : (bsP bh bl (i + 1)).2 = (L / 2 + H % 2 * 9223372036854775808) := by rw [unhide HS]
            have s3 : (ouP ah al bh bl (i + 1)).1 = X := by rw [unhide HO, unhide hA, unhide HY, if_neg hbit]; rw [unhide HP]
            have s4 : (ouP ah al bh bl (i + 1)).2 = Y := by rw [unhide HO, unhide hA, unhide HY, if_neg hbit]; rw [unhide HP]
            have r0 := hide (((q0.other (b' := w.heap.size + 1) (k := 1) (v := .int .u64 (((L / 2 + H % 2 * 9223372036854775808) : Nat) : Int)) (by omega)).other (b' := w.heap.size + 1) (k := 0) (v := .int .u64 ((G : Nat) : Int)) (by omega)).other (b' := w.heap.size + 1) (k := 0) (v := .int .u64 (((G ^^^ 16212958658533785600) : Nat) : Int)) (by omega))
            have r1 := hide (((q1.put1 (L / 2 + H % 2 * 9223372036854775808)).put0 G).put0 (G ^^^ 16212958658533785600))
            have r2 := hide (((q2.other (b' := w.heap.size + 1) (k := 1) (v := .int .u64 (((L / 2 + H % 2 * 9223372036854775808) : Nat) : Int)) (by omega)).other (b' := w.heap.size + 1) (k := 0) (v := .int .u64 ((G : Nat) : Int)) (by omega)).other (b' := w.heap.size + 1) (k := 0) (v := .int .u64 (((G ^^^ 16212958658533785600) : Nat) : Int)) (by omega))
            have r3 := hide (((q3.other (b' := w.heap.size + 1) (k := 1) (v := .int .u64 (((L / 2 + H % 2 * 9223372036854775808) : Nat) : Int)) (by omega)).other (b' := w.heap.size + 1) (k := 0) (v := .int .u64 ((G : Nat) : Int)) (by omega)).other (b' := w.heap.size + 1) (k := 0) (v := .int .u64 (((G ^^^ 16212958658533785600) : Nat) : Int)) (by omega))
            have r4 := hide (((hB.setCell (p := ⟨w.heap.size + 1, 1, none⟩) (show w.heap.size ≤ w.heap.size + 1 by omega) (.int .u64 (((L / 2 + H % 2 * 9223372036854775808) : Nat) : Int))).setCell (p := ⟨w.heap.size + 1, 0, none⟩) (show w.heap.size ≤ w.heap.size + 1 by omega) (.int .u64 ((G : Nat) : Int))).setCell (p := ⟨w.heap.size + 1, 0, none⟩) (show w.heap.size ≤ w.heap.size + 1 by omega) (.int .u64 (((G ^^^ 16212958658533785600) : Nat) : Int)))
            have S := hide (And.intro (And.intro s1 s2) (And.intro s3 s4))
            clear aA aL q0 q1 q2 q3 hB s1 s2 s3 s4
            go_wp2
            rw [unhide oL, unhide xC]
            exact ⟨⟨i + 1, by omega, by go_num, unhide r0, by rw [(unhide S).1.1, (unhide S).1.2]; exact unhide r1, unhide r2, by rw [(unhide S).2.1, (unhide S).2.2]; exact unhide r3, unhide r4⟩, by simp [intOf]; omega⟩
          · have t1 : bits .and .u64 (y : Int) 1 = 0 := by omega
            have t2 : bits .and .u64 (L : Int) 1 = 0 := by omega
            have s1 : (bsP bh bl (i + 1)).1 = G := by rw [unhide HS]; show (if L % 2 = 1 then H / 2 ^^^ 16212958658533785600 else H / 2) = _; rw [if_neg hlow, unhide HG]
            have s2 : (bsP bh bl (i + 1)).2 = (L / 2 + H % 2 * 9223372036854775808) := by rw [unhide HS]
            have s3 : (ouP ah al bh bl (i + 1)).1 = X := by rw [unhide HO, unhide hA, unhide HY, if_neg hbit]; rw [unhide HP]
            have s4 : (ouP ah al bh bl (i + 1)).2 = Y := by rw [unhide HO, unhide hA, unhide HY, if_neg hbit]; rw [unhide HP]
            have r0 := hide ((q0.other (b' := w.heap.size + 1) (k := 1) (v := .int .u64 (((L / 2 + H % 2 * 9223372036854775808) : Nat) : Int)) (by omega)).other (b' := w.heap.size + 1) (k := 0) (v := .int .u64 ((G : Nat) : Int)) (by omega))
            have r1 := hide ((q1.put1 (L / 2 + H % 2 * 9223372036854775808)).put0 G)
            have r2 := hide ((q2.other (b' := w.heap.size + 1) (k := 1) (v := .int .u64 (((L / 2 + H % 2 * 9223372036854775808) : Nat) : Int)) (by omega)).other (b' := w.heap.size + 1) (k := 0) (v := .int .u64 ((G : Nat) : Int)) (by omega))
            have r3 := hide ((q3.other (b' := w.heap.size + 1) (k := 1) (v := .int .u64 (((L / 2 + H % 2 * 9223372036854775808) : Nat) : Int)) (by omega)).other (b' := w.heap.size + 1) (k := 0) (v := .int .u64 ((G : Nat) : Int)) (by omega))
            have r4 := hide ((hB.setCell (p := ⟨w.heap.size + 1, 1, none⟩) (show w.heap.size ≤ w.heap.size + 1 by omega) (.int .u64 (((L / 2 + H % 2 * 9223372036854775808) : Nat) : Int))).setCell (p := ⟨w.heap.size + 1, 0, none⟩) (show w.heap.size ≤ w.heap.size + 1 by omega) (.int .u64 ((G : Nat) : Int)))
            have S := hide (And.intro (And.intro s1 s2) (And.intro s3 s4))
            clear aA aL q0 q1 q2 q3 hB s1 s2 s3 s4
            go_wp2
            rw [unhide oL]
            exact ⟨⟨i + 1, by omega, by go_num, unhide r0, by rw [(unhide S).1.1, (unhide S).1.2]; exact unhide r1, unhide r2, by rw [(unhide S).2.1, (unhide S).2.2]; exact unhide r3, unhide r4⟩, by simp [intOf]; omega⟩
    · obtain rfl : i = 128 := by omega
      have HR := hide (q2.put0 (ouP ah al bh bl 128).1)
      have HR1 := hide ((unhide HR).put1 (ouP ah al bh bl 128).2)
      have c0 := q3.c0
      have c1 := q3.c1
      have g0 := q2.c0
      have g1 := q2.c1
      have g2 := q2.f0
      have g3 := q2.f1
      have B9 := hide ((hB.setCell (p := ⟨w.heap.size + 1 + 1, 0, none⟩) (show w.heap.size ≤ w.heap.size + 1 + 1 by omega) (.int .u64 ((ouP ah al bh bl 128).1 : Nat))).setCell (p := ⟨w.heap.size + 1 + 1, 1, none⟩) (show w.heap.size ≤ w.heap.size + 1 + 1 by omega) (.int .u64 ((ouP ah al bh bl 128).2 : Nat)))
      clear q0 q1 q2 q3 hB HR
      go_wp2
      refine ret_two 4 (w.heap.size + 1 + 1) (ouP ah al bh bl 128).1 (ouP ah al bh bl 128).2 46 _ ?r1 ?r2 ?r3 (unhide HR1) Try.underlying46 rfl info_l5 ?_
      case r1 => rfl
      case r2 => rfl
      case r3 => rfl
      exact ⟨rfl, unhide B9⟩
end Go.Proofs.Ytgoafbhhihfkfaa
namespace Go.Proofs.Ytgoafbhhihfkfaa
open Go.ChangeShapes Go.WideShapes Go.ChangeAt Go.RowKit
set_option linter.unusedVariables false

/-- two words as a block -/
def tlW (h l : Nat) : ByteArray := bq 8 (fun i => byN h (7 - i)) ++ bq 8 (fun i => byN l (7 - i))
theorem tlW_size (h l : Nat) : (tlW h l).size = 16 := by unfold tlW; rw [ByteArray.size_append, bq_size, bq_size]
set_option maxRecDepth 100000 in
set_option maxHeartbeats 1000000 in
theorem specTold (h l : Nat) (hh : h < 18446744073709551616) (hl : l < 18446744073709551616) (w : World) :
    Calls Try.prog 29 #[.agg #[.int .u64 (h : Nat), .int .u64 (l : Nat)]] w fun e w' => e = .returned (.string (tlW h l)) ∧ Below w.heap.size w w' := by
  have H1 := hide (fun W => specFix8 h hh W)
  have H2 := hide (fun W => specFix8 l hl W)
  have ad1 := fun W : World => run_string_add_sum (P := Try.prog) (w := W) (bq 8 (fun i => byN h (7 - i))) (bq 8 (fun i => byN l (7 - i))) (by rw [bq_size, bq_size]; omega)
  unfold tlW
  generalize (bq 8 (fun i => byN h (7 - i)) ++ bq 8 (fun i => byN l (7 - i))) = t at *
  generalize bq 8 (fun i => byN h (7 - i)) = t1 at *
  generalize bq 8 (fun i => byN l (7 - i)) = t2 at *
  go_enter Try.func29, Try.ntmps29
  go_wp2_with fail
  have N0 := q2_new w h l 46
  have B0 := ((Below.refl w.heap.size w).alloc (Nat.le_refl _) (.cells #[.int .u64 (h : Nat), .int .u64 (l : Nat)] 46)).drew
  have z0 : w.heap.size < (w.alloc (.cells #[.int .u64 (h : Nat), .int .u64 (l : Nat)] 46)).drew.heap.size := by simp
  generalize (w.alloc (.cells #[.int .u64 (h : Nat), .int .u64 (l : Nat)] 46)) = W at N0 B0 z0 ⊢
  have S0 : Hid (W.drew.cell? ⟨w.heap.size, 0, none⟩ = some (.int .u64 (h : Nat)) ∧ W.drew.cell? ⟨w.heap.size, 1, none⟩ = some (.int .u64 (l : Nat))) := ⟨N0.c0, N0.c1⟩
  have KQ : Hid (∀ V, Below W.drew.heap.size W.drew V → V.cell? ⟨w.heap.size, 0, none⟩ = some (.int .u64 (h : Nat)) ∧ V.cell? ⟨w.heap.size, 1, none⟩ = some (.int .u64 (l : Nat))) := fun V hV => ⟨(N0.keep hV z0).c0, (N0.keep hV z0).c1⟩
  have BW := hide B0
  clear N0 B0 z0
  go_region_held3 (fun V => V.cell? ⟨w.heap.size, 0, none⟩ = some (.int .u64 (h : Nat)) ∧ V.cell? ⟨w.heap.size, 1, none⟩ = some (.int .u64 (l : Nat))) (first | exact unhide S0 | exact unhide KQ _ b9 | exact unhide KQ _ (b9.trans (b10.mono b9.size))) (first
    | (go_at_call 52; with_reducible refine (unhide H1 _).mono ?_; rintro e w9 ⟨rfl, b9⟩)
    | (go_at_call 52; with_reducible refine (unhide H2 _).mono ?_; rintro e w10 ⟨rfl, b10⟩))
  all_goals
    have BB := hide ((unhide BW).trans ((b9.trans (b10.mono b9.size)).mono (unhide BW).size))
    clear b9 b10 S0 KQ BW
    go_wp2
    go_ret
    exact ⟨rfl, unhide BB⟩
/-- the product of two blocks -/
def mbW (a b : ByteArray) : ByteArray := tlW (ouP (hiW a) (loW a) (hiW b) (loW b) 128).1 (ouP (hiW a) (loW a) (hiW b) (loW b) 128).2
theorem mbW_size (a b : ByteArray) : (mbW a b).size = 16 := tlW_size _ _
set_option maxRecDepth 100000 in
set_option maxHeartbeats 1000000 in
theorem specMB_ok (a b : ByteArray) (h : a.size = 16 ∧ b.size = 16) (w : World) :
    Calls Try.prog 11 #[.string a, .string b] w fun e w' => e = .returned (.tuple #[.string (mbW a b), .bool true]) ∧ Below w.heap.size w w' := by
  obtain ⟨ha, hb⟩ := h
  have hl := ouP_lt (hiW a) (loW a) (hiW b) (loW b) (hiW_lt b) (loW_lt b) 128
  have H1 := hide (fun W => specOf a ha W)
  have H2 := hide (fun W => specOf b hb W)
  have H3 := hide (fun W => specMulB (hiW a) (loW a) (hiW b) (loW b) (hiW_lt a) (loW_lt a) (hiW_lt b) (loW_lt b) W)
  have H4 := hide (fun W => specTold _ _ hl.1 hl.2 W)
  unfold mbW
  generalize tlW (ouP (hiW a) (loW a) (hiW b) (loW b) 128).1 (ouP (hiW a) (loW a) (hiW b) (loW b) 128).2 = t at *
  generalize (ouP (hiW a) (loW a) (hiW b) (loW b) 128).1 = x at *
  generalize (ouP (hiW a) (loW a) (hiW b) (loW b) 128).2 = y at *
  generalize hiW a = a1 at *
  generalize loW a = a2 at *
  generalize hiW b = b1 at *
  generalize loW b = b2 at *
  clear hl
  go_enter Try.func11, Try.ntmps11
  go_wp2_with (first
    | (go_at_call 31; with_reducible refine (unhide H1 _).mono ?_; rintro e w1 ⟨rfl, c1⟩; have C1 := hide c1; clear c1)
    | (go_at_call 31; with_reducible refine (unhide H2 _).mono ?_; rintro e w2 ⟨rfl, c2⟩; have C2 := hide c2; clear c2)
    | (go_at_call 30; with_reducible refine (unhide H3 _).mono ?_; rintro e w3 ⟨rfl, c3⟩; have C3 := hide c3; clear c3)
    | (go_at_call 29; with_reducible refine (unhide H4 _).mono ?_; rintro e w4 ⟨rfl, c4⟩; have C4 := hide c4; clear c4))
  go_ret2
  exact ⟨rfl, (unhide C1).trans (((unhide C2).trans (((unhide C3).trans ((unhide C4).mono (unhide C3).size)).mono (unhide C2).size)).mono (unhide C1).size)⟩
theorem specMB_no (a b : ByteArray) (h : ¬ (a.size = 16 ∧ b.size = 16)) (hl : a.size ≤ 1048576) (hl2 : b.size ≤ 1048576) (w : World) :
    Calls Try.prog 11 #[.string a, .string b] w fun e w' => e = .returned (.tuple #[.string ⟨#[]⟩, .bool false]) ∧ Below w.heap.size w w' := by
  by_cases hk : a.size = 16
  · have h1 : ((b.size : Int) != 16) = true := by simp; omega
    go_enter Try.func11, Try.ntmps11
    go_wp2
    go_ret2
    exact ⟨rfl, Below.refl _ _⟩
  · have h1 : ((a.size : Int) != 16) = true := by simp; omega
    go_enter Try.func11, Try.ntmps11
    go_wp2
    go_ret2
    exact ⟨rfl, Below.refl _ _⟩
end Go.Proofs.Ytgoafbhhihfkfaa
