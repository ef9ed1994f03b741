/-
  Contracts: the model's product of two blocks, walked.
-/
import Derived.Test.YtkpodgeinanceaaL5x
namespace Go.Proofs.Ytkpodgeinanceaa
open Go.ChangeShapes Go.WideShapes Go.ChangeAt Go.RowKit
set_option linter.unusedVariables false

theorem Q2.other {w : World} {b x y : Nat} (h : Q2 w b x y) {b' k : Nat} {v : Value} (hne : b' ≠ b) : Q2 (w.setCell ⟨b', k, none⟩ v) b x y := by
  have hn : ∀ q : Nat, (⟨b', k, none⟩ : Addr) ≠ ⟨b, q, none⟩ := fun q e => hne (congrArg Addr.block e)
  exact ⟨(World.cell?_setCell_other _ _ _ _ (hn 0)).trans h.c0, (World.cell?_setCell_other _ _ _ _ (hn 1)).trans h.c1, by rw [World.frozen?_setCell]; exact h.f0, by rw [World.frozen?_setCell]; exact h.f1⟩
theorem Q2.put0 {w : World} {b x y : Nat} (h : Q2 w b x y) (u : Nat) : Q2 (w.setCell ⟨b, 0, none⟩ (.int .u64 (u : Nat))) b u y :=
  ⟨World.cell?_setCell_same _ _ _ h.c0, (World.cell?_setCell_other _ _ _ _ (fun e => by simp at e)).trans h.c1, by rw [World.frozen?_setCell]; exact h.f0, by rw [World.frozen?_setCell]; exact h.f1⟩
theorem Q2.put1 {w : World} {b x y : Nat} (h : Q2 w b x y) (u : Nat) : Q2 (w.setCell ⟨b, 1, none⟩ (.int .u64 (u : Nat))) b x u :=
  ⟨(World.cell?_setCell_other _ _ _ _ (fun e => by simp at e)).trans h.c0, World.cell?_setCell_same _ _ _ h.c1, by rw [World.frozen?_setCell]; exact h.f0, by rw [World.frozen?_setCell]; exact h.f1⟩
theorem q2_own (w : World) (x y : Nat) (t : TypeId) : Q2 (w.alloc (.cells #[.int .u64 (x : Nat), .int .u64 (y : Nat)] t)) w.heap.size x y :=
  ⟨by simp, by simp, by simp, by simp⟩
theorem Q2.keep {w w' : World} {b x y : Nat} (h : Q2 w b x y) (hb : Below w.heap.size w w') (hl : b < w.heap.size) : Q2 w' b x y := by
  have e := hb.block b hl
  exact ⟨(World.cell?_of_block (a := ⟨b, 0, none⟩) e).trans h.c0, (World.cell?_of_block (a := ⟨b, 1, none⟩) e).trans h.c1, (World.frozen?_of_block (a := ⟨b, 0, none⟩) e).trans h.f0, (World.frozen?_of_block (a := ⟨b, 1, none⟩) e).trans h.f1⟩
theorem Q2.alloc {w : World} {b x y : Nat} (h : Q2 w b x y) (o : Obj) (hl : b < w.heap.size) : Q2 (w.alloc o) b x y := h.keep ((Below.refl _ _).alloc (Nat.le_refl _) o) hl
set_option maxRecDepth 100000 in
set_option maxHeartbeats 1000000 in
theorem specMulB (ah al bh bl : Nat) (hah : ah < 18446744073709551616) (hal : al < 18446744073709551616) (hbh : bh < 18446744073709551616) (hbl : bl < 18446744073709551616) (w : World) :
    Calls Try.prog 97 #[.agg #[.int .u64 (ah : Nat), .int .u64 (al : Nat)], .agg #[.int .u64 (bh : Nat), .int .u64 (bl : Nat)]] w fun e w' => e = .returned (.agg #[.int .u64 ((ouP ah al bh bl 128).1 : Nat), .int .u64 ((ouP ah al bh bl 128).2 : Nat)]) ∧ Below w.heap.size w w' := by
  have HBL := hide (fun i => bsP_lt bh bl hbh hbl i)
  have HOL := hide (fun i => ouP_lt ah al bh bl hbh hbl i)
  go_enter Try.func97, Try.ntmps97
  go_wp2_with fail
  have d0 := q2_own w ah al 113
  have e0 := (Below.refl w.heap.size w).alloc (Nat.le_refl _) (.cells #[.int .u64 (ah : Nat), .int .u64 (al : Nat)] 113)
  have z0 : (w.alloc (.cells #[.int .u64 (ah : Nat), .int .u64 (al : Nat)] 113)).heap.size = w.heap.size + 1 := by simp
  generalize w.alloc (.cells #[.int .u64 (ah : Nat), .int .u64 (al : Nat)] 113) = W0 at d0 e0 z0 ⊢
  have d1 := q2_own W0 bh bl 113
  have d0' := d0.alloc (.cells #[.int .u64 (bh : Nat), .int .u64 (bl : Nat)] 113) (by omega)
  have e1 := e0.alloc (by omega) (.cells #[.int .u64 (bh : Nat), .int .u64 (bl : Nat)] 113)
  have z1 : (W0.alloc (.cells #[.int .u64 (bh : Nat), .int .u64 (bl : Nat)] 113)).heap.size = w.heap.size + 1 + 1 := by simp [z0]
  generalize W0.alloc (.cells #[.int .u64 (bh : Nat), .int .u64 (bl : Nat)] 113) = W1 at d1 d0' e1 z1 ⊢
  rw [z0] at d1
  have d2 : Q2 (W1.alloc (.cells #[.int .u64 0, .int .u64 0] 113)) W1.heap.size 0 0 := q2_own W1 0 0 113
  have d0'' := d0'.alloc (.cells #[.int .u64 0, .int .u64 0] 113) (by omega)
  have d1' := d1.alloc (.cells #[.int .u64 0, .int .u64 0] 113) (by omega)
  have e2 := e1.alloc (by omega) (.cells #[.int .u64 0, .int .u64 0] 113)
  have z2 : (W1.alloc (.cells #[.int .u64 0, .int .u64 0] 113)).heap.size = w.heap.size + 1 + 1 + 1 := by simp [z1]
  generalize W1.alloc (.cells #[.int .u64 0, .int .u64 0] 113) = W2 at d2 d0'' d1' e2 z2 ⊢
  rw [z1] at d2
  have d3 : Q2 (W2.alloc (.cells #[.int .u64 0, .int .u64 0] 113)) W2.heap.size 0 0 := q2_own W2 0 0 113
  have f0 := hide (d0''.alloc (.cells #[.int .u64 0, .int .u64 0] 113) (by omega))
  have f1 := hide (d1'.alloc (.cells #[.int .u64 0, .int .u64 0] 113) (by omega))
  have f2 := hide (d2.alloc (.cells #[.int .u64 0, .int .u64 0] 113) (by omega))
  have e3 := hide (e2.alloc (by omega) (.cells #[.int .u64 0, .int .u64 0] 113))
  rw [z2] at d3
  have f3 := hide d3
  generalize W2.alloc (.cells #[.int .u64 0, .int .u64 0] 113) = W3 at f0 f1 f2 f3 e3 ⊢
  clear d0 e0 z0 d1 d0' e1 z1 d2 d0'' d1' e2 z2 d3
  go_loopw [6] (fun iv wr => ∃ i : Nat, i ≤ 128 ∧ iv = .int .i64 i ∧ Q2 wr w.heap.size ah al ∧ Q2 wr (w.heap.size + 1) (bsP bh bl i).1 (bsP bh bl i).2 ∧ Q2 wr (w.heap.size + 1 + 1) 0 0 ∧ Q2 wr (w.heap.size + 1 + 1 + 1) (ouP ah al bh bl i).1 (ouP ah al bh bl i).2 ∧ Below w.heap.size w wr) (fun iv _ => 128 - (intOf iv).toNat)
  case atStart => exact ⟨0, by omega, rfl, unhide f0, unhide f1, unhide f2, unhide f3, unhide e3⟩
  case round =>
    obtain ⟨i, hi, rfl, q0, q1, q2, q3, hB⟩ := hrel
    clear f0 f1 f2 f3 e3
    by_cases hlt : i < 128
    · obtain ⟨hb1, hb2⟩ := unhide HBL i
      obtain ⟨ho1, ho2⟩ := unhide HOL i
      have HS : Hid (bsP bh bl (i + 1) = (if (bsP bh bl i).2 % 2 = 1 then (bsP bh bl i).1 / 2 ^^^ 16212958658533785600 else (bsP bh bl i).1 / 2, (bsP bh bl i).2 / 2 + (bsP bh bl i).1 % 2 * 9223372036854775808)) := rfl
      have HO : Hid (ouP ah al bh bl (i + 1) = if btA ah al i = 1 then ((ouP ah al bh bl i).1 ^^^ (bsP bh bl i).1, (ouP ah al bh bl i).2 ^^^ (bsP bh bl i).2) else ouP ah al bh bl i) := rfl
      have HP : Hid (ouP ah al bh bl i = ((ouP ah al bh bl i).1, (ouP ah al bh bl i).2)) := rfl
      generalize (bsP bh bl i).1 = H at *
      generalize (bsP bh bl i).2 = L at *
      generalize (ouP ah al bh bl i).1 = X at *
      generalize (ouP ah al bh bl i).2 = Y at *
      obtain ⟨G, hG⟩ : ∃ G : Nat, G = H / 2 := ⟨_, rfl⟩
      have hGI : (H : Int) / 2 = (G : Int) := by omega
      have hG64 : G < 18446744073709551616 := by omega
      have HG := hide hG.symm
      clear hG
      have xX := hide (xor64 X H ho1 hb1)
      have xY := hide (xor64 Y L ho2 hb2)
      have xC : Hid (bits .xor .u64 (G : Int) 16212958658533785600 = ((G ^^^ 16212958658533785600 : Nat) : Int)) := xor64 G 16212958658533785600 hG64 (by omega)
      have oL := hide (or63 H L hb2)
      have aL := and1 (L : Int) (by omega) (by omega)
      have c0 := q0.c0
      have c1 := q0.c1
      have b0 := q1.c0
      have b1 := q1.c1
      have b2 := q1.f0
      have b3 := q1.f1
      have o0 := q3.c0
      have o1 := q3.c1
      have o2 := q3.f0
      have o3 := q3.f1
      by_cases h64 : i < 64
      · obtain ⟨j, hj⟩ : ∃ j : Nat, j = 63 - i := ⟨_, rfl⟩
        have hjI : 63 - (i : Int) = (j : Int) := by omega
        have h63 : (i : Int) ≤ 63 := by omega
        obtain ⟨y, hy⟩ : ∃ y : Nat, y = ah / 2 ^ j := ⟨_, rfl⟩
        have hyI : (ah : Int) / 2 ^ j = (y : Int) := by rw [hy]; simp
        have hA : Hid (btA ah al i = ah / 2 ^ j % 2) := by
          unfold btA
          rw [if_pos h64, ← hj]
          exact rfl
        have hdj : ah / 2 ^ j ≤ ah := Nat.div_le_self _ _
        have hy64 : y < 18446744073709551616 := by omega
        have aA := and1 (y : Int) (by omega) (by omega)
        have HJ := hide hj
        have HY := hide hy.symm
        clear hj hy hdj
        by_cases hbit : y % 2 = 1
        · by_cases hlow : L % 2 = 1
          · have t1 : bits .and .u64 (y : Int) 1 = 1 := by omega
            have t2 : bits .and .u64 (L : Int) 1 = 1 := by omega
            have s1 : (bsP bh bl (i + 1)).1 = G ^^^ 16212958658533785600 := by rw [unhide HS]; show (if L % 2 = 1 then H / 2 ^^^ 16212958658533785600 else H / 2) = _; rw [if_pos hlow, unhide HG]
            have s2 : (bsP bh bl (i + 1)).2 = (L / 2 + H % 2 * 9223372036854775808) := by rw [unhide HS]
            have s3 : (ouP ah al bh bl (i + 1)).1 = X ^^^ H := by rw [unhide HO, unhide hA, unhide HY, if_pos hbit]
            have s4 : (ouP ah al bh bl (i + 1)).2 = Y ^^^ L := by rw [unhide HO, unhide hA, unhide HY, if_pos hbit]
            have r0 := hide (((((q0.other (b' := w.heap.size + 1 + 1 + 1) (k := 0) (v := .int .u64 (((X ^^^ H) : Nat) : Int)) (by omega)).other (b' := w.heap.size + 1 + 1 + 1) (k := 1) (v := .int .u64 (((Y ^^^ L) : Nat) : Int)) (by omega)).other (b' := w.heap.size + 1) (k := 1) (v := .int .u64 (((L / 2 + H % 2 * 9223372036854775808) : Nat) : Int)) (by omega)).other (b' := w.heap.size + 1) (k := 0) (v := .int .u64 ((G : Nat) : Int)) (by omega)).other (b' := w.heap.size + 1) (k := 0) (v := .int .u64 (((G ^^^ 16212958658533785600) : Nat) : Int)) (by omega))
            have r1 := hide (((((q1.other (b' := w.heap.size + 1 + 1 + 1) (k := 0) (v := .int .u64 (((X ^^^ H) : Nat) : Int)) (by omega)).other (b' := w.heap.size + 1 + 1 + 1) (k := 1) (v := .int .u64 (((Y ^^^ L) : Nat) : Int)) (by omega)).put1 (L / 2 + H % 2 * 9223372036854775808)).put0 G).put0 (G ^^^ 16212958658533785600))
            have r2 := hide (((((q2.other (b' := w.heap.size + 1 + 1 + 1) (k := 0) (v := .int .u64 (((X ^^^ H) : Nat) : Int)) (by omega)).other (b' := w.heap.size + 1 + 1 + 1) (k := 1) (v := .int .u64 (((Y ^^^ L) : Nat) : Int)) (by omega)).other (b' := w.heap.size + 1) (k := 1) (v := .int .u64 (((L / 2 + H % 2 * 9223372036854775808) : Nat) : Int)) (by omega)).other (b' := w.heap.size + 1) (k := 0) (v := .int .u64 ((G : Nat) : Int)) (by omega)).other (b' := w.heap.size + 1) (k := 0) (v := .int .u64 (((G ^^^ 16212958658533785600) : Nat) : Int)) (by omega))
            have r3 := hide (((((q3.put0 (X ^^^ H)).put1 (Y ^^^ L)).other (b' := w.heap.size + 1) (k := 1) (v := .int .u64 (((L / 2 + H % 2 * 9223372036854775808) : Nat) : Int)) (by omega)).other (b' := w.heap.size + 1) (k := 0) (v := .int .u64 ((G : Nat) : Int)) (by omega)).other (b' := w.heap.size + 1) (k := 0) (v := .int .u64 (((G ^^^ 16212958658533785600) : Nat) : Int)) (by omega))
            have r4 := hide (((((hB.setCell (p := ⟨w.heap.size + 1 + 1 + 1, 0, none⟩) (show w.heap.size ≤ w.heap.size + 1 + 1 + 1 by omega) (.int .u64 (((X ^^^ H) : Nat) : Int))).setCell (p := ⟨w.heap.size + 1 + 1 + 1, 1, none⟩) (show w.heap.size ≤ w.heap.size + 1 + 1 + 1 by omega) (.int .u64 (((Y ^^^ L) : Nat) : Int))).setCell (p := ⟨w.heap.size + 1, 1, none⟩) (show w.heap.size ≤ w.heap.size + 1 by omega) (.int .u64 (((L / 2 + H % 2 * 9223372036854775808) : Nat) : Int))).setCell (p := ⟨w.heap.size + 1, 0, none⟩) (show w.heap.size ≤ w.heap.size + 1 by omega) (.int .u64 ((G : Nat) : Int))).setCell (p := ⟨w.heap.size + 1, 0, none⟩) (show w.heap.size ≤ w.heap.size + 1 by omega) (.int .u64 (((G ^^^ 16212958658533785600) : Nat) : Int)))
            have S := hide (And.intro (And.intro s1 s2) (And.intro s3 s4))
            clear aA aL q0 q1 q2 q3 hB s1 s2 s3 s4
            go_wp2
            rw [unhide xX, unhide xY, unhide oL, unhide xC]
            exact ⟨⟨i + 1, by omega, by go_num, unhide r0, by rw [(unhide S).1.1, (unhide S).1.2]; exact unhide r1, unhide r2, by rw [(unhide S).2.1, (unhide S).2.2]; exact unhide r3, unhide r4⟩, by simp [intOf]; omega⟩
          · have t1 : bits .and .u64 (y : Int) 1 = 1 := by omega
            have t2 : bits .and .u64 (L : Int) 1 = 0 := by omega
            have s1 : (bsP bh bl (i + 1)).1 = G := by rw [unhide HS]; show (if L % 2 = 1 then H / 2 ^^^ 16212958658533785600 else H / 2) = _; rw [if_neg hlow, unhide HG]
            have s2 : (bsP bh bl (i + 1)).2 = (L / 2 + H % 2 * 9223372036854775808) := by rw [unhide HS]
            have s3 : (ouP ah al bh bl (i + 1)).1 = X ^^^ H := by rw [unhide HO, unhide hA, unhide HY, if_pos hbit]
            have s4 : (ouP ah al bh bl (i + 1)).2 = Y ^^^ L := by rw [unhide HO, unhide hA, unhide HY, if_pos hbit]
            have r0 := hide ((((q0.other (b' := w.heap.size + 1 + 1 + 1) (k := 0) (v := .int .u64 (((X ^^^ H) : Nat) : Int)) (by omega)).other (b' := w.heap.size + 1 + 1 + 1) (k := 1) (v := .int .u64 (((Y ^^^ L) : Nat) : Int)) (by omega)).other (b' := w.heap.size + 1) (k := 1) (v := .int .u64 (((L / 2 + H % 2 * 9223372036854775808) : Nat) : Int)) (by omega)).other (b' := w.heap.size + 1) (k := 0) (v := .int .u64 ((G : Nat) : Int)) (by omega))
            have r1 := hide ((((q1.other (b' := w.heap.size + 1 + 1 + 1) (k := 0) (v := .int .u64 (((X ^^^ H) : Nat) : Int)) (by omega)).other (b' := w.heap.size + 1 + 1 + 1) (k := 1) (v := .int .u64 (((Y ^^^ L) : Nat) : Int)) (by omega)).put1 (L / 2 + H % 2 * 9223372036854775808)).put0 G)
            have r2 := hide ((((q2.other (b' := w.heap.size + 1 + 1 + 1) (k := 0) (v := .int .u64 (((X ^^^ H) : Nat) : Int)) (by omega)).other (b' := w.heap.size + 1 + 1 + 1) (k := 1) (v := .int .u64 (((Y ^^^ L) : Nat) : Int)) (by omega)).other (b' := w.heap.size + 1) (k := 1) (v := .int .u64 (((L / 2 + H % 2 * 9223372036854775808) : Nat) : Int)) (by omega)).other (b' := w.heap.size + 1) (k := 0) (v := .int .u64 ((G : Nat) : Int)) (by omega))
            have r3 := hide ((((q3.put0 (X ^^^ H)).put1 (Y ^^^ L)).other (b' := w.heap.size + 1) (k := 1) (v := .int .u64 (((L / 2 + H % 2 * 9223372036854775808) : Nat) : Int)) (by omega)).other (b' := w.heap.size + 1) (k := 0) (v := .int .u64 ((G : Nat) : Int)) (by omega))
            have r4 := hide ((((hB.setCell (p := ⟨w.heap.size + 1 + 1 + 1, 0, none⟩) (show w.heap.size ≤ w.heap.size + 1 + 1 + 1 by omega) (.int .u64 (((X ^^^ H) : Nat) : Int))).setCell (p := ⟨w.heap.size + 1 + 1 + 1, 1, none⟩) (show w.heap.size ≤ w.heap.size + 1 + 1 + 1 by omega) (.int .u64 (((Y ^^^ L) : Nat) : Int))).setCell (p := ⟨w.heap.size + 1, 1, none⟩) (show w.heap.size ≤ w.heap.size + 1 by omega) (.int .u64 (((L / 2 + H % 2 * 9223372036854775808) : Nat) : Int))).setCell (p := ⟨w.heap.size + 1, 0, none⟩) (show w.heap.size ≤ w.heap.size + 1 by omega) (.int .u64 ((G : Nat) : Int)))
            have S := hide (And.intro (And.intro s1 s2) (And.intro s3 s4))
            clear aA aL q0 q1 q2 q3 hB s1 s2 s3 s4
            go_wp2
            rw [unhide xX, unhide xY, unhide oL]
            exact ⟨⟨i + 1, by omega, by go_num, unhide r0, by rw [(unhide S).1.1, (unhide S).1.2]; exact unhide r1, unhide r2, by rw [(unhide S).2.1, (unhide S).2.2]; exact unhide r3, unhide r4⟩, by simp [intOf]; omega⟩
        · by_cases hlow : L % 2 = 1
          · have t1 : bits .and .u64 (y : Int) 1 = 0 := by omega
            have t2 : bits .and .u64 (L : Int) 1 = 1 := by omega
            have s1 : (bsP bh bl (i + 1)).1 = G ^^^ 16212958658533785600 := by rw [unhide HS]; show (if L % 2 = 1 then H / 2 ^^^ 16212958658533785600 else H / 2) = _; rw [if_pos hlow, unhide HG]
            have s2 : (bsP bh bl (i + 1)).2 = (L / 2 + H % 2 * 9223372036854775808) := by rw [unhide HS]
            have s3 : (ouP ah al bh bl (i + 1)).1 = X := by rw [unhide HO, unhide hA, unhide HY, if_neg hbit]; rw [unhide HP]
            have s4 : (ouP ah al bh bl (i + 1)).2 = Y := by rw [unhide HO, unhide hA, unhide HY, if_neg hbit]; rw [unhide HP]
            have r0 := hide (((q0.other (b' := w.heap.size + 1) (k := 1) (v := .int .u64 (((L / 2 + H % 2 * 9223372036854775808) : Nat) : Int)) (by omega)).other (b' := w.heap.size + 1) (k := 0) (v := .int .u64 ((G : Nat) : Int)) (by omega)).other (b' := w.heap.size + 1) (k := 0) (v := .int .u64 (((G ^^^ 16212958658533785600) : Nat) : Int)) (by omega))
            have r1 := hide (((q1.put1 (L / 2 + H % 2 * 9223372036854775808)).put0 G).put0 (G ^^^ 16212958658533785600))
            have r2 := hide (((q2.other (b' := w.heap.size + 1) (k := 1) (v := .int .u64 (((L / 2 + H % 2 * 9223372036854775808) : Nat) : Int)) (by omega)).other (b' := w.heap.size + 1) (k := 0) (v := .int .u64 ((G : Nat) : Int)) (by omega)).other (b' := w.heap.size + 1) (k := 0) (v := .int .u64 (((G ^^^ 16212958658533785600) : Nat) : Int)) (by omega))
            have r3 := hide (((q3.other (b' := w.heap.size + 1) (k := 1) (v := .int .u64 (((L / 2 + H % 2 * 9223372036854775808) : Nat) : Int)) (by omega)).other (b' := w.heap.size + 1) (k := 0) (v := .int .u64 ((G : Nat) : Int)) (by omega)).other (b' := w.heap.size + 1) (k := 0) (v := .int .u64 (((G ^^^ 16212958658533785600) : Nat) : Int)) (by omega))
            have r4 := hide (((hB.setCell (p := ⟨w.heap.size + 1, 1, none⟩) (show w.heap.size ≤ w.heap.size + 1 by omega) (.int .u64 (((L / 2 + H % 2 * 9223372036854775808) : Nat) : Int))).setCell (p := ⟨w.heap.size + 1, 0, none⟩) (show w.heap.size ≤ w.heap.size + 1 by omega) (.int .u64 ((G : Nat) : Int))).setCell (p := ⟨w.heap.size + 1, 0, none⟩) (show w.heap.size ≤ w.heap.size + 1 by omega) (.int .u64 (((G ^^^ 16212958658533785600) : Nat) : Int)))
            have S := hide (And.intro (And.intro s1 s2) (And.intro s3 s4))
            clear aA aL q0 q1 q2 q3 hB s1 s2 s3 s4
            go_wp2
            rw [unhide oL, unhide xC]
            exact ⟨⟨i + 1, by omega, by go_num, unhide r0, by rw [(unhide S).1.1, (unhide S).1.2]; exact unhide r1, unhide r2, by rw [(unhide S).2.1, (unhide S).2.2]; exact unhide r3, unhide r4⟩, by simp [intOf]; omega⟩
          · have t1 : bits .and .u64 (y : Int) 1 = 0 := by omega
            have t2 : bits .and .u64 (L : Int) 1 = 0 := by omega
            have s1 : (bsP bh bl (i + 1)).1 = G := by rw [unhide HS]; show (if L % 2 = 1 then H / 2 ^^^ 16212958658533785600 else H / 2) = _; rw [if_neg hlow, unhide HG]
            have s2 : (bsP bh bl (i + 1)).2 = (L / 2 + H % 2 * 9223372036854775808) := by rw [unhide HS]
            have s3 : (ouP ah al bh bl (i + 1)).1 = X := by rw [unhide HO, unhide hA, unhide HY, if_neg hbit]; rw [unhide HP]
            have s4 : (ouP ah al bh bl (i + 1)).2 = Y := by rw [unhide HO, unhide hA, unhide HY, if_neg hbit]; rw [unhide HP]
            have r0 := hide ((q0.other (b' := w.heap.size + 1) (k := 1) (v := .int .u64 (((L / 2 + H % 2 * 9223372036854775808) : Nat) : Int)) (by omega)).other (b' := w.heap.size + 1) (k := 0) (v := .int .u64 ((G : Nat) : Int)) (by omega))
            have r1 := hide ((q1.put1 (L / 2 + H % 2 * 9223372036854775808)).put0 G)
            have r2 := hide ((q2.other (b' := w.heap.size + 1) (k := 1) (v := .int .u64 (((L / 2 + H % 2 * 9223372036854775808) : Nat) : Int)) (by omega)).other (b' := w.heap.size + 1) (k := 0) (v := .int .u64 ((G : Nat) : Int)) (by omega))
            have r3 := hide ((q3.other (b' := w.heap.size + 1) (k := 1) (v := .int .u64 (((L / 2 + H % 2 * 9223372036854775808) : Nat) : Int)) (by omega)).other (b' := w.heap.size + 1) (k := 0) (v := .int .u64 ((G : Nat) : Int)) (by omega))
            have r4 := hide ((hB.setCell (p := ⟨w.heap.size + 1, 1, none⟩) (show w.heap.size ≤ w.heap.size + 1 by omega) (.int .u64 (((L / 2 + H % 2 * 9223372036854775808) : Nat) : Int))).setCell (p := ⟨w.heap.size + 1, 0, none⟩) (show w.heap.size ≤ w.heap.size + 1 by omega) (.int .u64 ((G : Nat) : Int)))
            have S := hide (And.intro (And.intro s1 s2) (And.intro s3 s4))
            clear aA aL q0 q1 q2 q3 hB s1 s2 s3 s4
            go_wp2
            rw [unhide oL]
            exact ⟨⟨i + 1, by omega, by go_num, unhide r0, by rw [(unhide S).1.1, (unhide S).1.2]; exact unhide r1, unhide r2, by rw [(unhide S).2.1, (unhide S).2.2]; exact unhide r3, unhide r4⟩, by simp [intOf]; omega⟩
      · obtain ⟨j, hj⟩ : ∃ j : Nat, j = 127 - i := ⟨_, rfl⟩
        have hjI : 127 - (i : Int) = (j : Int) := by omega
        have h63 : ¬ (i : Int) ≤ 63 := by omega
        obtain ⟨y, hy⟩ : ∃ y : Nat, y = al / 2 ^ j := ⟨_, rfl⟩
        have hyI : (al : Int) / 2 ^ j = (y : Int) := by rw [hy]; simp
        have hA : Hid (btA ah al i = al / 2 ^ j % 2) := by
          unfold btA
          rw [if_neg h64, ← hj]
          exact rfl
        have hdj : al / 2 ^ j ≤ al := Nat.div_le_self _ _
        have hy64 : y < 18446744073709551616 := by omega
        have aA := and1 (y : Int) (by omega) (by omega)
        have HJ := hide hj
        have HY := hide hy.symm
        clear hj hy hdj
        by_cases hbit : y % 2 = 1
        · by_cases hlow : L % 2 = 1
          · have t1 : bits .and .u64 (y : Int) 1 = 1 := by omega
            have t2 : bits .and .u64 (L : Int) 1 = 1 := by omega
            have s1 : (bsP bh bl (i + 1)).1 = G ^^^ 16212958658533785600 := by rw [unhide HS]; show (if L % 2 = 1 then H / 2 ^^^ 16212958658533785600 else H / 2) = _; rw [if_pos hlow, unhide HG]
            have s2 : (bsP bh bl (i + 1)).2 = (L / 2 + H % 2 * 9223372036854775808) := by rw [unhide HS]
            have s3 : (ouP ah al bh bl (i + 1)).1 = X ^^^ H := by rw [unhide HO, unhide hA, unhide HY, if_pos hbit]
            have s4 : (ouP ah al bh bl (i + 1)).2 = Y ^^^ L := by rw [unhide HO, unhide hA, unhide HY, if_pos hbit]
            have r0 := hide (((((q0.other (b' := w.heap.size + 1 + 1 + 1) (k := 0) (v := .int .u64 (((X ^^^ H) : Nat) : Int)) (by omega)).other (b' := w.heap.size + 1 + 1 + 1) (k := 1) (v := .int .u64 (((Y ^^^ L) : Nat) : Int)) (by omega)).other (b' := w.heap.size + 1) (k := 1) (v := .int .u64 (((L / 2 + H % 2 * 9223372036854775808) : Nat) : Int)) (by omega)).other (b' := w.heap.size + 1) (k := 0) (v := .int .u64 ((G : Nat) : Int)) (by omega)).other (b' := w.heap.size + 1) (k := 0) (v := .int .u64 (((G ^^^ 16212958658533785600) : Nat) : Int)) (by omega))
            have r1 := hide (((((q1.other (b' := w.heap.size + 1 + 1 + 1) (k := 0) (v := .int .u64 (((X ^^^ H) : Nat) : Int)) (by omega)).other (b' := w.heap.size + 1 + 1 + 1) (k := 1) (v := .int .u64 (((Y ^^^ L) : Nat) : Int)) (by omega)).put1 (L / 2 + H % 2 * 9223372036854775808)).put0 G).put0 (G ^^^ 16212958658533785600))
            have r2 := hide (((((q2.other (b' := w.heap.size + 1 + 1 + 1) (k := 0) (v := .int .u64 (((X ^^^ H) : Nat) : Int)) (by omega)).other (b' := w.heap.size + 1 + 1 + 1) (k := 1) (v := .int .u64 (((Y ^^^ L) : Nat) : Int)) (by omega)).other (b' := w.heap.size + 1) (k := 1) (v := .int .u64 (((L / 2 + H % 2 * 9223372036854775808) : Nat) : Int)) (by omega)).other (b' := w.heap.size + 1) (k := 0) (v := .int .u64 ((G : Nat) : Int)) (by omega)).other (b' := w.heap.size + 1) (k := 0) (v := .int .u64 (((G ^^^ 16212958658533785600) : Nat) : Int)) (by omega))
            have r3 := hide (((((q3.put0 (X ^^^ H)).put1 (Y ^^^ L)).other (b' := w.heap.size + 1) (k := 1) (v := .int .u64 (((L / 2 + H % 2 * 9223372036854775808) : Nat) : Int)) (by omega)).other (b' := w.heap.size + 1) (k := 0) (v := .int .u64 ((G : Nat) : Int)) (by omega)).other (b' := w.heap.size + 1) (k := 0) (v := .int .u64 (((G ^^^ 16212958658533785600) : Nat) : Int)) (by omega))
            have r4 := hide (((((hB.setCell (p := ⟨w.heap.size + 1 + 1 + 1, 0, none⟩) (show w.heap.size ≤ w.heap.size + 1 + 1 + 1 by omega) (.int .u64 (((X ^^^ H) : Nat) : Int))).setCell (p := ⟨w.heap.size + 1 + 1 + 1, 1, none⟩) (show w.heap.size ≤ w.heap.size + 1 + 1 + 1 by omega) (.int .u64 (((Y ^^^ L) : Nat) : Int))).setCell (p := ⟨w.heap.size + 1, 1, none⟩) (show w.heap.size ≤ w.heap.size + 1 by omega) (.int .u64 (((L / 2 + H % 2 * 9223372036854775808) : Nat) : Int))).setCell (p := ⟨w.heap.size + 1, 0, none⟩) (show w.heap.size ≤ w.heap.size + 1 by omega) (.int .u64 ((G : Nat) : Int))).setCell (p := ⟨w.heap.size + 1, 0, none⟩) (show w.heap.size ≤ w.heap.size + 1 by omega) (.int .u64 (((G ^^^ 16212958658533785600) : Nat) : Int)))
            have S := hide (And.intro (And.intro s1 s2) (And.intro s3 s4))
            clear aA aL q0 q1 q2 q3 hB s1 s2 s3 s4
            go_wp2
            rw [unhide xX, unhide xY, unhide oL, unhide xC]
            exact ⟨⟨i + 1, by omega, by go_num, unhide r0, by rw [(unhide S).1.1, (unhide S).1.2]; exact unhide r1, unhide r2, by rw [(unhide S).2.1, (unhide S).2.2]; exact unhide r3, unhide r4⟩, by simp [intOf]; omega⟩
          · have t1 : bits .and .u64 (y : Int) 1 = 1 := by omega
            have t2 : bits .and .u64 (L : Int) 1 = 0 := by omega
            have s1 : (bsP bh bl (i + 1)).1 = G := by rw [unhide HS]; show (if L % 2 = 1 then H / 2 ^^^ 16212958658533785600 else H / 2) = _; rw [if_neg hlow, unhide HG]
            have s2 : (bsP bh bl (i + 1)).2 = (L / 2 + H % 2 * 9223372036854775808) := by rw [unhide HS]
            have s3 : (ouP ah al bh bl (i + 1)).1 = X ^^^ H := by rw [unhide HO, unhide hA, unhide HY, if_pos hbit]
            have s4 : (ouP ah al bh bl (i + 1)).2 = Y ^^^ L := by rw [unhide HO, unhide hA, unhide HY, if_pos hbit]
            have r0 := hide ((((q0.other (b' := w.heap.size + 1 + 1 + 1) (k := 0) (v := .int .u64 (((X ^^^ H) : Nat) : Int)) (by omega)).other (b' := w.heap.size + 1 + 1 + 1) (k := 1) (v := .int .u64 (((Y ^^^ L) : Nat) : Int)) (by omega)).other (b' := w.heap.size + 1) (k := 1) (v := .int .u64 (((L / 2 + H % 2 * 9223372036854775808) : Nat) : Int)) (by omega)).other (b' := w.heap.size + 1) (k := 0) (v := .int .u64 ((G : Nat) : Int)) (by omega))
            have r1 := hide ((((q1.other (b' := w.heap.size + 1 + 1 + 1) (k := 0) (v := .int .u64 (((X ^^^ H) : Nat) : Int)) (by omega)).other (b' := w.heap.size + 1 + 1 + 1) (k := 1) (v := .int .u64 (((Y ^^^ L) : Nat) : Int)) (by omega)).put1 (L / 2 + H % 2 * 9223372036854775808)).put0 G)
            have r2 := hide ((((q2.other (b' := w.heap.size + 1 + 1 + 1) (k := 0) (v := .int .u64 (((X ^^^ H) : Nat) : Int)) (by omega)).other (b' := w.heap.size + 1 + 1 + 1) (k := 1) (v := .int .u64 (((Y ^^^ L) : Nat) : Int)) (by omega)).other (b' := w.heap.size + 1) (k := 1) (v := .int .u64 (((L / 2 + H % 2 * 9223372036854775808) : Nat) : Int)) (by omega)).other (b' := w.heap.size + 1) (k := 0) (v := .int .u64 ((G : Nat) : Int)) (by omega))
            have r3 := hide ((((q3.put0 (X ^^^ H)).put1 (Y ^^^ L)).other (b' := w.heap.size + 1) (k := 1) (v := .int .u64 (((L / 2 + H % 2 * 9223372036854775808) : Nat) : Int)) (by omega)).other (b' := w.heap.size + 1) (k := 0) (v := .int .u64 ((G : Nat) : Int)) (by omega))
            have r4 := hide ((((hB.setCell (p := ⟨w.heap.size + 1 + 1 + 1, 0, none⟩) (show w.heap.size ≤ w.heap.size + 1 + 1 + 1 by omega) (.int .u64 (((X ^^^ H) : Nat) : Int))).setCell (p := ⟨w.heap.size + 1 + 1 + 1, 1, none⟩) (show w.heap.size ≤ w.heap.size + 1 + 1 + 1 by omega) (.int .u64 (((Y ^^^ L) : Nat) : Int))).setCell (p := ⟨w.heap.size + 1, 1, none⟩) (show w.heap.size ≤ w.heap.size + 1 by omega) (.int .u64 (((L / 2 + H % 2 * 9223372036854775808) : Nat) : Int))).setCell (p := ⟨w.heap.size + 1, 0, none⟩) (show w.heap.size ≤ w.heap.size + 1 by omega) (.int .u64 ((G : Nat) : Int)))
            have S := hide (And.intro (And.intro s1 s2) (And.intro s3 s4))
            clear aA aL q0 q1 q2 q3 hB s1 s2 s3 s4
            go_wp2
            rw [unhide xX, unhide xY, unhide oL]
            exact ⟨⟨i + 1, by omega, by go_num, unhide r0, by rw [(unhide S).1.1, (unhide S).1.2]; exact unhide r1, unhide r2, by rw [(unhide S).2.1, (unhide S).2.2]; exact unhide r3, unhide r4⟩, by simp [intOf]; omega⟩
        · by_cases hlow : L % 2 = 1
          · have t1 : bits .and .u64 (y : Int) 1 = 0 := by omega
            have t2 : bits .and .u64 (L : Int) 1 = 1 := by omega
            have s1 : (bsP bh bl (i + 1)).1 = G ^^^ 16212958658533785600 := by rw [unhide HS]; show (if L % 2 = 1 then H / 2 ^^^ 16212958658533785600 else H / 2) = _; rw [if_pos hlow, unhide HG]
            have s2 : (bsP bh bl (i + 1)).2 = (L / 2 + H % 2 * 9223372036854775808) := by rw [unhide HS]
            have s3 : (ouP ah al bh bl (i + 1)).1 = X := by rw [unhide HO, unhide hA, unhide HY, if_neg hbit]; rw [unhide HP]
            have s4 : (ouP ah al bh bl (i + 1)).2 = Y := by rw [unhide HO, unhide hA, unhide HY, if_neg hbit]; rw [unhide HP]
            have r0 := hide (((q0.other (b' := w.heap.size + 1) (k := 1) (v := .int .u64 (((L / 2 + H % 2 * 9223372036854775808) : Nat) : Int)) (by omega)).other (b' := w.heap.size + 1) (k := 0) (v := .int .u64 ((G : Nat) : Int)) (by omega)).other (b' := w.heap.size + 1) (k := 0) (v := .int .u64 (((G ^^^ 16212958658533785600) : Nat) : Int)) (by omega))
            have r1 := hide (((q1.put1 (L / 2 + H % 2 * 9223372036854775808)).put0 G).put0 (G ^^^ 16212958658533785600))
            have r2 := hide (((q2.other (b' := w.heap.size + 1) (k := 1) (v := .int .u64 (((L / 2 + H % 2 * 9223372036854775808) : Nat) : Int)) (by omega)).other (b' := w.heap.size + 1) (k := 0) (v := .int .u64 ((G : Nat) : Int)) (by omega)).other (b' := w.heap.size + 1) (k := 0) (v := .int .u64 (((G ^^^ 16212958658533785600) : Nat) : Int)) (by omega))
            have r3 := hide (((q3.other (b' := w.heap.size + 1) (k := 1) (v := .int .u64 (((L / 2 + H % 2 * 9223372036854775808) : Nat) : Int)) (by omega)).other (b' := w.heap.size + 1) (k := 0) (v := .int .u64 ((G : Nat) : Int)) (by omega)).other (b' := w.heap.size + 1) (k := 0) (v := .int .u64 (((G ^^^ 16212958658533785600) : Nat) : Int)) (by omega))
            have r4 := hide (((hB.setCell (p := ⟨w.heap.size + 1, 1, none⟩) (show w.heap.size ≤ w.heap.size + 1 by omega) (.int .u64 (((L / 2 + H % 2 * 9223372036854775808) : Nat) : Int))).setCell (p := ⟨w.heap.size + 1, 0, none⟩) (show w.heap.size ≤ w.heap.size + 1 by omega) (.int .u64 ((G : Nat) : Int))).setCell (p := ⟨w.heap.size + 1, 0, none⟩) (show w.heap.size ≤ w.heap.size + 1 by omega) (.int .u64 (((G ^^^ 16212958658533785600) : Nat) : Int)))
            have S := hide (And.intro (And.intro s1 s2) (And.intro s3 s4))
            clear aA aL q0 q1 q2 q3 hB s1 s2 s3 s4
            go_wp2
            rw [unhide oL, unhide xC]
            exact ⟨⟨i + 1, by omega, by go_num, unhide r0, by rw [(unhide S).1.1, (unhide S).1.2]; exact unhide r1, unhide r2, by rw [(unhide S).2.1, (unhide S).2.2]; exact unhide r3, unhide r4⟩, by simp [intOf]; omega⟩
          · have t1 : bits .and .u64 (y : Int) 1 = 0 := by omega
            have t2 : bits .and .u64 (L : Int) 1 = 0 := by omega
            have s1 : (bsP bh bl (i + 1)).1 = G := by rw [unhide HS]; show (if L % 2 = 1 then H / 2 ^^^ 16212958658533785600 else H / 2) = _; rw [if_neg hlow, unhide HG]
            have s2 : (bsP bh bl (i + 1)).2 = (L / 2 + H % 2 * 9223372036854775808) := by rw [unhide HS]
            have s3 : (ouP ah al bh bl (i + 1)).1 = X := by rw [unhide HO, unhide hA, unhide HY, if_neg hbit]; rw [unhide HP]
            have s4 : (ouP ah al bh bl (i + 1)).2 = Y := by rw [unhide HO, unhide hA, unhide HY, if_neg hbit]; rw [unhide HP]
            have r0 := hide ((q0.other (b' := w.heap.size + 1) (k := 1) (v := .int .u64 (((L / 2 + H % 2 * 9223372036854775808) : Nat) : Int)) (by omega)).other (b' := w.heap.size + 1) (k := 0) (v := .int .u64 ((G : Nat) : Int)) (by omega))
            have r1 := hide ((q1.put1 (L / 2 + H % 2 * 9223372036854775808)).put0 G)
            have r2 := hide ((q2.other (b' := w.heap.size + 1) (k := 1) (v := .int .u64 (((L / 2 + H % 2 * 9223372036854775808) : Nat) : Int)) (by omega)).other (b' := w.heap.size + 1) (k := 0) (v := .int .u64 ((G : Nat) : Int)) (by omega))
            have r3 := hide ((q3.other (b' := w.heap.size + 1) (k := 1) (v := .int .u64 (((L / 2 + H % 2 * 9223372036854775808) : Nat) : Int)) (by omega)).other (b' := w.heap.size + 1) (k := 0) (v := .int .u64 ((G : Nat) : Int)) (by omega))
            have r4 := hide ((hB.setCell (p := ⟨w.heap.size + 1, 1, none⟩) (show w.heap.size ≤ w.heap.size + 1 by omega) (.int .u64 (((L / 2 + H % 2 * 9223372036854775808) : Nat) : Int))).setCell (p := ⟨w.heap.size + 1, 0, none⟩) (show w.heap.size ≤ w.heap.size + 1 by omega) (.int .u64 ((G : Nat) : Int)))
            have S := hide (And.intro (And.intro s1 s2) (And.intro s3 s4))
            clear aA aL q0 q1 q2 q3 hB s1 s2 s3 s4
            go_wp2
            rw [unhide oL]
            exact ⟨⟨i + 1, by omega, by go_num, unhide r0, by rw [(unhide S).1.1, (unhide S).1.2]; exact unhide r1, unhide r2, by rw [(unhide S).2.1, (unhide S).2.2]; exact unhide r3, unhide r4⟩, by simp [intOf]; omega⟩
    · obtain rfl : i = 128 := by omega
      have HR := hide (q2.put0 (ouP ah al bh bl 128).1)
      have HR1 := hide ((unhide HR).put1 (ouP ah al bh bl 128).2)
      have c0 := q3.c0
      have c1 := q3.c1
      have g0 := q2.c0
      have g1 := q2.c1
      have g2 := q2.f0
      have g3 := q2.f1
      have B9 := hide ((hB.setCell (p := ⟨w.heap.size + 1 + 1, 0, none⟩) (show w.heap.size ≤ w.heap.size + 1 + 1 by omega) (.int .u64 ((ouP ah al bh bl 128).1 : Nat))).setCell (p := ⟨w.heap.size + 1 + 1, 1, none⟩) (show w.heap.size ≤ w.heap.size + 1 + 1 by omega) (.int .u64 ((ouP ah al bh bl 128).2 : Nat)))
      clear q0 q1 q2 q3 hB HR
      go_wp2
      refine ret_two 4 (w.heap.size + 1 + 1) (ouP ah al bh bl 128).1 (ouP ah al bh bl 128).2 113 _ ?r1 ?r2 ?r3 (unhide HR1) Try.underlying113 rfl info_l5 ?_
      case r1 => rfl
      case r2 => rfl
      case r3 => rfl
      exact ⟨rfl, unhide B9⟩
end Go.Proofs.Ytkpodgeinanceaa
