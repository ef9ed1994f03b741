/-
  A good frame of a stream, without ranges.
-/
import Derived.Test.YtagnkelpdgpigaaGfi
import Derived.Test.YtagnkelpdgpigaaNxp
namespace Go.Proofs.Ytagnkelpdgpigaa
open Go.ChangeShapes Go.WideShapes Go.ChangeAt Go.RowKit Go.Deep
set_option linter.unusedVariables false
set_option maxRecDepth 100000

set_option maxHeartbeats 4000000 in
theorem goodNumbersN (k a b c m : Int) (fin : Bool) (s : ByteArray)  (w : World) (hm : 0 ≤ m) (hm3 : m ≤ 3) :
    Calls Try.prog 18 #[.agg #[.int .i64 k, .int .i64 a, .int .i64 b, .int .i64 c, .bool fin, .string s, .slice none 0 0], .int .i64 m] w fun e w' => e = .returned (.bool (gn m a b c)) ∧ Below w.heap.size w w' := by
  have i0 : ∀ w, (Instr.index 55 (.agg #[.int .i64 a, .int .i64 b, .int .i64 c]) (.int .i64 0)).run Try.prog w = .ok (.int .i64 a) w := fun _ => by kernel_rfl
  have i1 : ∀ w, (Instr.index 55 (.agg #[.int .i64 a, .int .i64 b, .int .i64 c]) (.int .i64 1)).run Try.prog w = .ok (.int .i64 b) w := fun _ => by kernel_rfl
  have i2 : ∀ w, (Instr.index 55 (.agg #[.int .i64 a, .int .i64 b, .int .i64 c]) (.int .i64 2)).run Try.prog w = .ok (.int .i64 c) w := fun _ => by kernel_rfl
  go_enter Try.func18, Try.ntmps18
  go_wp2
  go_loop [14] (fun i => ∃ j : Nat, j ≤ 3 ∧ i = .int .i64 j ∧ (0 < j → okn m a 0) ∧ (1 < j → okn m b 1) ∧ (2 < j → okn m c 2)) (fun i => 3 - (intOf i).toNat)
  case atStart => exact ⟨0, by omega, rfl, fun h => by omega, fun h => by omega, fun h => by omega⟩
  case round =>
    obtain ⟨j, hj, rfl, q0, q1, q2⟩ := hrel
    have hj4 : j = 0 ∨ j = 1 ∨ j = 2 ∨ j = 3 := by omega
    rcases hj4 with rfl | rfl | rfl | rfl
    · by_cases hx : okn m a 0
      · have HX := hide hx
        obtain ⟨x0, x1, x2⟩ := hx
        clear q0 q1 q2
        by_cases hz : a = 0
        · have hz' : (a != 0) = false := by rw [hz]; rfl
          clear x2 hz
          go_wp2
          all_goals exact ⟨⟨1, by omega, rfl, fun _ => unhide HX, fun h => by omega, fun h => by omega⟩, by simp [intOf]⟩
        · have hmi : (0 : Int) < m := by rcases Int.lt_or_le 0 m with h | h; exact h; exact absurd (x2 (by omega)) hz
          clear x2 hz
          go_wp2
          all_goals exact ⟨⟨1, by omega, rfl, fun _ => unhide HX, fun h => by omega, fun h => by omega⟩, by simp [intOf]⟩
      · have HN : Hid (gn m a b c = false) := decide_eq_false (fun h => hx h.1)
        clear q0 q1 q2
        by_cases x0 : a < 0
        · clear hx
          go_wp2
          go_ret
          exact ⟨by rw [unhide HN]; rfl, (Below.refl _ _).alloc (Nat.le_refl _) _⟩
        · by_cases x1 : 4611686018427387903 < a
          · clear hx
            go_wp2
            go_ret
            exact ⟨by rw [unhide HN]; rfl, (Below.refl _ _).alloc (Nat.le_refl _) _⟩
          · have hmi : m ≤ 0 ∧ ¬ a = 0 := by unfold okn at hx; omega
            obtain ⟨hmi, hz⟩ := hmi
            have hz' : (a != 0) = true := by rw [bne_iff_ne]; exact hz
            clear hx hz
            go_wp2
            go_ret
            exact ⟨by rw [unhide HN]; rfl, (Below.refl _ _).alloc (Nat.le_refl _) _⟩
    · have P0 := hide (q0 (by omega))
      by_cases hx : okn m b 1
      · have HX := hide hx
        obtain ⟨x0, x1, x2⟩ := hx
        clear q0 q1 q2
        by_cases hz : b = 0
        · have hz' : (b != 0) = false := by rw [hz]; rfl
          clear x2 hz
          go_wp2
          all_goals exact ⟨⟨2, by omega, rfl, fun _ => unhide P0, fun _ => unhide HX, fun h => by omega⟩, by simp [intOf]⟩
        · have hmi : (1 : Int) < m := by rcases Int.lt_or_le 1 m with h | h; exact h; exact absurd (x2 (by omega)) hz
          clear x2 hz
          go_wp2
          all_goals exact ⟨⟨2, by omega, rfl, fun _ => unhide P0, fun _ => unhide HX, fun h => by omega⟩, by simp [intOf]⟩
      · have HN : Hid (gn m a b c = false) := decide_eq_false (fun h => hx h.2.1)
        clear q0 q1 q2
        by_cases x0 : b < 0
        · clear hx
          go_wp2
          go_ret
          exact ⟨by rw [unhide HN]; rfl, (Below.refl _ _).alloc (Nat.le_refl _) _⟩
        · by_cases x1 : 4611686018427387903 < b
          · clear hx
            go_wp2
            go_ret
            exact ⟨by rw [unhide HN]; rfl, (Below.refl _ _).alloc (Nat.le_refl _) _⟩
          · have hmi : m ≤ 1 ∧ ¬ b = 0 := by unfold okn at hx; omega
            obtain ⟨hmi, hz⟩ := hmi
            have hz' : (b != 0) = true := by rw [bne_iff_ne]; exact hz
            clear hx hz
            go_wp2
            go_ret
            exact ⟨by rw [unhide HN]; rfl, (Below.refl _ _).alloc (Nat.le_refl _) _⟩
    · have P0 := hide (q0 (by omega))
      have P1 := hide (q1 (by omega))
      by_cases hx : okn m c 2
      · have HX := hide hx
        obtain ⟨x0, x1, x2⟩ := hx
        clear q0 q1 q2
        by_cases hz : c = 0
        · have hz' : (c != 0) = false := by rw [hz]; rfl
          clear x2 hz
          go_wp2
          all_goals exact ⟨⟨3, by omega, rfl, fun _ => unhide P0, fun _ => unhide P1, fun _ => unhide HX⟩, by simp [intOf]⟩
        · have hmi : (2 : Int) < m := by rcases Int.lt_or_le 2 m with h | h; exact h; exact absurd (x2 (by omega)) hz
          clear x2 hz
          go_wp2
          all_goals exact ⟨⟨3, by omega, rfl, fun _ => unhide P0, fun _ => unhide P1, fun _ => unhide HX⟩, by simp [intOf]⟩
      · have HN : Hid (gn m a b c = false) := decide_eq_false (fun h => hx h.2.2)
        clear q0 q1 q2
        by_cases x0 : c < 0
        · clear hx
          go_wp2
          go_ret
          exact ⟨by rw [unhide HN]; rfl, (Below.refl _ _).alloc (Nat.le_refl _) _⟩
        · by_cases x1 : 4611686018427387903 < c
          · clear hx
            go_wp2
            go_ret
            exact ⟨by rw [unhide HN]; rfl, (Below.refl _ _).alloc (Nat.le_refl _) _⟩
          · have hmi : m ≤ 2 ∧ ¬ c = 0 := by unfold okn at hx; omega
            obtain ⟨hmi, hz⟩ := hmi
            have hz' : (c != 0) = true := by rw [bne_iff_ne]; exact hz
            clear hx hz
            go_wp2
            go_ret
            exact ⟨by rw [unhide HN]; rfl, (Below.refl _ _).alloc (Nat.le_refl _) _⟩
    · have HY : Hid (gn m a b c = true) := decide_eq_true ⟨q0 (by omega), q1 (by omega), q2 (by omega)⟩
      clear q0 q1 q2
      go_wp2
      go_ret
      exact ⟨by rw [unhide HY]; rfl, (Below.refl _ _).alloc (Nat.le_refl _) _⟩

set_option maxHeartbeats 4000000 in
theorem goodLengthN (k a b c : Int) (fin : Bool) (s : ByteArray) (len : Nat) (w : World) (hk : 0 ≤ (shp k).1) (hl : len ≤ 1048576) (ha0 : 0 ≤ a) (ha1 : a ≤ 4611686018427387903) (hb0 : 0 ≤ b) (hb1 : b ≤ 4611686018427387903) :
    Calls Try.prog 19 #[.agg #[.int .i64 k, .int .i64 a, .int .i64 b, .int .i64 c, .bool fin, .string s, .slice none 0 0], .int .i64 len] w fun e w' => e = .returned (.bool (gl k a b len)) ∧ Below w.heap.size w w' := by
  rcases kinds k with rfl | rfl | rfl | rfl | rfl | rfl | rfl | rfl | rfl | rfl | rfl | rfl | rfl | rfl | rfl | h
  · have HF : Hid (gl 0 a b len = (((len : Int) == 0))) := by
      show gl 0 a b len = _
      unfold gl
      rw [Bool.eq_iff_iff]
      simp [shp] <;> omega
    go_enter Try.func19, Try.ntmps19
    go_wp2
    all_goals
      go_ret
      exact ⟨by rw [unhide HF]; rfl, (Below.refl _ _).alloc (Nat.le_refl _) _⟩
  · have HF : Hid (gl 1 a b len = (((len : Int) == 0))) := by
      show gl 1 a b len = _
      unfold gl
      rw [Bool.eq_iff_iff]
      simp [shp] <;> omega
    go_enter Try.func19, Try.ntmps19
    go_wp2
    all_goals
      go_ret
      exact ⟨by rw [unhide HF]; rfl, (Below.refl _ _).alloc (Nat.le_refl _) _⟩
  · have HF : Hid (gl 2 a b len = (((len : Int) == 0))) := by
      show gl 2 a b len = _
      unfold gl
      rw [Bool.eq_iff_iff]
      simp [shp] <;> omega
    go_enter Try.func19, Try.ntmps19
    go_wp2
    all_goals
      go_ret
      exact ⟨by rw [unhide HF]; rfl, (Below.refl _ _).alloc (Nat.le_refl _) _⟩
  · have HF : Hid (gl 4 a b len = (((len : Int) == 0))) := by
      show gl 4 a b len = _
      unfold gl
      rw [Bool.eq_iff_iff]
      simp [shp] <;> omega
    go_enter Try.func19, Try.ntmps19
    go_wp2
    all_goals
      go_ret
      exact ⟨by rw [unhide HF]; rfl, (Below.refl _ _).alloc (Nat.le_refl _) _⟩
  · have HF : Hid (gl 5 a b len = (((len : Int) == 0))) := by
      show gl 5 a b len = _
      unfold gl
      rw [Bool.eq_iff_iff]
      simp [shp] <;> omega
    go_enter Try.func19, Try.ntmps19
    go_wp2
    all_goals
      go_ret
      exact ⟨by rw [unhide HF]; rfl, (Below.refl _ _).alloc (Nat.le_refl _) _⟩
  · by_cases h1 : (len : Int) ≤ 200
    · have HF : Hid (gl 6 a b len = decide (a + len ≤ 4611686018427387903)) := by
        show gl 6 a b len = _
        unfold gl
        rw [Bool.eq_iff_iff]
        simp [shp] <;> omega
      go_enter Try.func19, Try.ntmps19
      go_wp2
      all_goals
        go_ret
        exact ⟨by rw [unhide HF]; rfl, (Below.refl _ _).alloc (Nat.le_refl _) _⟩
    · have HF : Hid (gl 6 a b len = false) := by
        show gl 6 a b len = _
        unfold gl
        rw [Bool.eq_iff_iff]
        simp [shp] <;> omega
      have hd : decide ((len : Int) ≤ 200) = false := by simp; omega
      go_enter Try.func19, Try.ntmps19
      go_wp2
      all_goals
        go_ret
        exact ⟨by rw [unhide HF]; rfl, (Below.refl _ _).alloc (Nat.le_refl _) _⟩
  · by_cases h1 : 1 ≤ (len : Int)
    · have HF : Hid (gl 7 a b len = decide ((len : Int) ≤ 200)) := by
        show gl 7 a b len = _
        unfold gl
        rw [Bool.eq_iff_iff]
        simp [shp] <;> omega
      go_enter Try.func19, Try.ntmps19
      go_wp2
      all_goals
        go_ret
        exact ⟨by rw [unhide HF]; rfl, (Below.refl _ _).alloc (Nat.le_refl _) _⟩
    · have HF : Hid (gl 7 a b len = false) := by
        show gl 7 a b len = _
        unfold gl
        rw [Bool.eq_iff_iff]
        simp [shp] <;> omega
      have hd : decide (1 ≤ (len : Int)) = false := by simp; omega
      go_enter Try.func19, Try.ntmps19
      go_wp2
      all_goals
        go_ret
        exact ⟨by rw [unhide HF]; rfl, (Below.refl _ _).alloc (Nat.le_refl _) _⟩
  · by_cases h1 : (len : Int) ≤ 200
    · have HF : Hid (gl 8 a b len = decide (b + len ≤ 4611686018427387903)) := by
        show gl 8 a b len = _
        unfold gl
        rw [Bool.eq_iff_iff]
        simp [shp] <;> omega
      go_enter Try.func19, Try.ntmps19
      go_wp2
      all_goals
        go_ret
        exact ⟨by rw [unhide HF]; rfl, (Below.refl _ _).alloc (Nat.le_refl _) _⟩
    · have HF : Hid (gl 8 a b len = false) := by
        show gl 8 a b len = _
        unfold gl
        rw [Bool.eq_iff_iff]
        simp [shp] <;> omega
      have hd : decide ((len : Int) ≤ 200) = false := by simp; omega
      go_enter Try.func19, Try.ntmps19
      go_wp2
      all_goals
        go_ret
        exact ⟨by rw [unhide HF]; rfl, (Below.refl _ _).alloc (Nat.le_refl _) _⟩
  · have HF : Hid (gl 16 a b len = (((len : Int) == 0))) := by
      show gl 16 a b len = _
      unfold gl
      rw [Bool.eq_iff_iff]
      simp [shp] <;> omega
    go_enter Try.func19, Try.ntmps19
    go_wp2
    all_goals
      go_ret
      exact ⟨by rw [unhide HF]; rfl, (Below.refl _ _).alloc (Nat.le_refl _) _⟩
  · have HF : Hid (gl 17 a b len = (((len : Int) == 0))) := by
      show gl 17 a b len = _
      unfold gl
      rw [Bool.eq_iff_iff]
      simp [shp] <;> omega
    go_enter Try.func19, Try.ntmps19
    go_wp2
    all_goals
      go_ret
      exact ⟨by rw [unhide HF]; rfl, (Below.refl _ _).alloc (Nat.le_refl _) _⟩
  · by_cases h1 : 1 ≤ (len : Int)
    · have HF : Hid (gl 24 a b len = decide ((len : Int) ≤ 20)) := by
        show gl 24 a b len = _
        unfold gl
        rw [Bool.eq_iff_iff]
        simp [shp] <;> omega
      go_enter Try.func19, Try.ntmps19
      go_wp2
      all_goals
        go_ret
        exact ⟨by rw [unhide HF]; rfl, (Below.refl _ _).alloc (Nat.le_refl _) _⟩
    · have HF : Hid (gl 24 a b len = false) := by
        show gl 24 a b len = _
        unfold gl
        rw [Bool.eq_iff_iff]
        simp [shp] <;> omega
      have hd : decide (1 ≤ (len : Int)) = false := by simp; omega
      go_enter Try.func19, Try.ntmps19
      go_wp2
      all_goals
        go_ret
        exact ⟨by rw [unhide HF]; rfl, (Below.refl _ _).alloc (Nat.le_refl _) _⟩
  · have HF : Hid (gl 26 a b len = (((len : Int) == 8))) := by
      show gl 26 a b len = _
      unfold gl
      rw [Bool.eq_iff_iff]
      simp [shp] <;> omega
    go_enter Try.func19, Try.ntmps19
    go_wp2
    all_goals
      go_ret
      exact ⟨by rw [unhide HF]; rfl, (Below.refl _ _).alloc (Nat.le_refl _) _⟩
  · have HF : Hid (gl 27 a b len = (((len : Int) == 8))) := by
      show gl 27 a b len = _
      unfold gl
      rw [Bool.eq_iff_iff]
      simp [shp] <;> omega
    go_enter Try.func19, Try.ntmps19
    go_wp2
    all_goals
      go_ret
      exact ⟨by rw [unhide HF]; rfl, (Below.refl _ _).alloc (Nat.le_refl _) _⟩
  · have HF : Hid (gl 28 a b len = (decide ((len : Int) ≤ 200))) := by
      show gl 28 a b len = _
      unfold gl
      rw [Bool.eq_iff_iff]
      simp [shp] <;> omega
    go_enter Try.func19, Try.ntmps19
    go_wp2
    all_goals
      go_ret
      exact ⟨by rw [unhide HF]; rfl, (Below.refl _ _).alloc (Nat.le_refl _) _⟩
  · have HF : Hid (gl 48 a b len = (decide ((len : Int) ≤ 200))) := by
      show gl 48 a b len = _
      unfold gl
      rw [Bool.eq_iff_iff]
      simp [shp] <;> omega
    go_enter Try.func19, Try.ntmps19
    go_wp2
    all_goals
      go_ret
      exact ⟨by rw [unhide HF]; rfl, (Below.refl _ _).alloc (Nat.le_refl _) _⟩
  · rw [shp_none k h] at hk
    exact absurd hk (by decide)

set_option maxHeartbeats 4000000 in
theorem goodF8 (b : Int) (fin : Bool) (s : ByteArray) (w : World) (h0 : 0 ≤ b) (h1 : b + s.size ≤ 4611686018427387903) (h2 : s.size ≤ 200) :
    Calls Try.prog 8 #[Rc.frV 8 b fin s] w fun e w' => e = .returned (.bool true) ∧ Below w.heap.size w w' := by
  have e8 : shp 8 = (2, 0, 200) := by unfold shp; simp
  have HN := hide (fun w => numbersOf_yes 8 w (by rw [e8]; decide))
  have HG := hide (fun w => goodNumbersN 8 0 b 0 (shp 8).1 fin s w (by rw [e8]; decide) (by rw [e8]; decide))
  have HL := hide (fun w => goodLengthN 8 0 b 0 fin s s.size w (by rw [e8]; decide) (by omega) (by decide) (by decide) h0 (by omega))
  have g1 : gn (shp 8).1 0 b 0 = true := by unfold gn okn; rw [e8]; simp; omega
  have g2 : gl 8 0 b s.size = true := by unfold gl; rw [e8]; simp; omega
  rw [g1] at HG
  rw [g2] at HL
  rw [e8] at HG HN
  clear g1 g2 e8
  cases fin with
  | false =>
    go_enter Try.func8, Try.ntmps8
    go_wp2_with (first | (go_at_call 17; refine (unhide HN _).mono ?_; rintro e w' ⟨rfl, rfl⟩) | (go_at_call 18; refine (unhide HG _).mono ?_; rintro e w1 ⟨rfl, hbn⟩; obtain ⟨hcn, hfn⟩ := bcell hbn; have hz1 : w.heap.size < w1.heap.size := (by have := hbn.size; simp at this; omega)) | (go_at_call 19; refine (unhide HL _).mono ?_; rintro e w2 ⟨rfl, hbl⟩; obtain ⟨hcl, hfl⟩ := bcell hbl))
    all_goals
      go_ret
      exact ⟨rfl, ((Below.refl _ _).alloc (Nat.le_refl _) _).trans ((hbn.mono (by simp)).trans (hbl.mono (by have := hbn.size; simp at this; omega)))⟩
  | true =>
    go_enter Try.func8, Try.ntmps8
    go_wp2_with (first | (go_at_call 17; refine (unhide HN _).mono ?_; rintro e w' ⟨rfl, rfl⟩) | (go_at_call 18; refine (unhide HG _).mono ?_; rintro e w1 ⟨rfl, hbn⟩; obtain ⟨hcn, hfn⟩ := bcell hbn; have hz1 : w.heap.size < w1.heap.size := (by have := hbn.size; simp at this; omega)) | (go_at_call 19; refine (unhide HL _).mono ?_; rintro e w2 ⟨rfl, hbl⟩; obtain ⟨hcl, hfl⟩ := bcell hbl))
    all_goals
      go_ret
      exact ⟨rfl, ((Below.refl _ _).alloc (Nat.le_refl _) _).trans ((hbn.mono (by simp)).trans (hbl.mono (by have := hbn.size; simp at this; omega)))⟩
end Go.Proofs.Ytagnkelpdgpigaa
