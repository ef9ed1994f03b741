/-
  Contracts: the program's look at a frame: its numbers and its length.
-/
import Derived.Test.YtagnkelpdgpigaaGfw
namespace Go.Proofs.Ytagnkelpdgpigaa
open Go.ChangeShapes Go.WideShapes Go.ChangeAt Go.RowKit
set_option linter.unusedVariables false

set_option maxHeartbeats 2000000 in
theorem numbersOf_yes (k : Int) (w : World) (hk : 0 ≤ (shp k).1) :
    Calls Try.prog 17 #[.int .i64 k] w fun e w' => e = .returned (.tuple #[.int .i64 (shp k).1, .bool true]) ∧ w' = w := by
  rcases kinds k with rfl | rfl | rfl | rfl | rfl | rfl | rfl | rfl | rfl | rfl | rfl | rfl | rfl | rfl | rfl | h
  iterate 15
    · go_enter Try.func17, Try.ntmps17
      go_wp2
      go_ret2
      exact ⟨rfl, rfl⟩
  · rw [shp_none k h] at hk
    exact absurd hk (by decide)
theorem shp_neg {k : Int} (h : ¬ 0 ≤ (shp k).1) : k ≠ 0 ∧ k ≠ 1 ∧ k ≠ 2 ∧ k ≠ 4 ∧ k ≠ 5 ∧ k ≠ 6 ∧ k ≠ 7 ∧ k ≠ 8 ∧ k ≠ 16 ∧ k ≠ 17 ∧ k ≠ 24 ∧ k ≠ 26 ∧ k ≠ 27 ∧ k ≠ 28 ∧ k ≠ 48 := by
  rcases kinds k with rfl | rfl | rfl | rfl | rfl | rfl | rfl | rfl | rfl | rfl | rfl | rfl | rfl | rfl | rfl | h'
  iterate 15 exact absurd (by decide) h
  exact h'
theorem numbersOf_no (k : Int) (w : World) (hk : ¬ 0 ≤ (shp k).1) :
    Calls Try.prog 17 #[.int .i64 k] w fun e w' => e = .returned (.tuple #[.int .i64 0, .bool false]) ∧ w' = w := by
  obtain ⟨h0, h1, h2, h4, h5, h6, h7, h8, h16, h17, h24, h26, h27, h28, h48⟩ := shp_neg hk
  have e0 : (k == 0) = false := beq_eq_false_iff_ne.2 h0
  have e1 : (k == 1) = false := beq_eq_false_iff_ne.2 h1
  have e2 : (k == 2) = false := beq_eq_false_iff_ne.2 h2
  have e4 : (k == 4) = false := beq_eq_false_iff_ne.2 h4
  have e5 : (k == 5) = false := beq_eq_false_iff_ne.2 h5
  have e6 : (k == 6) = false := beq_eq_false_iff_ne.2 h6
  have e7 : (k == 7) = false := beq_eq_false_iff_ne.2 h7
  have e8 : (k == 8) = false := beq_eq_false_iff_ne.2 h8
  have e16 : (k == 16) = false := beq_eq_false_iff_ne.2 h16
  have e17 : (k == 17) = false := beq_eq_false_iff_ne.2 h17
  have e24 : (k == 24) = false := beq_eq_false_iff_ne.2 h24
  have e26 : (k == 26) = false := beq_eq_false_iff_ne.2 h26
  have e27 : (k == 27) = false := beq_eq_false_iff_ne.2 h27
  have e28 : (k == 28) = false := beq_eq_false_iff_ne.2 h28
  have e48 : (k == 48) = false := beq_eq_false_iff_ne.2 h48
  clear h0 h1 h2 h4 h5 h6 h7 h8 h16 h17 h24 h26 h27 h28 h48 hk
  go_enter Try.func17, Try.ntmps17
  go_wp2
  go_ret2
  exact ⟨rfl, rfl⟩

/-- one number of a frame is good at its place -/
def okn (m x : Int) (i : Nat) : Prop := 0 ≤ x ∧ x ≤ 4611686018427387903 ∧ (m ≤ i → x = 0)
instance (m x : Int) (i : Nat) : Decidable (okn m x i) := by unfold okn; infer_instance
def gn (m a b c : Int) : Bool := decide (okn m a 0 ∧ okn m b 1 ∧ okn m c 2)

set_option maxHeartbeats 4000000 in
theorem goodNumbers_any (k a b c m : Int) (fin : Bool) (s : ByteArray) (g off n cap : Nat) (w : World) (hm : 0 ≤ m) (hm3 : m ≤ 3) :
    Calls Try.prog 18 #[fv k a b c fin s g off n cap, .int .i64 m] w fun e w' => e = .returned (.bool (gn m a b c)) ∧ Below w.heap.size w w' := by
  have i0 : ∀ w, (Instr.index 55 (.agg #[.int .i64 a, .int .i64 b, .int .i64 c]) (.int .i64 0)).run Try.prog w = .ok (.int .i64 a) w := fun _ => by kernel_rfl
  have i1 : ∀ w, (Instr.index 55 (.agg #[.int .i64 a, .int .i64 b, .int .i64 c]) (.int .i64 1)).run Try.prog w = .ok (.int .i64 b) w := fun _ => by kernel_rfl
  have i2 : ∀ w, (Instr.index 55 (.agg #[.int .i64 a, .int .i64 b, .int .i64 c]) (.int .i64 2)).run Try.prog w = .ok (.int .i64 c) w := fun _ => by kernel_rfl
  go_enter Try.func18, Try.ntmps18
  go_wp2
  go_loop [14] (fun i => ∃ j : Nat, j ≤ 3 ∧ i = .int .i64 j ∧ (0 < j → okn m a 0) ∧ (1 < j → okn m b 1) ∧ (2 < j → okn m c 2)) (fun i => 3 - (intOf i).toNat)
  case atStart => exact ⟨0, by omega, rfl, fun h => by omega, fun h => by omega, fun h => by omega⟩
  case round =>
    obtain ⟨j, hj, rfl, q0, q1, q2⟩ := hrel
    have hj4 : j = 0 ∨ j = 1 ∨ j = 2 ∨ j = 3 := by omega
    rcases hj4 with rfl | rfl | rfl | rfl
    · by_cases hx : okn m a 0
      · have HX := hide hx
        obtain ⟨x0, x1, x2⟩ := hx
        clear q0 q1 q2
        by_cases hz : a = 0
        · have hz' : (a != 0) = false := by rw [hz]; rfl
          clear x2 hz
          go_wp2
          all_goals exact ⟨⟨1, by omega, rfl, fun _ => unhide HX, fun h => by omega, fun h => by omega⟩, by simp [intOf]⟩
        · have hmi : (0 : Int) < m := by rcases Int.lt_or_le 0 m with h | h; exact h; exact absurd (x2 (by omega)) hz
          clear x2 hz
          go_wp2
          all_goals exact ⟨⟨1, by omega, rfl, fun _ => unhide HX, fun h => by omega, fun h => by omega⟩, by simp [intOf]⟩
      · have HN : Hid (gn m a b c = false) := decide_eq_false (fun h => hx h.1)
        clear q0 q1 q2
        by_cases x0 : a < 0
        · clear hx
          go_wp2
          go_ret
          exact ⟨by rw [unhide HN]; rfl, (Below.refl _ _).alloc (Nat.le_refl _) _⟩
        · by_cases x1 : 4611686018427387903 < a
          · clear hx
            go_wp2
            go_ret
            exact ⟨by rw [unhide HN]; rfl, (Below.refl _ _).alloc (Nat.le_refl _) _⟩
          · have hmi : m ≤ 0 ∧ ¬ a = 0 := by unfold okn at hx; omega
            obtain ⟨hmi, hz⟩ := hmi
            have hz' : (a != 0) = true := by rw [bne_iff_ne]; exact hz
            clear hx hz
            go_wp2
            go_ret
            exact ⟨by rw [unhide HN]; rfl, (Below.refl _ _).alloc (Nat.le_refl _) _⟩
    · have P0 := hide (q0 (by omega))
      by_cases hx : okn m b 1
      · have HX := hide hx
        obtain ⟨x0, x1, x2⟩ := hx
        clear q0 q1 q2
        by_cases hz : b = 0
        · have hz' : (b != 0) = false := by rw [hz]; rfl
          clear x2 hz
          go_wp2
          all_goals exact ⟨⟨2, by omega, rfl, fun _ => unhide P0, fun _ => unhide HX, fun h => by omega⟩, by simp [intOf]⟩
        · have hmi : (1 : Int) < m := by rcases Int.lt_or_le 1 m with h | h; exact h; exact absurd (x2 (by omega)) hz
          clear x2 hz
          go_wp2
          all_goals exact ⟨⟨2, by omega, rfl, fun _ => unhide P0, fun _ => unhide HX, fun h => by omega⟩, by simp [intOf]⟩
      · have HN : Hid (gn m a b c = false) := decide_eq_false (fun h => hx h.2.1)
        clear q0 q1 q2
        by_cases x0 : b < 0
        · clear hx
          go_wp2
          go_ret
          exact ⟨by rw [unhide HN]; rfl, (Below.refl _ _).alloc (Nat.le_refl _) _⟩
        · by_cases x1 : 4611686018427387903 < b
          · clear hx
            go_wp2
            go_ret
            exact ⟨by rw [unhide HN]; rfl, (Below.refl _ _).alloc (Nat.le_refl _) _⟩
          · have hmi : m ≤ 1 ∧ ¬ b = 0 := by unfold okn at hx; omega
            obtain ⟨hmi, hz⟩ := hmi
            have hz' : (b != 0) = true := by rw [bne_iff_ne]; exact hz
            clear hx hz
            go_wp2
            go_ret
            exact ⟨by rw [unhide HN]; rfl, (Below.refl _ _).alloc (Nat.le_refl _) _⟩
    · have P0 := hide (q0 (by omega))
      have P1 := hide (q1 (by omega))
      by_cases hx : okn m c 2
      · have HX := hide hx
        obtain ⟨x0, x1, x2⟩ := hx
        clear q0 q1 q2
        by_cases hz : c = 0
        · have hz' : (c != 0) = false := by rw [hz]; rfl
          clear x2 hz
          go_wp2
          all_goals exact ⟨⟨3, by omega, rfl, fun _ => unhide P0, fun _ => unhide P1, fun _ => unhide HX⟩, by simp [intOf]⟩
        · have hmi : (2 : Int) < m := by rcases Int.lt_or_le 2 m with h | h; exact h; exact absurd (x2 (by omega)) hz
          clear x2 hz
          go_wp2
          all_goals exact ⟨⟨3, by omega, rfl, fun _ => unhide P0, fun _ => unhide P1, fun _ => unhide HX⟩, by simp [intOf]⟩
      · have HN : Hid (gn m a b c = false) := decide_eq_false (fun h => hx h.2.2)
        clear q0 q1 q2
        by_cases x0 : c < 0
        · clear hx
          go_wp2
          go_ret
          exact ⟨by rw [unhide HN]; rfl, (Below.refl _ _).alloc (Nat.le_refl _) _⟩
        · by_cases x1 : 4611686018427387903 < c
          · clear hx
            go_wp2
            go_ret
            exact ⟨by rw [unhide HN]; rfl, (Below.refl _ _).alloc (Nat.le_refl _) _⟩
          · have hmi : m ≤ 2 ∧ ¬ c = 0 := by unfold okn at hx; omega
            obtain ⟨hmi, hz⟩ := hmi
            have hz' : (c != 0) = true := by rw [bne_iff_ne]; exact hz
            clear hx hz
            go_wp2
            go_ret
            exact ⟨by rw [unhide HN]; rfl, (Below.refl _ _).alloc (Nat.le_refl _) _⟩
    · have HY : Hid (gn m a b c = true) := decide_eq_true ⟨q0 (by omega), q1 (by omega), q2 (by omega)⟩
      clear q0 q1 q2
      go_wp2
      go_ret
      exact ⟨by rw [unhide HY]; rfl, (Below.refl _ _).alloc (Nat.le_refl _) _⟩

/-- the length of Data is good for a kind that there is -/
def gl (k a b : Int) (len : Nat) : Bool := decide ((shp k).2.1 ≤ len ∧ len ≤ (shp k).2.2 ∧ (k = 6 → a + len ≤ 4611686018427387903) ∧ (k = 8 → b + len ≤ 4611686018427387903))

set_option maxHeartbeats 4000000 in
theorem goodLength_any (k a b c : Int) (fin : Bool) (s : ByteArray) (g off n cap len : Nat) (w : World) (hk : 0 ≤ (shp k).1) (hl : len ≤ 1048576) (ha0 : 0 ≤ a) (ha1 : a ≤ 4611686018427387903) (hb0 : 0 ≤ b) (hb1 : b ≤ 4611686018427387903) :
    Calls Try.prog 19 #[fv k a b c fin s g off n cap, .int .i64 len] w fun e w' => e = .returned (.bool (gl k a b len)) ∧ Below w.heap.size w w' := by
  rcases kinds k with rfl | rfl | rfl | rfl | rfl | rfl | rfl | rfl | rfl | rfl | rfl | rfl | rfl | rfl | rfl | h
  · have HF : Hid (gl 0 a b len = (((len : Int) == 0))) := by
      show gl 0 a b len = _
      unfold gl
      rw [Bool.eq_iff_iff]
      simp [shp] <;> omega
    go_enter Try.func19, Try.ntmps19
    go_wp2
    all_goals
      go_ret
      exact ⟨by rw [unhide HF]; rfl, (Below.refl _ _).alloc (Nat.le_refl _) _⟩
  · have HF : Hid (gl 1 a b len = (((len : Int) == 0))) := by
      show gl 1 a b len = _
      unfold gl
      rw [Bool.eq_iff_iff]
      simp [shp] <;> omega
    go_enter Try.func19, Try.ntmps19
    go_wp2
    all_goals
      go_ret
      exact ⟨by rw [unhide HF]; rfl, (Below.refl _ _).alloc (Nat.le_refl _) _⟩
  · have HF : Hid (gl 2 a b len = (((len : Int) == 0))) := by
      show gl 2 a b len = _
      unfold gl
      rw [Bool.eq_iff_iff]
      simp [shp] <;> omega
    go_enter Try.func19, Try.ntmps19
    go_wp2
    all_goals
      go_ret
      exact ⟨by rw [unhide HF]; rfl, (Below.refl _ _).alloc (Nat.le_refl _) _⟩
  · have HF : Hid (gl 4 a b len = (((len : Int) == 0))) := by
      show gl 4 a b len = _
      unfold gl
      rw [Bool.eq_iff_iff]
      simp [shp] <;> omega
    go_enter Try.func19, Try.ntmps19
    go_wp2
    all_goals
      go_ret
      exact ⟨by rw [unhide HF]; rfl, (Below.refl _ _).alloc (Nat.le_refl _) _⟩
  · have HF : Hid (gl 5 a b len = (((len : Int) == 0))) := by
      show gl 5 a b len = _
      unfold gl
      rw [Bool.eq_iff_iff]
      simp [shp] <;> omega
    go_enter Try.func19, Try.ntmps19
    go_wp2
    all_goals
      go_ret
      exact ⟨by rw [unhide HF]; rfl, (Below.refl _ _).alloc (Nat.le_refl _) _⟩
  · by_cases h1 : (len : Int) ≤ 200
    · have HF : Hid (gl 6 a b len = decide (a + len ≤ 4611686018427387903)) := by
        show gl 6 a b len = _
        unfold gl
        rw [Bool.eq_iff_iff]
        simp [shp] <;> omega
      go_enter Try.func19, Try.ntmps19
      go_wp2
      all_goals
        go_ret
        exact ⟨by rw [unhide HF]; rfl, (Below.refl _ _).alloc (Nat.le_refl _) _⟩
    · have HF : Hid (gl 6 a b len = false) := by
        show gl 6 a b len = _
        unfold gl
        rw [Bool.eq_iff_iff]
        simp [shp] <;> omega
      have hd : decide ((len : Int) ≤ 200) = false := by simp; omega
      go_enter Try.func19, Try.ntmps19
      go_wp2
      all_goals
        go_ret
        exact ⟨by rw [unhide HF]; rfl, (Below.refl _ _).alloc (Nat.le_refl _) _⟩
  · by_cases h1 : 1 ≤ (len : Int)
    · have HF : Hid (gl 7 a b len = decide ((len : Int) ≤ 200)) := by
        show gl 7 a b len = _
        unfold gl
        rw [Bool.eq_iff_iff]
        simp [shp] <;> omega
      go_enter Try.func19, Try.ntmps19
      go_wp2
      all_goals
        go_ret
        exact ⟨by rw [unhide HF]; rfl, (Below.refl _ _).alloc (Nat.le_refl _) _⟩
    · have HF : Hid (gl 7 a b len = false) := by
        show gl 7 a b len = _
        unfold gl
        rw [Bool.eq_iff_iff]
        simp [shp] <;> omega
      have hd : decide (1 ≤ (len : Int)) = false := by simp; omega
      go_enter Try.func19, Try.ntmps19
      go_wp2
      all_goals
        go_ret
        exact ⟨by rw [unhide HF]; rfl, (Below.refl _ _).alloc (Nat.le_refl _) _⟩
  · by_cases h1 : (len : Int) ≤ 200
    · have HF : Hid (gl 8 a b len = decide (b + len ≤ 4611686018427387903)) := by
        show gl 8 a b len = _
        unfold gl
        rw [Bool.eq_iff_iff]
        simp [shp] <;> omega
      go_enter Try.func19, Try.ntmps19
      go_wp2
      all_goals
        go_ret
        exact ⟨by rw [unhide HF]; rfl, (Below.refl _ _).alloc (Nat.le_refl _) _⟩
    · have HF : Hid (gl 8 a b len = false) := by
        show gl 8 a b len = _
        unfold gl
        rw [Bool.eq_iff_iff]
        simp [shp] <;> omega
      have hd : decide ((len : Int) ≤ 200) = false := by simp; omega
      go_enter Try.func19, Try.ntmps19
      go_wp2
      all_goals
        go_ret
        exact ⟨by rw [unhide HF]; rfl, (Below.refl _ _).alloc (Nat.le_refl _) _⟩
  · have HF : Hid (gl 16 a b len = (((len : Int) == 0))) := by
      show gl 16 a b len = _
      unfold gl
      rw [Bool.eq_iff_iff]
      simp [shp] <;> omega
    go_enter Try.func19, Try.ntmps19
    go_wp2
    all_goals
      go_ret
      exact ⟨by rw [unhide HF]; rfl, (Below.refl _ _).alloc (Nat.le_refl _) _⟩
  · have HF : Hid (gl 17 a b len = (((len : Int) == 0))) := by
      show gl 17 a b len = _
      unfold gl
      rw [Bool.eq_iff_iff]
      simp [shp] <;> omega
    go_enter Try.func19, Try.ntmps19
    go_wp2
    all_goals
      go_ret
      exact ⟨by rw [unhide HF]; rfl, (Below.refl _ _).alloc (Nat.le_refl _) _⟩
  · by_cases h1 : 1 ≤ (len : Int)
    · have HF : Hid (gl 24 a b len = decide ((len : Int) ≤ 20)) := by
        show gl 24 a b len = _
        unfold gl
        rw [Bool.eq_iff_iff]
        simp [shp] <;> omega
      go_enter Try.func19, Try.ntmps19
      go_wp2
      all_goals
        go_ret
        exact ⟨by rw [unhide HF]; rfl, (Below.refl _ _).alloc (Nat.le_refl _) _⟩
    · have HF : Hid (gl 24 a b len = false) := by
        show gl 24 a b len = _
        unfold gl
        rw [Bool.eq_iff_iff]
        simp [shp] <;> omega
      have hd : decide (1 ≤ (len : Int)) = false := by simp; omega
      go_enter Try.func19, Try.ntmps19
      go_wp2
      all_goals
        go_ret
        exact ⟨by rw [unhide HF]; rfl, (Below.refl _ _).alloc (Nat.le_refl _) _⟩
  · have HF : Hid (gl 26 a b len = (((len : Int) == 8))) := by
      show gl 26 a b len = _
      unfold gl
      rw [Bool.eq_iff_iff]
      simp [shp] <;> omega
    go_enter Try.func19, Try.ntmps19
    go_wp2
    all_goals
      go_ret
      exact ⟨by rw [unhide HF]; rfl, (Below.refl _ _).alloc (Nat.le_refl _) _⟩
  · have HF : Hid (gl 27 a b len = (((len : Int) == 8))) := by
      show gl 27 a b len = _
      unfold gl
      rw [Bool.eq_iff_iff]
      simp [shp] <;> omega
    go_enter Try.func19, Try.ntmps19
    go_wp2
    all_goals
      go_ret
      exact ⟨by rw [unhide HF]; rfl, (Below.refl _ _).alloc (Nat.le_refl _) _⟩
  · have HF : Hid (gl 28 a b len = (decide ((len : Int) ≤ 200))) := by
      show gl 28 a b len = _
      unfold gl
      rw [Bool.eq_iff_iff]
      simp [shp] <;> omega
    go_enter Try.func19, Try.ntmps19
    go_wp2
    all_goals
      go_ret
      exact ⟨by rw [unhide HF]; rfl, (Below.refl _ _).alloc (Nat.le_refl _) _⟩
  · have HF : Hid (gl 48 a b len = (decide ((len : Int) ≤ 200))) := by
      show gl 48 a b len = _
      unfold gl
      rw [Bool.eq_iff_iff]
      simp [shp] <;> omega
    go_enter Try.func19, Try.ntmps19
    go_wp2
    all_goals
      go_ret
      exact ⟨by rw [unhide HF]; rfl, (Below.refl _ _).alloc (Nat.le_refl _) _⟩
  · rw [shp_none k h] at hk
    exact absurd hk (by decide)
end Go.Proofs.Ytagnkelpdgpigaa
