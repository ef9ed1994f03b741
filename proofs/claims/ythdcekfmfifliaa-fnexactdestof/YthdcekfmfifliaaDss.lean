/-
  Contract: DestOf, as the model makes it.
-/
import Derived.Test.YthdcekfmfifliaaLrd
import Derived.Test.YthdcekfmfifliaaDsi
namespace Go.Proofs.Ythdcekfmfifliaa
open Go.ChangeShapes Go.WideShapes Go.ChangeAt Go.RowKit
set_option linter.unusedVariables false

set_option maxHeartbeats 1000000 in
theorem idM_ok (rb p n : Nat) (s : ByteArray) (w : World) (hs : s.size ≤ 1048576) (hn : at8 s p = n) (h20 : n ≤ 20) (hp : p + 1 + n ≤ s.size) (h : Lr w rb s p 0) :
    Calls Try.prog 12 #[.pointer (some ⟨rb, 0, none⟩)] w fun e w' => e = .returned (.string (s.extract (p + 1) (p + 1 + n))) ∧ Lr w' rb s (p + 1 + n) 0 ∧ Kx rb w w' := by
  have HB := hide (fun W => l1Big_any (s.extract p (p + 1)) W (by rw [piece_size s p 1 (by omega)]; omega))
  rw [big_one s p (by omega), hn] at HB
  have HK := hide (fun W (hW : Lr W rb s p 0) => takeM_ok rb p 1 s W hs (by omega) hW)
  have HL := hide (fun W (hW : Lr W rb s (p + 1) 0) => takeM_ok rb (p + 1) n s W hs hp hW)
  have h21 : ¬ (20 : Int) < (n : Int) := by omega
  clear hn
  go_enter Try.func12, Try.ntmps12
  go_wp2_with (first | (go_at_call 18; refine (unhide HB _).mono ?_; rintro e w2 ⟨rfl, rfl⟩) | (go_at_call 19; refine (unhide HL _ h1).mono ?_; rintro e w3 ⟨rfl, h3, k3⟩) | (go_at_call 19; refine (unhide HK _ h).mono ?_; rintro e w1 ⟨rfl, h1, k1⟩; have c2 := h1.c2))
  go_ret
  exact ⟨rfl, h3, k1.trans k3⟩
set_option maxHeartbeats 1000000 in
theorem idM_short (rb p n : Nat) (s : ByteArray) (w : World) (hs : s.size ≤ 1048576) (hn : at8 s p = n) (h20 : n ≤ 20) (hp0 : p < s.size) (hp : s.size < p + 1 + n) (h : Lr w rb s p 0) :
    Calls Try.prog 12 #[.pointer (some ⟨rb, 0, none⟩)] w fun e w' => e = .returned (.string ⟨#[]⟩) ∧ Lr w' rb s (p + 1) 1 ∧ Kx rb w w' := by
  have HB := hide (fun W => l1Big_any (s.extract p (p + 1)) W (by rw [piece_size s p 1 (by omega)]; omega))
  rw [big_one s p (by omega), hn] at HB
  have HK := hide (fun W (hW : Lr W rb s p 0) => takeM_ok rb p 1 s W hs (by omega) hW)
  have HL := hide (fun W (hW : Lr W rb s (p + 1) 0) => takeM_short rb (p + 1) n s W hs (by omega) (by omega) hW)
  have h21 : ¬ (20 : Int) < (n : Int) := by omega
  clear hn
  go_enter Try.func12, Try.ntmps12
  go_wp2_with (first | (go_at_call 18; refine (unhide HB _).mono ?_; rintro e w2 ⟨rfl, rfl⟩) | (go_at_call 19; refine (unhide HL _ h1).mono ?_; rintro e w3 ⟨rfl, h3, k3⟩) | (go_at_call 19; refine (unhide HK _ h).mono ?_; rintro e w1 ⟨rfl, h1, k1⟩; have c2 := h1.c2))
  go_ret
  exact ⟨rfl, h3, k1.trans k3⟩
set_option maxHeartbeats 1000000 in
theorem idM_long (rb p : Nat) (s : ByteArray) (w : World) (hs : s.size ≤ 1048576) (hp0 : p < s.size) (h20 : 20 < at8 s p) (h : Lr w rb s p 0) :
    Calls Try.prog 12 #[.pointer (some ⟨rb, 0, none⟩)] w fun e w' => e = .returned (.string ⟨#[]⟩) ∧ Lr w' rb s (p + 1) 3 ∧ Kx rb w w' := by
  have HB := hide (fun W => l1Big_any (s.extract p (p + 1)) W (by rw [piece_size s p 1 (by omega)]; omega))
  rw [big_one s p (by omega)] at HB
  have HK := hide (fun W (hW : Lr W rb s p 0) => takeM_ok rb p 1 s W hs (by omega) hW)
  have HL := hide (fun W (hW : Lr W rb s (p + 1) 3) => takeM_code rb (p + 1) (at8 s p) 3 s W (by decide) hW)
  go_enter Try.func12, Try.ntmps12
  go_wp2_with (first | (go_at_call 18; refine (unhide HB _).mono ?_; rintro e w2 ⟨rfl, rfl⟩) | (go_at_call 19; refine (unhide HL _ (h1.note 3)).mono ?_; rintro e w3 ⟨rfl, h3, k3⟩) | (go_at_call 19; refine (unhide HK _ h).mono ?_; rintro e w1 ⟨rfl, h1, k1⟩; have c2 := h1.c2; have f2 := h1.fz 2))
  go_ret
  exact ⟨rfl, h3, (k1.set 2 _).trans k3⟩

theorem isE0 (s : ByteArray) (h : s.size = 0) : s.toList = [] := by
  rw [ByteArray.toList_eq, ← List.length_eq_zero_iff]; simpa using h
theorem isE1 (s : ByteArray) (h : ¬ s.size = 0) : ¬ s.toList = [] := by
  intro e
  rw [ByteArray.toList_eq, ← List.length_eq_zero_iff] at e
  simp at e
  exact h (by simpa using e)
/-- a DestOf's answer -/
def dA (r : Option (ByteArray × Bool)) : Value := match r with | some x => .tuple #[.string x.1, .bool x.2, .bool true] | none => .tuple #[.string ⟨#[]⟩, .bool false, .bool false]
theorem isE2 (s : ByteArray) (h : ¬ s.size = 0) : s.toList.isEmpty = false := by
  have := isE1 s h
  cases e : s.toList with
  | nil => exact absurd e this
  | cons a l => rfl
theorem dest0 (s : ByteArray) (short : Nat) (w : World) (h0 : s.size = 0) :
    Calls Try.prog 7 #[.string s, .int .i64 short] w fun e w' => e = .returned (dA none) ∧ Below w.heap.size w w' := by
  have he := isE0 s h0
  clear h0
  go_enter Try.func7, Try.ntmps7
  go_wp2
  go_ret3
  exact ⟨rfl, Below.refl _ _⟩
theorem dest1 (s : ByteArray) (short : Nat) (w : World) (hsh : short ≤ 20) (he : s.toList.isEmpty = false) (hp : 0 < s.size) (hl : (s[0].toNat : Int) < 128) (hz : (s.size : Int) < 1 + (short : Int)) :
    Calls Try.prog 7 #[.string s, .int .i64 short] w fun e w' => e = .returned (dA none) ∧ Below w.heap.size w w' := by
  go_enter Try.func7, Try.ntmps7
  go_wp2
  go_ret3
  exact ⟨rfl, Below.refl _ _⟩
theorem dest2 (s : ByteArray) (short : Nat) (w : World) (hsh : short ≤ 20) (he : s.toList.isEmpty = false) (hp : 0 < s.size) (hl : (s[0].toNat : Int) < 128) (hz : ¬ (s.size : Int) < 1 + (short : Int)) :
    Calls Try.prog 7 #[.string s, .int .i64 short] w fun e w' => e = .returned (dA (some (s.extract 1 (1 + short), false))) ∧ Below w.heap.size w w' := by
  have hz3 : 1 + (short : Int) ≤ (s.size : Int) := by omega
  have hz4 : (0 : Int) ≤ 1 + (short : Int) := by omega
  have hz5 : (1 : Int) ≤ 1 + (short : Int) := by omega
  have hz6 : (1 + (short : Int)).toNat = 1 + short := by omega
  go_enter Try.func7, Try.ntmps7
  go_wp2
  go_ret3
  exact ⟨rfl, Below.refl _ _⟩
theorem dest3 (s : ByteArray) (short : Nat) (w : World) (he : s.toList.isEmpty = false) (hp : 0 < s.size) (hl : ¬ (s[0].toNat : Int) < 128) (hz : (s.size : Int) < 6) :
    Calls Try.prog 7 #[.string s, .int .i64 short] w fun e w' => e = .returned (dA none) ∧ Below w.heap.size w w' := by
  go_enter Try.func7, Try.ntmps7
  go_wp2
  go_ret3
  exact ⟨rfl, (Below.refl _ _).alloc (Nat.le_refl _) _⟩
abbrev wR (w : World) (s : ByteArray) : World := w.alloc (.cells #[.string s, .int .i64 5, .int .i64 0] 35)
theorem wR_lr (w : World) (s : ByteArray) : Lr (wR w s) w.heap.size s 5 0 := by
  refine ⟨?_, ?_, ?_, ?_, fun o => ?_⟩ <;> simp [go_sem]
theorem wR_below (w : World) (s : ByteArray) : Below w.heap.size w (wR w s) := (Below.refl _ _).alloc (Nat.le_refl _) _
theorem dest4 (s : ByteArray) (short : Nat) (w : World) (c : Int) (q : Nat) (hc : (c != 0) = true) (he : s.toList.isEmpty = false) (hp : 0 < s.size) (hl : ¬ (s[0].toNat : Int) < 128) (hz : ¬ (s.size : Int) < 6)
    (HI : Hid (Calls Try.prog 12 #[.pointer (some ⟨w.heap.size, 0, none⟩)] (wR w s) fun e w' => e = .returned (.string ⟨#[]⟩) ∧ Lr w' w.heap.size s q c ∧ Kx w.heap.size (wR w s) w')) :
    Calls Try.prog 7 #[.string s, .int .i64 short] w fun e w' => e = .returned (dA none) ∧ Below w.heap.size w w' := by
  go_enter Try.func7, Try.ntmps7
  go_wp2_with (go_at_call 12; refine (unhide HI).mono ?_; rintro e w3 ⟨rfl, h3, k3⟩; have c2 := h3.c2)
  go_ret3
  exact ⟨rfl, (wR_below w s).trans (k3.below (Nat.le_refl _) (wR_below w s).size)⟩
theorem dest5 (s t : ByteArray) (short : Nat) (w : World) (q : Nat) (he : s.toList.isEmpty = false) (hp : 0 < s.size) (hl : ¬ (s[0].toNat : Int) < 128) (hz : ¬ (s.size : Int) < 6)
    (HI : Hid (Calls Try.prog 12 #[.pointer (some ⟨w.heap.size, 0, none⟩)] (wR w s) fun e w' => e = .returned (.string t) ∧ Lr w' w.heap.size s q 0 ∧ Kx w.heap.size (wR w s) w')) :
    Calls Try.prog 7 #[.string s, .int .i64 short] w fun e w' => e = .returned (dA (some (t, true))) ∧ Below w.heap.size w w' := by
  go_enter Try.func7, Try.ntmps7
  go_wp2_with (go_at_call 12; refine (unhide HI).mono ?_; rintro e w3 ⟨rfl, h3, k3⟩; have c2 := h3.c2)
  go_ret3
  exact ⟨rfl, (wR_below w s).trans (k3.below (Nat.le_refl _) (wR_below w s).size)⟩
theorem l2Dest_any (s : ByteArray) (short : Nat) (w : World) (hs : s.size ≤ 1048576) (hsh : short ≤ 20) :
    Calls Try.prog 7 #[.string s, .int .i64 short] w fun e w' => e = .returned (dA (dR s short)) ∧ Below w.heap.size w w' := by
  by_cases h0 : s.size = 0
  · rw [show dR s short = none by unfold dR; exact if_pos h0]
    exact dest0 s short w h0
  have he := isE2 s h0
  have hp : 0 < s.size := by omega
  have ha := at8_of hp
  by_cases hl : at8 s 0 < 128
  · by_cases hz : s.size < 1 + short
    · rw [show dR s short = none by unfold dR; rw [if_neg h0, if_pos hl]; exact if_pos hz]
      exact dest1 s short w hsh he hp (by omega) (by omega)
    · rw [show dR s short = some (s.extract 1 (1 + short), false) by unfold dR; rw [if_neg h0, if_pos hl]; exact if_neg hz]
      exact dest2 s short w hsh he hp (by omega) (by omega)
  · have b5 := at8_in s 5
    by_cases h6 : s.size < 6
    · rw [show dR s short = none by unfold dR; rw [if_neg h0, if_neg hl]; exact if_pos (Or.inl h6)]
      exact dest3 s short w he hp (by omega) (by omega)
    by_cases h20 : 20 < at8 s 5
    · rw [show dR s short = none by unfold dR; rw [if_neg h0, if_neg hl]; exact if_pos (Or.inr (Or.inl h20))]
      exact dest4 s short w 3 6 (by decide) he hp (by omega) (by omega) (idM_long _ 5 s _ hs (by omega) h20 (wR_lr w s))
    obtain ⟨n, hn⟩ : ∃ n : Nat, at8 s 5 = n := ⟨(at8 s 5).toNat, by omega⟩
    by_cases h7 : s.size < 6 + n
    · rw [show dR s short = none by unfold dR; rw [if_neg h0, if_neg hl]; exact if_pos (Or.inr (Or.inr (by omega)))]
      exact dest4 s short w 1 6 (by decide) he hp (by omega) (by omega) (idM_short _ 5 n s _ hs hn (by omega) (by omega) (by omega) (wR_lr w s))
    · rw [show dR s short = some (s.extract 6 (6 + n), true) by unfold dR; rw [if_neg h0, if_neg hl, if_neg (by omega), hn]; rfl]
      exact dest5 s _ short w (5 + 1 + n) he hp (by omega) (by omega) (idM_ok _ 5 n s _ hs hn (by omega) (by omega) (wR_lr w s))
theorem specDest_any (s : ByteArray) (short : Nat) (w : World) (hs : s.size ≤ 1048576) (hsh : short ≤ 20) :
    Calls Try.prog 4 #[.string s, .int .i64 short] w fun e w' => e = .returned (dA (dR s short)) ∧ Below w.heap.size w w' := by
  have HI := hide (fun W => l1In_m short 0 20 W)
  rw [show (decide ((0 : Int) ≤ (short : Int)) && decide ((short : Int) ≤ 20)) = true by simp; omega] at HI
  have HD := hide (fun W => l2Dest_any s short W hs hsh)
  cases hR : dR s short with
  | none =>
    rw [hR] at HD
    clear hR
    go_enter Try.func4, Try.ntmps4
    go_wp2_with (first | (go_at_call 6; refine (unhide HI _).mono ?_; rintro e w1 ⟨rfl, rfl⟩) | (go_at_call 7; refine (unhide HD _).mono ?_; rintro e w2 ⟨rfl, b2⟩; unfold dA))
    go_ret3
    exact ⟨rfl, b2⟩
  | some x =>
    rw [hR] at HD
    clear hR
    go_enter Try.func4, Try.ntmps4
    go_wp2_with (first | (go_at_call 6; refine (unhide HI _).mono ?_; rintro e w1 ⟨rfl, rfl⟩) | (go_at_call 7; refine (unhide HD _).mono ?_; rintro e w2 ⟨rfl, b2⟩; unfold dA))
    go_ret3
    exact ⟨rfl, b2⟩
theorem specDest_wild (s : ByteArray) (short : Int) (w : World) (hsh : ¬ (0 ≤ short ∧ short ≤ 20)) :
    Calls Try.prog 4 #[.string s, .int .i64 short] w fun e w' => e = .returned (dA none) ∧ Below w.heap.size w w' := by
  have HI := hide (fun W => l1In_m short 0 20 W)
  rw [show (decide ((0 : Int) ≤ short) && decide (short ≤ 20)) = false by
    by_cases h : 0 ≤ short
    · rw [decide_eq_true h, decide_eq_false (fun h2 => hsh ⟨h, h2⟩)]; rfl
    · rw [decide_eq_false h]; rfl] at HI
  clear hsh
  go_enter Try.func4, Try.ntmps4
  go_wp2_with (go_at_call 6; refine (unhide HI _).mono ?_; rintro e w1 ⟨rfl, rfl⟩)
  go_ret3
  exact ⟨rfl, Below.refl _ _⟩
end Go.Proofs.Ythdcekfmfifliaa
