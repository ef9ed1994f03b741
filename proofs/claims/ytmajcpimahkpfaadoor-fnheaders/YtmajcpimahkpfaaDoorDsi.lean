/-
  Contract: DestOf, as the program makes it.
-/
import Derived.Test.YtmajcpimahkpfaaDoorCrb
import Derived.Defers
import Derived.Recover
namespace Go.Proofs.YtmajcpimahkpfaaDoor
open Go.ChangeShapes Go.WideShapes Go.ChangeAt Go.RowKit
set_option linter.unusedVariables false

/-- where a first packet goes: its id, and whether it is a long one -/
def dR (s : ByteArray) (short : Nat) : Option (ByteArray × Bool) :=
  if s.size = 0 then none
  else if at8 s 0 < 128 then (if s.size < 1 + short then none else some (s.extract 1 (1 + short), false))
  else if s.size < 6 ∨ 20 < at8 s 5 ∨ (s.size : Int) < 6 + at8 s 5 then none
  else some (s.extract 6 (6 + (at8 s 5).toNat), true)
theorem and128_lo (s : ByteArray) (p : Nat) (h : at8 s p < 128) : bits .and .i64 (at8 s p) 128 = 0 := by
  have key : ∀ k : Fin 128, bits .and .i64 (k.val : Int) 128 = 0 := by decide +kernel
  have b := at8_in s p
  have := key ⟨(at8 s p).toNat, by omega⟩
  rwa [show (((at8 s p).toNat : Nat) : Int) = at8 s p by omega] at this
theorem and128_hi (s : ByteArray) (p : Nat) (h : ¬ at8 s p < 128) : bits .and .i64 (at8 s p) 128 = 128 := by
  have key : ∀ k : Fin 128, bits .and .i64 ((k.val + 128 : Nat) : Int) 128 = 128 := by decide +kernel
  have b := at8_in s p
  have := key ⟨(at8 s p).toNat - 128, by omega⟩
  rwa [show (((at8 s p).toNat - 128 + 128 : Nat) : Int) = at8 s p by omega] at this

/-- what 'dest' leaves: the id, or a fault -/
def dQ (cb : Nat) (w : World) (r : Option (ByteArray × Bool)) (e : Ending) (w' : World) : Prop :=
  (match r with | some x => e = .returned (.tuple #[.string x.1, .bool x.2]) | none => e = gives 1 ∨ e = gives 3) ∧ Kx cb w w'

set_option maxHeartbeats 1000000 in
theorem dest_any (cb short : Nat) (s : ByteArray) (told : Int) (w : World) (hs : s.size ≤ 1048576) (hsh : short ≤ 20) (h : Cc w cb s 0 told) :
    Calls Tryd.prog 21 #[.pointer (some ⟨cb, 0, none⟩), .int .i64 short] w (dQ cb w (dR s short)) := by
  by_cases h0 : s.size = 0
  · have HQ : Hid (dR s short = none) := by unfold dR; exact if_pos h0
    rw [unhide HQ]
    clear HQ
    go_enter Tryd.func21, Tryd.ntmps21
    go_wp2_with (go_at_call 39; refine (oneByte_short cb 0 s told w hs h0.symm h).mono ?_; rintro e w1 ⟨rfl, h1⟩)
    exact ⟨rfl, Or.inl rfl, Kx.of h1⟩
  by_cases hl : at8 s 0 < 128
  · have ha := and128_lo s 0 hl
    by_cases hz : s.size < 1 + short
    · have HQ : Hid (dR s short = none) := by unfold dR; rw [if_neg h0, if_pos hl]; exact if_pos hz
      rw [unhide HQ]
      clear HQ
      go_enter Tryd.func21, Tryd.ntmps21
      go_wp2_with (first | (go_at_call 39; refine (oneByte_ok cb 0 s told w hs (by omega) h).mono ?_; rintro e w1 ⟨rfl, h1, k1⟩) | (go_at_call 40; refine (take_short cb 1 short s told w1 hs (by omega) (by omega) h1).mono ?_; rintro e w2 ⟨rfl, h2⟩))
      exact ⟨rfl, Or.inl rfl, k1.trans (Kx.of h2)⟩
    · have HQ : Hid (dR s short = some (s.extract 1 (1 + short), false)) := by unfold dR; rw [if_neg h0, if_pos hl]; exact if_neg hz
      rw [unhide HQ]
      clear HQ
      go_enter Tryd.func21, Tryd.ntmps21
      go_wp2_with (first | (go_at_call 39; refine (oneByte_ok cb 0 s told w hs (by omega) h).mono ?_; rintro e w1 ⟨rfl, h1, k1⟩) | (go_at_call 40; refine (take_ok cb 1 short s told w1 hs (by omega) h1).mono ?_; rintro e w2 ⟨rfl, h2, k2⟩))
      go_ret2
      exact ⟨rfl, k1.trans k2⟩
  · have ha := and128_hi s 0 hl
    have b5 := at8_in s 5
    by_cases h5 : s.size < 5
    · have HQ : Hid (dR s short = none) := by unfold dR; rw [if_neg h0, if_neg hl]; exact if_pos (Or.inl (by omega))
      rw [unhide HQ]
      clear HQ
      go_enter Tryd.func21, Tryd.ntmps21
      go_wp2_with (first | (go_at_call 39; refine (oneByte_ok cb 0 s told w hs (by omega) h).mono ?_; rintro e w1 ⟨rfl, h1, k1⟩) | (go_at_call 36; refine (word_short cb 1 s told w1 hs (by omega) (by omega) h1).mono ?_; rintro e w2 ⟨rfl, h2⟩))
      exact ⟨rfl, Or.inl rfl, k1.trans (Kx.of h2)⟩
    by_cases h6 : s.size = 5
    · have HQ : Hid (dR s short = none) := by unfold dR; rw [if_neg h0, if_neg hl]; exact if_pos (Or.inl (by omega))
      rw [unhide HQ]
      clear HQ
      go_enter Tryd.func21, Tryd.ntmps21
      go_wp2_with (first | (go_at_call 39; refine (oneByte_ok cb 0 s told w hs (by omega) h).mono ?_; rintro e w1 ⟨rfl, h1, k1⟩) | (go_at_call 36; refine (word_ok cb 1 s told w1 hs (by omega) h1).mono ?_; rintro e w2 ⟨rfl, h2, k2⟩) | (go_at_call 41; refine (id_none cb 5 s told w2 hs h6.symm h2).mono ?_; rintro e w3 ⟨rfl, h3⟩))
      exact ⟨rfl, Or.inl rfl, (k1.trans k2).trans (Kx.of h3)⟩
    by_cases h20 : 20 < at8 s 5
    · have HQ : Hid (dR s short = none) := by unfold dR; rw [if_neg h0, if_neg hl]; exact if_pos (Or.inr (Or.inl h20))
      rw [unhide HQ]
      clear HQ
      go_enter Tryd.func21, Tryd.ntmps21
      go_wp2_with (first | (go_at_call 39; refine (oneByte_ok cb 0 s told w hs (by omega) h).mono ?_; rintro e w1 ⟨rfl, h1, k1⟩) | (go_at_call 36; refine (word_ok cb 1 s told w1 hs (by omega) h1).mono ?_; rintro e w2 ⟨rfl, h2, k2⟩) | (go_at_call 41; refine (id_long cb 5 s told w2 hs (by omega) h20 h2).mono ?_; rintro e w3 ⟨rfl, k3⟩))
      exact ⟨rfl, Or.inr rfl, (k1.trans k2).trans k3⟩
    obtain ⟨n, hn⟩ : ∃ n : Nat, at8 s 5 = n := ⟨(at8 s 5).toNat, by omega⟩
    by_cases h7 : s.size < 6 + n
    · have HQ : Hid (dR s short = none) := by unfold dR; rw [if_neg h0, if_neg hl]; exact if_pos (Or.inr (Or.inr (by omega)))
      rw [unhide HQ]
      clear HQ
      go_enter Tryd.func21, Tryd.ntmps21
      go_wp2_with (first | (go_at_call 39; refine (oneByte_ok cb 0 s told w hs (by omega) h).mono ?_; rintro e w1 ⟨rfl, h1, k1⟩) | (go_at_call 36; refine (word_ok cb 1 s told w1 hs (by omega) h1).mono ?_; rintro e w2 ⟨rfl, h2, k2⟩) | (go_at_call 41; refine (id_short cb 5 n s told w2 hs hn (by omega) (by omega) (by omega) h2).mono ?_; rintro e w3 ⟨rfl, k3⟩))
      exact ⟨rfl, Or.inl rfl, (k1.trans k2).trans k3⟩
    · have HQ : Hid (dR s short = some (s.extract 6 (6 + n), true)) := by
        unfold dR
        rw [if_neg h0, if_neg hl, if_neg (by omega), hn]
        rfl
      rw [unhide HQ]
      clear HQ
      go_enter Tryd.func21, Tryd.ntmps21
      go_wp2_with (first | (go_at_call 39; refine (oneByte_ok cb 0 s told w hs (by omega) h).mono ?_; rintro e w1 ⟨rfl, h1, k1⟩) | (go_at_call 36; refine (word_ok cb 1 s told w1 hs (by omega) h1).mono ?_; rintro e w2 ⟨rfl, h2, k2⟩) | (go_at_call 41; refine (id_ok cb 5 n s told w2 hs hn (by omega) (by omega) h2).mono ?_; rintro e w3 ⟨rfl, h3, k3⟩))
      go_ret2
      exact ⟨rfl, (k1.trans k2).trans k3⟩
end Go.Proofs.YtmajcpimahkpfaaDoor
