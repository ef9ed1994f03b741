/-
  The law on RoundKeys, walked.
-/
import Derived.Test.YtlfffglkpijjdaaLke
namespace Go.Proofs.Ytlfffglkpijjdaa.fnExactRoundKeys
open Go.ChangeShapes Go.WideShapes Go.ChangeAt Go.RowKit
set_option linter.unusedVariables false

theorem sp_string {base : Nat} {w : World} {v : Value} {n : Nat} {f : Nat → Nat} (h : Sp base w v n f) (hf : ∀ i, i < n → f i < 256) : (convert 31 9 v).run Try.prog w = .ok (.string (bq n f)) w := by
  obtain ⟨g, o, cap, rfl, _, hs⟩ := h
  exact ar_string hs.ar hf cap
theorem bq_ck (s : ByteArray) : bq 176 (ks (at8 s)) = bq 176 (ck (at8 s) 10) := bq_congr fun i hi => (ck_ks (at8 s) i hi).symm


theorem specRK_ok (s : ByteArray) (hs : s.size = 16) (w : World) :
    Calls Try.prog 19 #[.string s] w fun e w' => e = .returned (.tuple #[.string (bq 176 (ck (at8 s) 10)), .bool true]) ∧ Below w.heap.size w w' := by
  have HK := hide (fun W => specKeys s hs W)
  have HF := hide (ks_lt (at8 s) (at8_lt s))
  rw [← bq_ck]
  go_enter Try.func19, Try.ntmps19
  go_wp2_with (go_at_call 31; with_reducible refine (unhide HK _).mono ?_; rintro e w1 ⟨v, rfl, hsp, hb⟩; have hst := sp_string hsp (fun i _ => unhide HF i); have HB := hide hb; clear hsp hb)
  go_ret2
  exact ⟨rfl, unhide HB⟩
theorem specRK_no (s : ByteArray) (hs : ¬ s.size = 16) (hl : s.size ≤ 1048576) (w : World) :
    Calls Try.prog 19 #[.string s] w fun e w' => e = .returned (.tuple #[.string ⟨#[]⟩, .bool false]) ∧ Below w.heap.size w w' := by
  have h1 : ((s.size : Int) != 16) = true := by simp; omega
  go_enter Try.func19, Try.ntmps19
  go_wp2
  go_ret2
  exact ⟨rfl, Below.refl _ _⟩
theorem walk_same (s t : ByteArray) (b : Bool) (hs : s.size ≤ 1048576) (w : World)
    (HS : ∀ W, Calls Try.prog 19 #[.string s] W fun e w' => e = .returned (.tuple #[.string t, .bool b]) ∧ Below W.heap.size W w')
    (HI : ∀ W, Calls Try.prog 20 #[.string s] W fun e w' => e = .returned (.tuple #[.string t, .bool b]) ∧ Below W.heap.size W w') :
    Calls Try.prog 8 #[.string s] w fun e w' => e = .returned (.bool true) ∧ Below w.heap.size w w' := by
  have H1 := hide HS
  have H2 := hide HI
  clear HS HI
  have hl : ¬ (1048576 : Int) < s.size := by omega
  go_enter Try.func8, Try.ntmps8
  go_wp2_with (first | (go_at_call 19; refine (unhide H1 _).mono ?_; rintro e w1 ⟨rfl, b1⟩) | (go_at_call 20; refine (unhide H2 _).mono ?_; rintro e w2 ⟨rfl, b2⟩))
  go_ret
  exact ⟨rfl, b1.trans (b2.mono b1.size)⟩
theorem walk (s : ByteArray) (hs : s.size ≤ maxLen) (w : World) :
    Calls Try.prog 8 #[.string s] w fun e w' => e = .returned (.bool true) ∧ Below w.heap.size w w' := by
  unfold maxLen at hs
  by_cases hl : (1048576 : Int) < s.size
  · go_enter Try.func8, Try.ntmps8
    go_wp2
    go_ret
    exact ⟨rfl, Below.refl _ _⟩
  by_cases h4 : s.size = 16
  · exact walk_same s _ true (by omega) w (specRK_ok s h4) (implRK_ok s h4)
  · exact walk_same s _ false (by omega) w (specRK_no s h4 (by omega)) (implRK_no s h4 (by omega))
end Go.Proofs.Ytlfffglkpijjdaa.fnExactRoundKeys
