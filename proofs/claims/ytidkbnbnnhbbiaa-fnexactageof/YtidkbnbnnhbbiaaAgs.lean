/-
  Contracts: AgeOf of the model.
-/
import Derived.Test.YtidkbnbnnhbbiaaAgi
namespace Go.Proofs.Ytidkbnbnnhbbiaa
open Go.ChangeShapes Go.WideShapes Go.ChangeAt Go.RowKit
set_option linter.unusedVariables false
set_option maxRecDepth 100000

set_option maxHeartbeats 1000000 in
theorem specAg_ok (d : ByteArray) (t : Int) (b : Bool) (now : Int) (hd : d.size ≤ 20) (h : agP t now) (w : World) :
    Calls Try.prog 6 #[mnV d t b, .int .i64 now] w fun e w' => e = .returned (.tuple #[.int .i64 (now - t), .bool true]) ∧ Below w.heap.size w w' := by
  obtain ⟨h1, h2, h3⟩ := h
  have HG := hide (specMd d t b (by omega))
  rw [decide_eq_true ⟨hd, h1⟩] at HG
  have HN := hide (inB now 0 1000000000)
  rw [← Bool.decide_and, decide_eq_true h2] at HN
  have g3 : ¬ now < t := by omega
  go_enter Try.func6, Try.ntmps6
  go_wp2_with fail
  refine (unhide HG _).mono ?_
  rintro e w1 ⟨rfl, b1⟩
  have B1 : Hid (Below w.heap.size w w1) := ((Below.refl _ _).alloc (Nat.le_refl _) _).trans (b1.mono (by simp))
  obtain ⟨hc1, hf1⟩ := bcell b1
  have p1 : ∀ o, w1.cell? ⟨w.heap.size, o, none⟩ = _ := fun o => hc1 w.heap.size o (by simp)
  clear b1 hc1 hf1
  go_wp2_with fail
  refine (unhide HN _).mono ?_
  rintro e w2 ⟨rfl, h9⟩
  rw [h9]
  clear h9 w2
  go_wp2
  go_ret2
  exact ⟨by go_num, unhide B1⟩
set_option maxHeartbeats 1000000 in
theorem specAg_no (d : ByteArray) (t : Int) (b : Bool) (now : Int) (hl : d.size ≤ 1048576) (h : ¬ (d.size ≤ 20 ∧ agP t now)) (w : World) :
    Calls Try.prog 6 #[mnV d t b, .int .i64 now] w fun e w' => e = .returned (.tuple #[.int .i64 0, .bool false]) ∧ Below w.heap.size w w' := by
  have HG := hide (specMd d t b hl)
  by_cases h1 : d.size ≤ 20 ∧ 0 ≤ t ∧ t ≤ 1000000000
  case neg =>
    rw [decide_eq_false h1] at HG
    clear h1 h
    go_enter Try.func6, Try.ntmps6
    go_wp2_with fail
    refine (unhide HG _).mono ?_
    rintro e w1 ⟨rfl, b1⟩
    go_wp2
    go_ret2
    exact ⟨rfl, ((Below.refl _ _).alloc (Nat.le_refl _) _).trans (b1.mono (by simp))⟩
  rw [decide_eq_true h1] at HG
  have HN := hide (inB now 0 1000000000)
  rw [← Bool.decide_and] at HN
  by_cases h2 : 0 ≤ now ∧ now ≤ 1000000000
  case neg =>
    rw [decide_eq_false h2] at HN
    clear h1 h h2
    go_enter Try.func6, Try.ntmps6
    go_wp2_with fail
    refine (unhide HG _).mono ?_
    rintro e w1 ⟨rfl, b1⟩
    have B1 : Hid (Below w.heap.size w w1) := ((Below.refl _ _).alloc (Nat.le_refl _) _).trans (b1.mono (by simp))
    clear b1
    go_wp2_with fail
    refine (unhide HN _).mono ?_
    rintro e w2 ⟨rfl, h9⟩
    rw [h9]
    clear h9 w2
    go_wp2
    go_ret2
    exact ⟨rfl, unhide B1⟩
  rw [decide_eq_true h2] at HN
  have g3 : now < t := by
    have : ¬ t ≤ now := fun x => h ⟨h1.1, h1.2, h2, x⟩
    omega
  clear h1 h h2
  go_enter Try.func6, Try.ntmps6
  go_wp2_with fail
  refine (unhide HG _).mono ?_
  rintro e w1 ⟨rfl, b1⟩
  have B1 : Hid (Below w.heap.size w w1) := ((Below.refl _ _).alloc (Nat.le_refl _) _).trans (b1.mono (by simp))
  obtain ⟨hc1, hf1⟩ := bcell b1
  have p1 : ∀ o, w1.cell? ⟨w.heap.size, o, none⟩ = _ := fun o => hc1 w.heap.size o (by simp)
  clear b1 hc1 hf1
  go_wp2_with fail
  refine (unhide HN _).mono ?_
  rintro e w2 ⟨rfl, h9⟩
  rw [h9]
  clear h9 w2
  go_wp2
  go_ret2
  exact ⟨rfl, unhide B1⟩
end Go.Proofs.Ytidkbnbnnhbbiaa
