/-
  The law on AgeOf, walked.
-/
import Derived.Test.YtidkbnbnnhbbiaaAgs
namespace Go.Proofs.Ytidkbnbnnhbbiaa.fnExactAgeOf
open Go.ChangeShapes Go.WideShapes Go.ChangeAt Go.RowKit
set_option linter.unusedVariables false
set_option maxRecDepth 100000

set_option maxHeartbeats 2000000 in
theorem walk_same (d : ByteArray) (t : Int) (b : Bool) (now r : Int) (ok : Bool) (hl : ¬ (1048576 : Int) < d.size) (w : World)
    (HS : ∀ W, Calls Try.prog 6 #[mnV d t b, .int .i64 now] W fun e w' => e = .returned (.tuple #[.int .i64 r, .bool ok]) ∧ Below W.heap.size W w')
    (HI : ∀ W, Calls Try.prog 8 #[mnV d t b, .int .i64 now] W fun e w' => e = .returned (.tuple #[.int .i64 r, .bool ok]) ∧ Below W.heap.size W w') :
    Calls Try.prog 3 #[mnV d t b, .int .i64 now] w fun e w' => e = .returned (.bool true) ∧ Below w.heap.size w w' := by
  have HZ := hide (szMn d t b (by unfold maxLen; omega))
  rw [if_neg hl] at HZ
  have hl2 : (0 : Int) ≤ 1048576 - d.size := by omega
  have H1 := hide (toMn d t b)
  have H2 := hide HS
  have H3 := hide HI
  clear HS HI
  go_enter Try.func3, Try.ntmps3
  go_wp2_with fail
  refine (unhide HZ _).mono ?_
  rintro e w1 ⟨rfl, hb1⟩
  have D1 := hide hb1
  have B1 : Hid (Below w.heap.size w w1) := ((Below.refl _ _).alloc (Nat.le_refl _) _).trans (hb1.mono (by simp))
  obtain ⟨hc1, hf1⟩ := bcell hb1
  have p1 : ∀ o, w1.cell? ⟨w.heap.size, o, none⟩ = _ := fun o => hc1 w.heap.size o (by simp)
  clear hb1 hc1 hf1
  go_wp2_with fail
  refine (unhide H1 _).mono ?_
  rintro e w2 ⟨rfl, hb2⟩
  have D2 := hide ((unhide D1).trans (hb2.mono (unhide D1).size))
  have B2 := hide ((unhide B1).trans (hb2.mono (unhide B1).size))
  clear hb2 p1 D1 B1
  go_wp2_with fail
  refine (unhide H2 _).mono ?_
  rintro e w3 ⟨rfl, hb3⟩
  have D3 := hide ((unhide D2).trans (hb3.mono (unhide D2).size))
  have B3 := hide ((unhide B2).trans (hb3.mono (unhide B2).size))
  clear hb3 D2 B2
  obtain ⟨hc3, hf3⟩ := bcell (unhide D3)
  have p3 : ∀ o, w3.cell? ⟨w.heap.size, o, none⟩ = _ := fun o => hc3 w.heap.size o (by simp)
  clear hc3 hf3
  go_wp2_with fail
  refine (unhide H1 _).mono ?_
  rintro e w4 ⟨rfl, hb4⟩
  have B4 := hide ((unhide B3).trans (hb4.mono (unhide B3).size))
  clear hb4 p3 D3 B3
  go_wp2_with fail
  refine (unhide H3 _).mono ?_
  rintro e w5 ⟨rfl, hb5⟩
  have B5 := hide ((unhide B4).trans (hb5.mono (unhide B4).size))
  clear hb5 B4
  go_wp2
  go_ret
  exact ⟨rfl, unhide B5⟩
theorem walk (d : ByteArray) (t : Int) (b : Bool) (hk : d.size ≤ maxLen) (now : Int) (w : World) :
    Calls Try.prog 3 #[mnV d t b, .int .i64 now] w fun e w' => e = .returned (.bool true) ∧ Below w.heap.size w w' := by
  by_cases l3 : (1048576 : Int) < d.size
  · have HZ := hide (szMn d t b hk)
    rw [if_pos l3] at HZ
    clear hk l3
    go_enter Try.func3, Try.ntmps3
    go_wp2_with fail
    refine (unhide HZ _).mono ?_
    rintro e w1 ⟨rfl, hb1⟩
    go_wp2
    go_ret
    exact ⟨rfl, ((Below.refl _ _).alloc (Nat.le_refl _) _).trans (hb1.mono (by simp))⟩
  by_cases h : d.size ≤ 20 ∧ agP t now
  · exact walk_same d t b now _ true l3 w (specAg_ok d t b now h.1 h.2) (implAg_ok d t b now h.1 h.2)
  · exact walk_same d t b now _ false l3 w (specAg_no d t b now (by omega) h) (implAg_no d t b now (by omega) h)
end Go.Proofs.Ytidkbnbnnhbbiaa.fnExactAgeOf
