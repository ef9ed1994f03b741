/-
  The law on GoodConfig, walked.
-/
import Derived.Test.YtooojkedphlknaaCfg
namespace Go.Proofs.Ytooojkedphlknaa.fnExactGoodConfig
open Go.ChangeShapes Go.WideShapes Go.ChangeAt Go.RowKit
set_option linter.unusedVariables false
set_option maxRecDepth 100000

set_option maxHeartbeats 2000000 in
theorem walk_small (sl sv nc : Int) (k : ByteArray) (t : Bool) (w : World) (hk : k.size ≤ maxLen) (hl : ¬ (1048576 : Int) < k.size) :
    Calls Try.prog 3 #[kv sl sv nc k t] w fun e w' => e = .returned (.bool true) ∧ Below w.heap.size w w' := by
  have HZ := hide (szCfg sl sv nc k t hk)
  rw [if_neg hl] at HZ
  have hl2 : (0 : Int) ≤ 1048576 - k.size := by omega
  have H1 := hide (toCfg sl sv nc k t)
  have H2 := hide (specGC sl sv nc k t)
  have H3 := hide (implGC sl sv nc k t)
  generalize gcB sl sv nc k.size = r at *
  clear hk hl
  go_enter Try.func3, Try.ntmps3
  go_wp2_with fail
  refine (unhide HZ _).mono ?_
  rintro e w1 ⟨rfl, hb1⟩
  have D1 := hide hb1
  have B1 : Hid (Below w.heap.size w w1) := ((Below.refl _ _).alloc (Nat.le_refl _) _).trans (hb1.mono (by simp))
  obtain ⟨hc1, hf1⟩ := bcell hb1
  have p1 : ∀ o, w1.cell? ⟨w.heap.size, o, none⟩ = _ := fun o => hc1 w.heap.size o (by simp)
  clear hb1 hc1 hf1
  go_wp2_with fail
  refine (unhide H1 _).mono ?_
  rintro e w2 ⟨rfl, hb2⟩
  have D2 := hide ((unhide D1).trans (hb2.mono (unhide D1).size))
  have B2 := hide ((unhide B1).trans (hb2.mono (unhide B1).size))
  clear hb2 p1 D1 B1
  go_wp2_with fail
  refine (unhide H2 _).mono ?_
  rintro e w3 ⟨rfl, hb3⟩
  have D3 := hide ((unhide D2).trans (hb3.mono (unhide D2).size))
  have B3 := hide ((unhide B2).trans (hb3.mono (unhide B2).size))
  clear hb3 D2 B2
  obtain ⟨hc3, hf3⟩ := bcell (unhide D3)
  have p3 : ∀ o, w3.cell? ⟨w.heap.size, o, none⟩ = _ := fun o => hc3 w.heap.size o (by simp)
  clear hc3 hf3
  go_wp2_with fail
  refine (unhide H1 _).mono ?_
  rintro e w4 ⟨rfl, hb4⟩
  have B4 := hide ((unhide B3).trans (hb4.mono (unhide B3).size))
  clear hb4 p3 D3 B3
  go_wp2_with fail
  refine (unhide H3 _).mono ?_
  rintro e w5 ⟨rfl, hb5⟩
  have B5 := hide ((unhide B4).trans (hb5.mono (unhide B4).size))
  clear hb5 B4
  go_wp2
  go_ret
  exact ⟨rfl, unhide B5⟩
theorem walk_big (sl sv nc : Int) (k : ByteArray) (t : Bool) (w : World) (hk : k.size ≤ maxLen) (hl : (1048576 : Int) < k.size) :
    Calls Try.prog 3 #[kv sl sv nc k t] w fun e w' => e = .returned (.bool true) ∧ Below w.heap.size w w' := by
  have HZ := hide (szCfg sl sv nc k t hk)
  rw [if_pos hl] at HZ
  clear hk hl
  go_enter Try.func3, Try.ntmps3
  go_wp2_with fail
  refine (unhide HZ _).mono ?_
  rintro e w1 ⟨rfl, hb1⟩
  go_wp2
  go_ret
  exact ⟨rfl, ((Below.refl _ _).alloc (Nat.le_refl _) _).trans (hb1.mono (by simp))⟩
theorem walk (sl sv nc : Int) (k : ByteArray) (t : Bool) (w : World) (hk : k.size ≤ maxLen) :
    Calls Try.prog 3 #[kv sl sv nc k t] w fun e w' => e = .returned (.bool true) ∧ Below w.heap.size w w' := by
  by_cases hl : (1048576 : Int) < k.size
  · exact walk_big sl sv nc k t w hk hl
  · exact walk_small sl sv nc k t w hk hl
end Go.Proofs.Ytooojkedphlknaa.fnExactGoodConfig
