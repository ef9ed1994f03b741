/-
  The law on KeysOf, walked.
-/
import Derived.Test.YtlphaciboaicgaaDoorE6y
namespace Go.Proofs.YtlphaciboaicgaaDoor.fnExactKeysOf
open Go.ChangeShapes Go.WideShapes Go.ChangeAt Go.RowKit
set_option linter.unusedVariables false
set_option maxRecDepth 100000

set_option maxHeartbeats 1000000 in
theorem walk_same (a0 r1 r2 r3 : ByteArray) (b : Bool) (l0 : a0.size ≤ 1048576) (w : World) (hT : Rt w)
    (HS : ∀ W, Calls Tryd.prog 5 #[.string a0] W fun e w' => e = .returned (.tuple #[.agg #[.string r1, .string r2, .string r3], .bool b]) ∧ Below W.heap.size W w')
    (HI : ∀ W, Rt W → Calls Tryd.prog 6 #[.string a0] W fun e w' => e = .returned (.tuple #[.agg #[.string r1, .string r2, .string r3], .bool b]) ∧ Below W.heap.size W w') :
    Calls Tryd.prog 3 #[.string a0] w fun e w' => e = .returned (.bool true) ∧ Below w.heap.size w w' := by
  have H1 := hide HS
  have H2 := hide HI
  clear HS HI
  have HT := hide hT
  clear hT
  have h0 : ¬ (1048576 : Int) < a0.size := by omega
  go_enter Tryd.func3, Tryd.ntmps3
  go_wp2_with fail
  refine (unhide H1 _).mono ?_
  rintro e w1 ⟨rfl, b1⟩
  have T1 := hide ((unhide HT).kept b1)
  have B1 := hide b1
  clear b1 HT
  go_wp2_with fail
  have al := (Below.refl w1.heap.size w1).alloc (Nat.le_refl _) (.cells #[.string r1, .string r2, .string r3] 23)
  have c0 : (w1.alloc (.cells #[.string r1, .string r2, .string r3] 23)).cell? ⟨w1.heap.size, 0, none⟩ = some (.string r1) := by simp
  have c1 : (w1.alloc (.cells #[.string r1, .string r2, .string r3] 23)).cell? ⟨w1.heap.size, 1, none⟩ = some (.string r2) := by simp
  have c2 : (w1.alloc (.cells #[.string r1, .string r2, .string r3] 23)).cell? ⟨w1.heap.size, 2, none⟩ = some (.string r3) := by simp
  have hlt : w1.heap.size < (w1.alloc (.cells #[.string r1, .string r2, .string r3] 23)).heap.size := by simp
  generalize w1.alloc (.cells #[.string r1, .string r2, .string r3] 23) = W1 at *
  have T2 := hide ((unhide T1).kept al)
  have B2 := hide ((unhide B1).trans (al.mono (unhide B1).size))
  clear al T1 B1
  refine (unhide H2 _ (unhide T2)).mono ?_
  rintro e w2 ⟨rfl, b2⟩
  obtain ⟨hc, hf⟩ := bcell b2
  have d0 := (hc _ 0 hlt).trans c0
  have d1 := (hc _ 1 hlt).trans c1
  have d2 := (hc _ 2 hlt).trans c2
  have hlt2 := Nat.lt_of_lt_of_le hlt b2.size
  have B3 := hide ((unhide B2).trans (b2.mono (unhide B2).size))
  clear b2 hc hf c0 c1 c2 T2 B2 hlt
  have HQ := hide (eqKeys_same r1 r2 r3)
  go_wp2_with fail
  refine (unhide HQ _).mono ?_
  rintro e w3 ⟨rfl, b3⟩
  have B4 := hide (((unhide B3).alloc (unhide B3).size _).trans (b3.mono (by have := (unhide B3).size; simp; omega)))
  clear b3
  go_wp2
  go_ret
  exact ⟨rfl, unhide B4⟩
theorem walk (a0 : ByteArray) (k0 : a0.size ≤ maxLen) (w : World) (hT : Rt w) :
    Calls Tryd.prog 3 #[.string a0] w fun e w' => e = .returned (.bool true) ∧ Below w.heap.size w w' := by
  unfold maxLen at k0
  by_cases l0 : (1048576 : Int) < a0.size
  · go_enter Tryd.func3, Tryd.ntmps3
    go_wp2
    go_ret
    exact ⟨rfl, Below.refl _ _⟩
  by_cases h : a0.size ≤ 500
  · exact walk_same a0 _ _ _ true (by omega) w hT (specKO_ok a0 h) (implKO_ok a0 h)
  · exact walk_same a0 _ _ _ false (by omega) w hT (specKO_no a0 h (by omega)) (fun W _ => implKO_no a0 h (by omega) W)
end Go.Proofs.YtlphaciboaicgaaDoor.fnExactKeysOf
