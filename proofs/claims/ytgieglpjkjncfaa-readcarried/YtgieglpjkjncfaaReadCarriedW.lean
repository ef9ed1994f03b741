/-
  The law on ReadCarried, walked.
-/
import Derived.Test.YtgieglpjkjncfaaCrk
namespace Go.Proofs.Ytgieglpjkjncfaa.fnExactReadCarried
open Go.ChangeShapes Go.WideShapes Go.ChangeAt Go.RowKit Go.Deep Rc
set_option linter.unusedVariables false
set_option maxRecDepth 100000

set_option maxHeartbeats 4000000 in
theorem walk (s : ByteArray) (_ : s.size ≤ maxLen) (w : World) :
    Calls Try.prog 6 #[.string s] w fun e w' => e = .returned (.bool true) ∧ Below w.heap.size w w' := by
  by_cases hs : s.size ≤ 1048576
  · have H1 := hide (fun W => specRK s W hs)
    have H2 := hide (fun W => implRK s W hs)
    have H3 := hide (fun W => eqCarried_same ((rkO s).getD zD) W)
    have hsI : ¬ (1048576 : Int) < (s.size : Int) := by omega
    unfold RkP at H1 H2
    generalize (rkO s).getD zD = D at *
    generalize (rkO s).isSome = r at *
    clear hs
    go_enter Try.func6, Try.ntmps6
    go_wp2_with fail
    refine (unhide H1 _).mono ?_
    rintro e w1 ⟨rfl, b1⟩
    obtain ⟨V1, hV1⟩ : ∃ V, V = w1.alloc (.cells #[.int .i64 D.f0, .int .i64 D.f1, .string D.f2] 38) := ⟨_, rfl⟩
    have B1 : Hid (Below w.heap.size w V1) := by show Below _ _ _; rw [hV1]; exact b1.alloc b1.size _
    have X1 : Hid (Bx V1 w1.heap.size (carriedC D)) := by show Bx _ _ _; rw [hV1]; exact Bx.new w1 _ _
    have HV1 := hide hV1
    clear b1 hV1
    go_upto_region 4 with fail
    rw [← unhide HV1]
    clear HV1
    go_wp2_with fail
    refine (unhide H2 _).mono ?_
    rintro e w2 ⟨rfl, b2⟩
    obtain ⟨V2, hV2⟩ : ∃ V, V = w2.alloc (.cells #[.int .i64 D.f0, .int .i64 D.f1, .string D.f2] 38) := ⟨_, rfl⟩
    have hB2 := (unhide B1).trans (b2.mono (unhide B1).size)
    have B2 : Hid (Below w.heap.size w V2) := by show Below _ _ _; rw [hV2]; exact hB2.alloc hB2.size _
    have X2 : Hid (Bx V2 w2.heap.size (carriedC D)) := by show Bx _ _ _; rw [hV2]; exact Bx.new w2 _ _
    have Y2 : Hid (Bx V2 w1.heap.size (carriedC D)) := by show Bx _ _ _; rw [hV2]; exact ((unhide X1).below b2).alloc _
    have HV2 := hide hV2
    clear b2 hV2 hB2 B1 X1
    go_upto_region 5 with fail
    rw [← unhide HV2]
    clear HV2
    have q0 := (unhide X2).cv
    have ql := (unhide X2).lt
    have p0 := (unhide Y2).cv
    have pl := (unhide Y2).lt
    go_wp2_with fail
    refine (unhide H3 _).mono ?_
    rintro e w3 ⟨rfl, b3⟩
    have B3 := hide ((unhide B2).trans (b3.mono (unhide B2).size))
    clear b3
    go_wp2
    go_ret
    exact ⟨rfl, unhide B3⟩
  · have hsI : (1048576 : Int) < (s.size : Int) := by omega
    go_enter Try.func6, Try.ntmps6
    go_wp2
    go_ret
    exact ⟨rfl, Below.refl _ _⟩
end Go.Proofs.Ytgieglpjkjncfaa.fnExactReadCarried
