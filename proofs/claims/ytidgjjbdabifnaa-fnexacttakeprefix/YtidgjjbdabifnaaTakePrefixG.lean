/-
  The law on TakePrefix, walked out of the contracts of both sides.
-/
import Derived.Test.YtidgjjbdabifnaaFpu
namespace Go.Proofs.Ytidgjjbdabifnaa.Rc
open Go.ChangeShapes Go.WideShapes Go.ChangeAt Go.RowKit Go.Deep
set_option linter.unusedVariables false
set_option maxRecDepth 100000

set_option maxHeartbeats 8000000 in
theorem takePrefix_given (n0 : ByteArray) (n1 : Int) (r0 : Int) (r1 : Int) (r2 : Int) (w : World) 
    (HS : ∀ (W : World) , Calls Try.prog 8 #[.string n0, .int .i64 n1] W fun e w' => e = .returned (.tuple #[.int .i64 r0, .int .i64 r1, .int .i64 r2]) ∧ Below W.heap.size W w')
    (HI : ∀ (W : World) , Calls Try.prog 9 #[.string n0, .int .i64 n1] W fun e w' => e = .returned (.tuple #[.int .i64 r0, .int .i64 r1, .int .i64 r2]) ∧ Below W.heap.size W w') :
    Calls Try.prog 4 #[.string n0, .int .i64 n1] w fun e w' => e = .returned (.bool true) ∧ Below w.heap.size w w' := by
  have H1 := hide HS
  have H2 := hide HI
  clear HS HI
  by_cases hbig : (1048576 : Int) < (n0.size : Int)
  · go_enter Try.func4, Try.ntmps4
    go_wp2
    go_ret
    exact ⟨rfl, Below.refl _ _⟩
  go_enter Try.func4, Try.ntmps4
  have B0 := hide (Below.refl w.heap.size w)
  go_wp2_with fail
  refine (unhide H1 _).mono ?_
  rintro e w1 ⟨rfl, b1⟩
  have B1 := hide ((unhide B0).trans (b1.mono (unhide B0).size))
  have s1 : _ ≤ w1.heap.size := b1.size
  go_wp2_with fail
  refine (unhide H2 _).mono ?_
  rintro e w2 ⟨rfl, b2⟩
  have B2 := hide ((unhide B1).trans (b2.mono (unhide B1).size))
  have s2 : _ ≤ w2.heap.size := b2.size
  go_wp2
  go_ret
  exact ⟨rfl, unhide B2⟩
end Go.Proofs.Ytidgjjbdabifnaa.Rc
