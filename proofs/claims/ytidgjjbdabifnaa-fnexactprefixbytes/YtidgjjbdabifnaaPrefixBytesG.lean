/-
  The law on PrefixBytes, walked out of the contracts of both sides.
-/
import Derived.Test.YtidgjjbdabifnaaFpb
namespace Go.Proofs.Ytidgjjbdabifnaa.Rc
open Go.ChangeShapes Go.WideShapes Go.ChangeAt Go.RowKit Go.Deep
set_option linter.unusedVariables false
set_option maxRecDepth 100000

set_option maxHeartbeats 8000000 in
theorem prefixBytes_given (n0 : Int) (n1 : Int) (n2 : Int) (r0 : ByteArray) (r1 : Bool) (w : World) 
    (HS : ∀ (W : World) , Calls Try.prog 6 #[.int .i64 n0, .int .i64 n1, .int .i64 n2] W fun e w' => e = .returned (.tuple #[.string r0, .bool r1]) ∧ Below W.heap.size W w')
    (HI : ∀ (W : World) , Calls Try.prog 7 #[.int .i64 n0, .int .i64 n1, .int .i64 n2] W fun e w' => e = .returned (.tuple #[.string r0, .bool r1]) ∧ Below W.heap.size W w') :
    Calls Try.prog 3 #[.int .i64 n0, .int .i64 n1, .int .i64 n2] w fun e w' => e = .returned (.bool true) ∧ Below w.heap.size w w' := by
  have H1 := hide HS
  have H2 := hide HI
  clear HS HI
  go_enter Try.func3, Try.ntmps3
  have B0 := hide (Below.refl w.heap.size w)
  go_wp2_with fail
  refine (unhide H1 _).mono ?_
  rintro e w1 ⟨rfl, b1⟩
  have B1 := hide ((unhide B0).trans (b1.mono (unhide B0).size))
  have s1 : _ ≤ w1.heap.size := b1.size
  go_wp2_with fail
  refine (unhide H2 _).mono ?_
  rintro e w2 ⟨rfl, b2⟩
  have B2 := hide ((unhide B1).trans (b2.mono (unhide B1).size))
  have s2 : _ ≤ w2.heap.size := b2.size
  go_wp2
  go_ret
  exact ⟨rfl, unhide B2⟩
end Go.Proofs.Ytidgjjbdabifnaa.Rc
