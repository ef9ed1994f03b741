/-
  Contract: the packet at the front of a text, as the program makes it.
-/
import Derived.Test.YtbabipaipbjlbaaCdg
namespace Go.Proofs.Ytbabipaipbjlbaa
open Go.ChangeShapes Go.WideShapes Go.ChangeAt Go.RowKit
set_option linter.unusedVariables false
set_option maxRecDepth 100000

set_option maxHeartbeats 2000000 in
theorem pah_bad (s : ByteArray) (short : Nat) (w : World) (hs : s.size ≤ 1048576) (hsh : short ≤ 20) (hR : hdR s short = none) :
    Calls Try.prog 32 #[.string s, .int .i64 short] w fun e w' => e = .returned (.tuple #[.string sE, .bool false]) ∧ Below w.heap.size w w' := by
  have HD := hide (fun W => rdh_bad s short W hs hsh hR)
  clear hR
  go_enter Try.func32, Try.ntmps32
  go_wp2_with fail
  refine (unhide HD _).mono ?_
  rintro e w1 ⟨c, hc, rfl, b1⟩
  have hc0 : (c == 0) = false := by rcases hc with rfl | rfl | rfl <;> rfl
  have HB2 := hide (b1.alloc b1.size (.cells #[.int .i64 0, .int .i64 0, .int .i64 0, .string sE, .string sE, .string sE, .string sE, nilS] 49))
  clear hc b1 HD
  go_wp2
  go_ret2
  exact ⟨rfl, unhide HB2⟩
set_option maxHeartbeats 2000000 in
theorem pah_ok (s : ByteArray) (short : Nat) (x : HR) (w : World) (hs : s.size ≤ 1048576) (hsh : short ≤ 20) (hR : hdR s short = some x) :
    Calls Try.prog 32 #[.string s, .int .i64 short] w fun e w' => e = .returned (.tuple #[.string (s.extract 0 x.q), .bool true]) ∧ Below w.heap.size w w' := by
  have hq := hdR_q hR
  have HD := hide (fun W => rdh_ok s short x W hs hsh hR)
  have HE := hide (fun W => clone_text (s.extract 0 x.q) W (by rw [ByteArray.size_extract]; omega))
  clear hR
  go_enter Try.func32, Try.ntmps32
  go_wp2_with (go_at_call 18; refine (unhide HD _).mono ?_; rintro e w1 ⟨ra, rc, rfl, o1, b1⟩; clear o1)
  refine (unhide HE _).mono ?_
  rintro e w3 ⟨rfl, b3⟩
  have B3 := hide (show Below w.heap.size w w3 from (b1.alloc b1.size _).trans (b3.mono (by have := b1.size; simp; omega)))
  clear b1 b3 HD HE
  go_wp2
  go_ret2
  exact ⟨rfl, unhide B3⟩
end Go.Proofs.Ytbabipaipbjlbaa
