/-
  Contract of the program: PlayStream.
-/
import Derived.Test.YtmicpknilhiliaaTgs4
namespace Go.Proofs.Ytmicpknilhiliaa.Rc
open Go.ChangeShapes Go.WideShapes Go.ChangeAt Go.RowKit Go.Deep Go.Conc
set_option linter.unusedVariables false
set_option maxRecDepth 100000

set_option maxHeartbeats 8000000 in
theorem implPSn (d : ByteArray) (limit : Int) (cuts order : List Int) (W : World) (hd : d.size ≤ 1099511627776) (hn : cuts.length ≤ 1048576) (hm : order.length ≤ 1048576) (hB : ¬ psB d limit cuts order = true) (aC : Option Addr) (cC : Nat) (aO : Option Addr) (cO : Nat) (hC : Rd intK W aC cuts) :
    Calls Try.prog 5 #[.string d, .int .i64 limit, .slice aC cuts.length cC, .slice aO order.length cO] W fun e w' => e = .returned (.tuple #[.string ⟨#[]⟩, .bool false, .bool false]) ∧ Below W.heap.size W w' := by
  have HN := hide (implNI limit W)
  have HGC := hide (fun V (b : Below W.heap.size W V) => implGC cuts d.size V aC cC (by omega) (by omega) hn (hC.below b))
  have HWI := hide (fun V g c => win4 d 4000 (by decide) hd V g c)
  have HBB : Hid (niB limit = true → decide (d.size ≤ 4000) = true → (decide (cuts.length ≤ 40) && cuB d.size true 0 cuts) = true → decide ((100 : Int) < (order.length : Int)) = true) := by
    intro q1 q2 q3
    refine decide_eq_true ?_
    rcases Nat.lt_or_ge 100 order.length with h | h
    · omega
    · refine absurd ?_ hB
      simp only [Bool.and_eq_true] at q3
      unfold psB
      rw [q1, q2, q3.1, q3.2, decide_eq_true h]
      rfl
  clear hC hB hd hn hm
  generalize niB limit = r1 at *
  generalize decide (d.size ≤ 4000) = r2 at *
  generalize (decide (cuts.length ≤ 40) && cuB d.size true 0 cuts) = r3 at *
  cases r1 with
  | false =>
    clear HBB HGC HWI
    go_enter Try.func5, Try.ntmps5
    go_wp2_with fail
    refine (unhide HN).mono ?_
    rintro e w1 ⟨rfl, b1⟩
    have al : Hid (∀ o, Below W.heap.size W (w1.alloc o)) := fun o => b1.alloc b1.size o
    clear b1 HN
    go_wp2
    go_ret3
    exact ⟨rfl, unhide al _⟩
  | true =>
  have e0 : niD limit true = ⟨limit, 0, -1, []⟩ := rfl
  rw [e0] at HN
  clear e0
  go_enter Try.func5, Try.ntmps5
  go_wp2_with fail
  refine (unhide HN).mono ?_
  rintro e w1 ⟨rfl, b1⟩
  obtain ⟨V1, hV1⟩ : ∃ V, V = w1.alloc (.cells #[.int .i64 limit, .int .i64 0, .int .i64 (-1), .slice none 0 0] 39) := ⟨_, rfl⟩
  have al1 : Below w1.heap.size w1 V1 := by rw [hV1]; exact (Below.refl _ _).alloc (Nat.le_refl _) _
  have B1 := hide (b1.trans (al1.mono b1.size))
  obtain ⟨V2, hV2⟩ : ∃ V, V = V1.alloc (.cells #[.string d] 9) := ⟨_, rfl⟩
  have al2 : Below V1.heap.size V1 V2 := by rw [hV2]; exact (Below.refl _ _).alloc (Nat.le_refl _) _
  have B2 := hide ((unhide B1).trans (al2.mono (unhide B1).size))
  have HWJ := hide (unhide HWI V2 V1.heap.size 1 (by rw [hV2]; exact (Bx.new V1 [Value.string d] _).cv 0))
  have HGJ := hide (unhide HGC V2 (unhide B2))
  have HV1 := hide hV1
  have HV2 := hide hV2
  clear hV1 hV2 al1 al2 b1 HWI HGC HN
  go_upto_region 2 with fail
  rw [← unhide HV1]
  clear HV1
  cases r2 with
  | false =>
    clear HBB HGJ
    go_wp2_with (rw [← unhide HV2]; go_at_call 11; refine (unhide HWJ).mono ?_; rintro e w9 ⟨rfl, h9⟩; rw [h9]; clear h9 w9)
    go_ret3
    exact ⟨rfl, unhide B2⟩
  | true =>
  cases r3 with
  | false =>
    clear HBB
    go_wp2_with (first | (rw [← unhide HV2]; go_at_call 11; refine (unhide HWJ).mono ?_; rintro e w9 ⟨rfl, h9⟩; rw [h9]; clear h9 w9) | (go_at_call 12; refine (unhide HGJ).mono ?_; rintro e w9 ⟨rfl, h9⟩; rw [h9]; clear h9 w9))
    go_ret3
    exact ⟨rfl, unhide B2⟩
  | true =>
  have t4 : (100 : Int) < (order.length : Int) := of_decide_eq_true (unhide HBB (by first | rfl | trivial) (by first | rfl | trivial) (by first | rfl | trivial))
  have t5 := unhide HBB (by first | rfl | trivial) (by first | rfl | trivial) (by first | rfl | trivial)
  clear HBB
  go_wp2_with (first | (rw [← unhide HV2]; go_at_call 11; refine (unhide HWJ).mono ?_; rintro e w9 ⟨rfl, h9⟩; rw [h9]; clear h9 w9) | (go_at_call 12; refine (unhide HGJ).mono ?_; rintro e w9 ⟨rfl, h9⟩; rw [h9]; clear h9 w9))
  go_ret3
  exact ⟨rfl, unhide B2⟩
theorem implPlS (d : ByteArray) (limit : Int) (cuts order : List Int) (W : World) (hd : d.size ≤ 1099511627776) (hn : cuts.length ≤ 1048576) (hm : order.length ≤ 1048576) (aC : Option Addr) (cC : Nat) (aO : Option Addr) (cO : Nat) (hC : Rd intK W aC cuts) (hO : Rd intK W aO order) :
    Calls Try.prog 5 #[.string d, .int .i64 limit, .slice aC cuts.length cC, .slice aO order.length cO] W fun e w' => e = .returned (.tuple #[.string (psO d limit cuts order), .bool (psD d limit cuts order), .bool (psB d limit cuts order)]) ∧ Below W.heap.size W w' := by
  by_cases hB : psB d limit cuts order = true
  · have := implPSy d limit cuts order W hB aC cC aO cO hC hO
    unfold psO psD
    rw [if_pos hB, hB]
    exact this
  · have := implPSn d limit cuts order W hd hn hm hB aC cC aO cO hC
    unfold psO psD
    rw [if_neg hB, show psB d limit cuts order = false by simpa using hB]
    exact this
end Go.Proofs.Ytmicpknilhiliaa.Rc
