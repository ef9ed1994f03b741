/-
  Contracts: the program's look at a header. Contracts: the program's look at a header, what its form names.
-/
import Derived.Test.YtbabipaipbjlbaaGhs
import Derived.Test.YtbabipaipbjlbaaGta
namespace Go.Proofs.Ytbabipaipbjlbaa
open Go.ChangeShapes Go.WideShapes Go.ChangeAt Go.RowKit
set_option linter.unusedVariables false
set_option maxRecDepth 100000

theorem formOf_0 (w : World) :
    Calls Try.prog 53 #[.int .i64 0] w fun e w' => e = .returned (.tuple #[.iface 111 (.agg #[]), .bool true]) ∧ w' = w := by
  go_enter Try.func53, Try.ntmps53
  go_wp2
  go_ret2
  exact ⟨rfl, rfl⟩
theorem formOf_1 (w : World) :
    Calls Try.prog 53 #[.int .i64 1] w fun e w' => e = .returned (.tuple #[.iface 113 (.agg #[.int .i64 1]), .bool true]) ∧ w' = w := by
  go_enter Try.func53, Try.ntmps53
  go_wp2
  go_ret2
  exact ⟨rfl, rfl⟩
theorem formOf_2 (w : World) :
    Calls Try.prog 53 #[.int .i64 2] w fun e w' => e = .returned (.tuple #[.iface 113 (.agg #[.int .i64 2]), .bool true]) ∧ w' = w := by
  go_enter Try.func53, Try.ntmps53
  go_wp2
  go_ret2
  exact ⟨rfl, rfl⟩
theorem formOf_3 (w : World) :
    Calls Try.prog 53 #[.int .i64 3] w fun e w' => e = .returned (.tuple #[.iface 114 (.agg #[]), .bool true]) ∧ w' = w := by
  go_enter Try.func53, Try.ntmps53
  go_wp2
  go_ret2
  exact ⟨rfl, rfl⟩
theorem formOf_4 (w : World) :
    Calls Try.prog 53 #[.int .i64 4] w fun e w' => e = .returned (.tuple #[.iface 115 (.agg #[]), .bool true]) ∧ w' = w := by
  go_enter Try.func53, Try.ntmps53
  go_wp2
  go_ret2
  exact ⟨rfl, rfl⟩
theorem formOf_5 (w : World) :
    Calls Try.prog 53 #[.int .i64 5] w fun e w' => e = .returned (.tuple #[.iface 116 (.agg #[]), .bool true]) ∧ w' = w := by
  go_enter Try.func53, Try.ntmps53
  go_wp2
  go_ret2
  exact ⟨rfl, rfl⟩
theorem formOf_no (w : World) (k : Int) (e0 : (k == 0) = false) (e1 : (k == 1) = false) (e2 : (k == 2) = false) (e3 : (k == 3) = false) (e4 : (k == 4) = false) (e5 : (k == 5) = false) :
    Calls Try.prog 53 #[.int .i64 k] w fun e w' => e = .returned (.tuple #[.nilIface, .bool false]) ∧ w' = w := by
  go_enter Try.func53, Try.ntmps53
  go_wp2
  go_ret2
  exact ⟨rfl, rfl⟩
theorem goodVersion_yes (v : Int) (w : World) (h : okW 1 v = true) :
    Calls Try.prog 64 #[.int .i64 v] w fun e w' => e = .returned (.bool true) ∧ w' = w := by
  simp [okW] at h
  go_enter Try.func64, Try.ntmps64
  go_wp2
  go_ret
  exact ⟨rfl, rfl⟩
theorem goodVersion_no (v : Int) (w : World) (h : okW 1 v = false) :
    Calls Try.prog 64 #[.int .i64 v] w fun e w' => e = .returned (.bool false) ∧ w' = w := by
  have h' : ¬ ((1 : Int) ≤ v ∧ v ≤ 4294967295) := of_decide_eq_false h
  clear h
  by_cases h1 : 1 ≤ v
  · have h2 : ¬ v ≤ 4294967295 := fun q => h' ⟨h1, q⟩
    clear h'
    go_enter Try.func64, Try.ntmps64
    go_wp2
    go_ret
    exact ⟨rfl, rfl⟩
  · clear h'
    go_enter Try.func64, Try.ntmps64
    go_wp2
    go_ret
    exact ⟨rfl, rfl⟩
set_option maxHeartbeats 4000000 in
theorem goodVersions_any (lo : Int) (ra : Option Addr) (n cap : Nat) (V : Nat → Int) (w : World) (h : Ia w ra n cap V) (hn : n ≤ 1048576) (hlo : lo = 0 ∨ lo = 1) :
    Calls Try.prog 46 #[.slice ra n cap, .int .i64 lo] w fun e w' => e = .returned (.bool (gv lo n V)) ∧ w' = w := by
  by_cases n1 : 1 ≤ n
  case neg =>
    have HF : Hid (gv lo n V = false) := decide_eq_false (fun q => n1 q.1)
    go_enter Try.func46, Try.ntmps46
    go_wp2
    go_ret
    exact ⟨by rw [unhide HF]; rfl, rfl⟩
  by_cases n2 : n ≤ 20
  case neg =>
    have HF : Hid (gv lo n V = false) := decide_eq_false (fun q => n2 q.2.1)
    go_enter Try.func46, Try.ntmps46
    go_wp2
    go_ret
    exact ⟨by rw [unhide HF]; rfl, rfl⟩
  rcases h with h | ⟨g, off, rfl, h⟩
  · omega
  have HR := hide h
  clear h
  go_enter Try.func46, Try.ntmps46
  go_wp2
  go_loopw [17] (fun i wr => ∃ k : Nat, k ≤ n ∧ i = .int .i64 k ∧ (∀ j, j < k → okW lo (V j) = true) ∧ wr = w) (fun i _ => n - (intOf i).toNat)
  case atStart => exact ⟨0, Nat.zero_le _, rfl, fun j hj => by omega, rfl⟩
  case round =>
    obtain ⟨k, hk, rfl, hok, rfl⟩ := hrel
    by_cases hlt : k < n
    · have hcf := (unhide HR).cv k hlt
      have hbv := (unhide HR).bv k hlt
      have HO := hide hok
      clear hok
      cases hw : okW lo (V k) with
      | true =>
        have hw' : lo ≤ V k ∧ V k ≤ 4294967295 := of_decide_eq_true hw
        have HW := hide hw
        obtain ⟨h1, h2⟩ := hw'
        clear hw
        go_wp2
        exact ⟨⟨k + 1, by omega, by go_num, upto_succW (unhide HO) (unhide HW), by first | trivial | rfl⟩, by simp [intOf]; omega⟩
      | false =>
        have hw' : ¬ (lo ≤ V k ∧ V k ≤ 4294967295) := of_decide_eq_false hw
        have HF : Hid (gv lo n V = false) := decide_eq_false (fun q => by have := allW_no hlt hw; rw [this] at q; exact absurd q.2.2 (by decide))
        clear hw
        by_cases h1 : lo ≤ V k
        · have h2 : ¬ V k ≤ 4294967295 := fun q => hw' ⟨h1, q⟩
          clear hw'
          go_wp2
          go_ret
          exact ⟨by rw [unhide HF]; rfl, rfl⟩
        · clear hw'
          go_wp2
          go_ret
          exact ⟨by rw [unhide HF]; rfl, rfl⟩
    · obtain rfl : k = n := by omega
      have HF : Hid (gv lo k V = true) := decide_eq_true ⟨n1, n2, allW_yes hok⟩
      clear hok
      go_wp2
      go_ret
      exact ⟨by rw [unhide HF]; rfl, rfl⟩
end Go.Proofs.Ytbabipaipbjlbaa
namespace Go.Proofs.Ytbabipaipbjlbaa
open Go.ChangeShapes Go.WideShapes Go.ChangeAt Go.RowKit
set_option linter.unusedVariables false
set_option maxRecDepth 100000

set_option maxHeartbeats 4000000 in
theorem gp_early (f bi ve : Int) (d s t p : ByteArray) (ra : Option Addr) (n cap : Nat) (w : World) (hp : p.size ≤ 1048576) (hn : n ≤ 1048576) (v : Value) (h : ¬ p.size ≤ 1200) :
    Calls Try.prog 54 #[v, hv f bi ve d s t p ra n cap] w fun e w' => e = .returned (.bool false) ∧ Below w.heap.size w w' := by
  go_enter Try.func54, Try.ntmps54
  go_wp2
  go_ret
  exact ⟨rfl, (Below.refl _ _).alloc (Nat.le_refl _) _⟩

set_option maxHeartbeats 4000000 in
theorem gp_0v (bi ve : Int) (d s t p : ByteArray) (ra : Option Addr) (n cap : Nat) (w : World) (hp : p.size ≤ 1048576) (hn : n ≤ 1048576) (h : p.size ≤ 1200) (hw : okW 1 ve = false) :
    Calls Try.prog 54 #[.iface 111 (.agg #[]), hv 0 bi ve d s t p ra n cap] w fun e w' => e = .returned (.bool false) ∧ Below w.heap.size w w' := by
  have HV := hide (fun W => goodVersion_no ve W hw)
  have t0 := ta_00
  have t1 := ta_01
  have t2 := ta_02
  have t3 := ta_03
  have t4 := ta_04
  go_enter Try.func54, Try.ntmps54
  go_wp2_with (go_at_call 64; refine (unhide HV _).mono ?_; rintro e w' ⟨rfl, rfl⟩)
  go_ret
  exact ⟨rfl, (Below.refl _ _).alloc (Nat.le_refl _) _⟩

set_option maxHeartbeats 4000000 in
theorem gp_0t (bi ve : Int) (d s t p : ByteArray) (ra : Option Addr) (n cap : Nat) (w : World) (hp : p.size ≤ 1048576) (hn : n ≤ 1048576) (h : p.size ≤ 1200) (hw : okW 1 ve = true) (h2 : ¬ t.size ≤ 200) (ht : t.size ≤ 1048576) :
    Calls Try.prog 54 #[.iface 111 (.agg #[]), hv 0 bi ve d s t p ra n cap] w fun e w' => e = .returned (.bool false) ∧ Below w.heap.size w w' := by
  have HV := hide (fun W => goodVersion_yes ve W hw)
  have t0 := ta_00
  have t1 := ta_01
  have t2 := ta_02
  have t3 := ta_03
  have t4 := ta_04
  go_enter Try.func54, Try.ntmps54
  go_wp2_with (go_at_call 64; refine (unhide HV _).mono ?_; rintro e w' ⟨rfl, rfl⟩)
  go_ret
  exact ⟨rfl, (Below.refl _ _).alloc (Nat.le_refl _) _⟩

set_option maxHeartbeats 4000000 in
theorem gp_0p (bi ve : Int) (d s t p : ByteArray) (ra : Option Addr) (n cap : Nat) (w : World) (hp : p.size ≤ 1048576) (hn : n ≤ 1048576) (h : p.size ≤ 1200) (hw : okW 1 ve = true) (h2 : t.size ≤ 200) (h3 : p.toList = []) :
    Calls Try.prog 54 #[.iface 111 (.agg #[]), hv 0 bi ve d s t p ra n cap] w fun e w' => e = .returned (.bool false) ∧ Below w.heap.size w w' := by
  have HV := hide (fun W => goodVersion_yes ve W hw)
  have t0 := ta_00
  have t1 := ta_01
  have t2 := ta_02
  have t3 := ta_03
  have t4 := ta_04
  go_enter Try.func54, Try.ntmps54
  go_wp2_with (go_at_call 64; refine (unhide HV _).mono ?_; rintro e w' ⟨rfl, rfl⟩)
  go_ret
  exact ⟨rfl, (Below.refl _ _).alloc (Nat.le_refl _) _⟩

set_option maxHeartbeats 4000000 in
theorem gp_0n (bi ve : Int) (d s t p : ByteArray) (ra : Option Addr) (n cap : Nat) (w : World) (hp : p.size ≤ 1048576) (hn : n ≤ 1048576) (h : p.size ≤ 1200) (hw : okW 1 ve = true) (h2 : t.size ≤ 200) (h3 : ¬ p.toList = []) (h4 : ((n : Int) == 0) = false) :
    Calls Try.prog 54 #[.iface 111 (.agg #[]), hv 0 bi ve d s t p ra n cap] w fun e w' => e = .returned (.bool false) ∧ Below w.heap.size w w' := by
  have HV := hide (fun W => goodVersion_yes ve W hw)
  have t0 := ta_00
  have t1 := ta_01
  have t2 := ta_02
  have t3 := ta_03
  have t4 := ta_04
  go_enter Try.func54, Try.ntmps54
  go_wp2_with (go_at_call 64; refine (unhide HV _).mono ?_; rintro e w' ⟨rfl, rfl⟩)
  go_ret
  exact ⟨rfl, (Below.refl _ _).alloc (Nat.le_refl _) _⟩

set_option maxHeartbeats 4000000 in
theorem gp_0y (bi ve : Int) (d s t p : ByteArray) (ra : Option Addr) (n cap : Nat) (w : World) (hp : p.size ≤ 1048576) (hn : n ≤ 1048576) (h : p.size ≤ 1200) (hw : okW 1 ve = true) (h2 : t.size ≤ 200) (h3 : ¬ p.toList = []) (h3' : p.toList.isEmpty = false) (h4 : n = 0) :
    Calls Try.prog 54 #[.iface 111 (.agg #[]), hv 0 bi ve d s t p ra n cap] w fun e w' => e = .returned (.bool true) ∧ Below w.heap.size w w' := by
  have HV := hide (fun W => goodVersion_yes ve W hw)
  have t0 := ta_00
  have t1 := ta_01
  have t2 := ta_02
  have t3 := ta_03
  have t4 := ta_04
  go_enter Try.func54, Try.ntmps54
  go_wp2_with (go_at_call 64; refine (unhide HV _).mono ?_; rintro e w' ⟨rfl, rfl⟩)
  go_ret
  exact ⟨rfl, (Below.refl _ _).alloc (Nat.le_refl _) _⟩

set_option maxHeartbeats 4000000 in
theorem gp_1v (bi ve : Int) (d s t p : ByteArray) (ra : Option Addr) (n cap : Nat) (w : World) (hp : p.size ≤ 1048576) (hn : n ≤ 1048576) (h : p.size ≤ 1200) (hw : okW 1 ve = false) :
    Calls Try.prog 54 #[.iface 113 (.agg #[.int .i64 1]), hv 1 bi ve d s t p ra n cap] w fun e w' => e = .returned (.bool false) ∧ Below w.heap.size w w' := by
  have HV := hide (fun W => goodVersion_no ve W hw)
  have t0 := ta_10
  have t1 := ta_11
  have t2 := ta_12
  have t3 := ta_13
  have t4 := ta_14
  go_enter Try.func54, Try.ntmps54
  go_wp2_with (go_at_call 64; refine (unhide HV _).mono ?_; rintro e w' ⟨rfl, rfl⟩)
  go_ret
  exact ⟨rfl, (Below.refl _ _).alloc (Nat.le_refl _) _⟩

set_option maxHeartbeats 4000000 in
theorem gp_1t (bi ve : Int) (d s t p : ByteArray) (ra : Option Addr) (n cap : Nat) (w : World) (hp : p.size ≤ 1048576) (hn : n ≤ 1048576) (h : p.size ≤ 1200) (hw : okW 1 ve = true) (h2 : ¬ t.toList = []) :
    Calls Try.prog 54 #[.iface 113 (.agg #[.int .i64 1]), hv 1 bi ve d s t p ra n cap] w fun e w' => e = .returned (.bool false) ∧ Below w.heap.size w w' := by
  have HV := hide (fun W => goodVersion_yes ve W hw)
  have t0 := ta_10
  have t1 := ta_11
  have t2 := ta_12
  have t3 := ta_13
  have t4 := ta_14
  go_enter Try.func54, Try.ntmps54
  go_wp2_with (go_at_call 64; refine (unhide HV _).mono ?_; rintro e w' ⟨rfl, rfl⟩)
  go_ret
  exact ⟨rfl, (Below.refl _ _).alloc (Nat.le_refl _) _⟩

set_option maxHeartbeats 4000000 in
theorem gp_1p (bi ve : Int) (d s t p : ByteArray) (ra : Option Addr) (n cap : Nat) (w : World) (hp : p.size ≤ 1048576) (hn : n ≤ 1048576) (h : p.size ≤ 1200) (hw : okW 1 ve = true) (h2 : t.toList = []) (h3 : p.toList = []) :
    Calls Try.prog 54 #[.iface 113 (.agg #[.int .i64 1]), hv 1 bi ve d s t p ra n cap] w fun e w' => e = .returned (.bool false) ∧ Below w.heap.size w w' := by
  have HV := hide (fun W => goodVersion_yes ve W hw)
  have t0 := ta_10
  have t1 := ta_11
  have t2 := ta_12
  have t3 := ta_13
  have t4 := ta_14
  go_enter Try.func54, Try.ntmps54
  go_wp2_with (go_at_call 64; refine (unhide HV _).mono ?_; rintro e w' ⟨rfl, rfl⟩)
  go_ret
  exact ⟨rfl, (Below.refl _ _).alloc (Nat.le_refl _) _⟩

set_option maxHeartbeats 4000000 in
theorem gp_1n (bi ve : Int) (d s t p : ByteArray) (ra : Option Addr) (n cap : Nat) (w : World) (hp : p.size ≤ 1048576) (hn : n ≤ 1048576) (h : p.size ≤ 1200) (hw : okW 1 ve = true) (h2 : t.toList = []) (h3 : ¬ p.toList = []) (h4 : ((n : Int) == 0) = false) :
    Calls Try.prog 54 #[.iface 113 (.agg #[.int .i64 1]), hv 1 bi ve d s t p ra n cap] w fun e w' => e = .returned (.bool false) ∧ Below w.heap.size w w' := by
  have HV := hide (fun W => goodVersion_yes ve W hw)
  have t0 := ta_10
  have t1 := ta_11
  have t2 := ta_12
  have t3 := ta_13
  have t4 := ta_14
  go_enter Try.func54, Try.ntmps54
  go_wp2_with (go_at_call 64; refine (unhide HV _).mono ?_; rintro e w' ⟨rfl, rfl⟩)
  go_ret
  exact ⟨rfl, (Below.refl _ _).alloc (Nat.le_refl _) _⟩

set_option maxHeartbeats 4000000 in
theorem gp_1y (bi ve : Int) (d s t p : ByteArray) (ra : Option Addr) (n cap : Nat) (w : World) (hp : p.size ≤ 1048576) (hn : n ≤ 1048576) (h : p.size ≤ 1200) (hw : okW 1 ve = true) (h2 : t.toList = []) (h3 : ¬ p.toList = []) (h3' : p.toList.isEmpty = false) (h4 : n = 0) :
    Calls Try.prog 54 #[.iface 113 (.agg #[.int .i64 1]), hv 1 bi ve d s t p ra n cap] w fun e w' => e = .returned (.bool true) ∧ Below w.heap.size w w' := by
  have HV := hide (fun W => goodVersion_yes ve W hw)
  have t0 := ta_10
  have t1 := ta_11
  have t2 := ta_12
  have t3 := ta_13
  have t4 := ta_14
  go_enter Try.func54, Try.ntmps54
  go_wp2_with (go_at_call 64; refine (unhide HV _).mono ?_; rintro e w' ⟨rfl, rfl⟩)
  go_ret
  exact ⟨rfl, (Below.refl _ _).alloc (Nat.le_refl _) _⟩

end Go.Proofs.Ytbabipaipbjlbaa
