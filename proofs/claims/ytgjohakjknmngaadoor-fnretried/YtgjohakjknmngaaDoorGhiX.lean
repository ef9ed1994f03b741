/-
  What the type switch over a header's form sees. Contracts: the program's look at a header. Contracts: the program's look at a header, what its form names. Contracts: the program's look at a header, what its form names. Contracts: the program's look at a header, what its form names. Contract: the program's look at a header: it answers 'gh'.
-/
import Derived.Test.YtgjohakjknmngaaDoorBase
import Derived.Carry
import Derived.Test.YtgjohakjknmngaaDoorIntsX
namespace Go.Proofs.YtgjohakjknmngaaDoor
open Go.ChangeShapes Go.WideShapes Go.ChangeAt Go.RowKit
set_option linter.unusedVariables false
set_option maxRecDepth 100000

theorem ta_00 (w : World) : (Instr.typeAssert (.iface 68 (.agg #[])) 50 68 true).run Tryd.prog w = .ok (.tuple #[.agg #[], .bool true]) w := by kernel_rfl
theorem ta_01 (w : World) : (Instr.typeAssert (.iface 68 (.agg #[])) 50 70 true).run Tryd.prog w = .ok (.tuple #[.agg #[.int .i64 0], .bool false]) w := by kernel_rfl
theorem ta_02 (w : World) : (Instr.typeAssert (.iface 68 (.agg #[])) 50 71 true).run Tryd.prog w = .ok (.tuple #[.agg #[], .bool false]) w := by kernel_rfl
theorem ta_03 (w : World) : (Instr.typeAssert (.iface 68 (.agg #[])) 50 72 true).run Tryd.prog w = .ok (.tuple #[.agg #[], .bool false]) w := by kernel_rfl
theorem ta_04 (w : World) : (Instr.typeAssert (.iface 68 (.agg #[])) 50 73 true).run Tryd.prog w = .ok (.tuple #[.agg #[], .bool false]) w := by kernel_rfl
theorem ta_10 (w : World) : (Instr.typeAssert (.iface 70 (.agg #[.int .i64 1])) 50 68 true).run Tryd.prog w = .ok (.tuple #[.agg #[], .bool false]) w := by kernel_rfl
theorem ta_11 (w : World) : (Instr.typeAssert (.iface 70 (.agg #[.int .i64 1])) 50 70 true).run Tryd.prog w = .ok (.tuple #[.agg #[.int .i64 1], .bool true]) w := by kernel_rfl
theorem ta_12 (w : World) : (Instr.typeAssert (.iface 70 (.agg #[.int .i64 1])) 50 71 true).run Tryd.prog w = .ok (.tuple #[.agg #[], .bool false]) w := by kernel_rfl
theorem ta_13 (w : World) : (Instr.typeAssert (.iface 70 (.agg #[.int .i64 1])) 50 72 true).run Tryd.prog w = .ok (.tuple #[.agg #[], .bool false]) w := by kernel_rfl
theorem ta_14 (w : World) : (Instr.typeAssert (.iface 70 (.agg #[.int .i64 1])) 50 73 true).run Tryd.prog w = .ok (.tuple #[.agg #[], .bool false]) w := by kernel_rfl
theorem ta_20 (w : World) : (Instr.typeAssert (.iface 70 (.agg #[.int .i64 2])) 50 68 true).run Tryd.prog w = .ok (.tuple #[.agg #[], .bool false]) w := by kernel_rfl
theorem ta_21 (w : World) : (Instr.typeAssert (.iface 70 (.agg #[.int .i64 2])) 50 70 true).run Tryd.prog w = .ok (.tuple #[.agg #[.int .i64 2], .bool true]) w := by kernel_rfl
theorem ta_22 (w : World) : (Instr.typeAssert (.iface 70 (.agg #[.int .i64 2])) 50 71 true).run Tryd.prog w = .ok (.tuple #[.agg #[], .bool false]) w := by kernel_rfl
theorem ta_23 (w : World) : (Instr.typeAssert (.iface 70 (.agg #[.int .i64 2])) 50 72 true).run Tryd.prog w = .ok (.tuple #[.agg #[], .bool false]) w := by kernel_rfl
theorem ta_24 (w : World) : (Instr.typeAssert (.iface 70 (.agg #[.int .i64 2])) 50 73 true).run Tryd.prog w = .ok (.tuple #[.agg #[], .bool false]) w := by kernel_rfl
theorem ta_30 (w : World) : (Instr.typeAssert (.iface 71 (.agg #[])) 50 68 true).run Tryd.prog w = .ok (.tuple #[.agg #[], .bool false]) w := by kernel_rfl
theorem ta_31 (w : World) : (Instr.typeAssert (.iface 71 (.agg #[])) 50 70 true).run Tryd.prog w = .ok (.tuple #[.agg #[.int .i64 0], .bool false]) w := by kernel_rfl
theorem ta_32 (w : World) : (Instr.typeAssert (.iface 71 (.agg #[])) 50 71 true).run Tryd.prog w = .ok (.tuple #[.agg #[], .bool true]) w := by kernel_rfl
theorem ta_33 (w : World) : (Instr.typeAssert (.iface 71 (.agg #[])) 50 72 true).run Tryd.prog w = .ok (.tuple #[.agg #[], .bool false]) w := by kernel_rfl
theorem ta_34 (w : World) : (Instr.typeAssert (.iface 71 (.agg #[])) 50 73 true).run Tryd.prog w = .ok (.tuple #[.agg #[], .bool false]) w := by kernel_rfl
theorem ta_40 (w : World) : (Instr.typeAssert (.iface 72 (.agg #[])) 50 68 true).run Tryd.prog w = .ok (.tuple #[.agg #[], .bool false]) w := by kernel_rfl
theorem ta_41 (w : World) : (Instr.typeAssert (.iface 72 (.agg #[])) 50 70 true).run Tryd.prog w = .ok (.tuple #[.agg #[.int .i64 0], .bool false]) w := by kernel_rfl
theorem ta_42 (w : World) : (Instr.typeAssert (.iface 72 (.agg #[])) 50 71 true).run Tryd.prog w = .ok (.tuple #[.agg #[], .bool false]) w := by kernel_rfl
theorem ta_43 (w : World) : (Instr.typeAssert (.iface 72 (.agg #[])) 50 72 true).run Tryd.prog w = .ok (.tuple #[.agg #[], .bool true]) w := by kernel_rfl
theorem ta_44 (w : World) : (Instr.typeAssert (.iface 72 (.agg #[])) 50 73 true).run Tryd.prog w = .ok (.tuple #[.agg #[], .bool false]) w := by kernel_rfl
theorem ta_50 (w : World) : (Instr.typeAssert (.iface 73 (.agg #[])) 50 68 true).run Tryd.prog w = .ok (.tuple #[.agg #[], .bool false]) w := by kernel_rfl
theorem ta_51 (w : World) : (Instr.typeAssert (.iface 73 (.agg #[])) 50 70 true).run Tryd.prog w = .ok (.tuple #[.agg #[.int .i64 0], .bool false]) w := by kernel_rfl
theorem ta_52 (w : World) : (Instr.typeAssert (.iface 73 (.agg #[])) 50 71 true).run Tryd.prog w = .ok (.tuple #[.agg #[], .bool false]) w := by kernel_rfl
theorem ta_53 (w : World) : (Instr.typeAssert (.iface 73 (.agg #[])) 50 72 true).run Tryd.prog w = .ok (.tuple #[.agg #[], .bool false]) w := by kernel_rfl
theorem ta_54 (w : World) : (Instr.typeAssert (.iface 73 (.agg #[])) 50 73 true).run Tryd.prog w = .ok (.tuple #[.agg #[], .bool true]) w := by kernel_rfl
end Go.Proofs.YtgjohakjknmngaaDoor
namespace Go.Proofs.YtgjohakjknmngaaDoor
open Go.ChangeShapes Go.WideShapes Go.ChangeAt Go.RowKit
set_option linter.unusedVariables false
set_option maxRecDepth 100000

theorem formOf_0 (w : World) :
    Calls Tryd.prog 22 #[.int .i64 0] w fun e w' => e = .returned (.tuple #[.iface 68 (.agg #[]), .bool true]) ∧ w' = w := by
  go_enter Tryd.func22, Tryd.ntmps22
  go_wp2
  go_ret2
  exact ⟨rfl, rfl⟩
theorem formOf_1 (w : World) :
    Calls Tryd.prog 22 #[.int .i64 1] w fun e w' => e = .returned (.tuple #[.iface 70 (.agg #[.int .i64 1]), .bool true]) ∧ w' = w := by
  go_enter Tryd.func22, Tryd.ntmps22
  go_wp2
  go_ret2
  exact ⟨rfl, rfl⟩
theorem formOf_2 (w : World) :
    Calls Tryd.prog 22 #[.int .i64 2] w fun e w' => e = .returned (.tuple #[.iface 70 (.agg #[.int .i64 2]), .bool true]) ∧ w' = w := by
  go_enter Tryd.func22, Tryd.ntmps22
  go_wp2
  go_ret2
  exact ⟨rfl, rfl⟩
theorem formOf_3 (w : World) :
    Calls Tryd.prog 22 #[.int .i64 3] w fun e w' => e = .returned (.tuple #[.iface 71 (.agg #[]), .bool true]) ∧ w' = w := by
  go_enter Tryd.func22, Tryd.ntmps22
  go_wp2
  go_ret2
  exact ⟨rfl, rfl⟩
theorem formOf_4 (w : World) :
    Calls Tryd.prog 22 #[.int .i64 4] w fun e w' => e = .returned (.tuple #[.iface 72 (.agg #[]), .bool true]) ∧ w' = w := by
  go_enter Tryd.func22, Tryd.ntmps22
  go_wp2
  go_ret2
  exact ⟨rfl, rfl⟩
theorem formOf_5 (w : World) :
    Calls Tryd.prog 22 #[.int .i64 5] w fun e w' => e = .returned (.tuple #[.iface 73 (.agg #[]), .bool true]) ∧ w' = w := by
  go_enter Tryd.func22, Tryd.ntmps22
  go_wp2
  go_ret2
  exact ⟨rfl, rfl⟩
theorem formOf_no (w : World) (k : Int) (e0 : (k == 0) = false) (e1 : (k == 1) = false) (e2 : (k == 2) = false) (e3 : (k == 3) = false) (e4 : (k == 4) = false) (e5 : (k == 5) = false) :
    Calls Tryd.prog 22 #[.int .i64 k] w fun e w' => e = .returned (.tuple #[.nilIface, .bool false]) ∧ w' = w := by
  go_enter Tryd.func22, Tryd.ntmps22
  go_wp2
  go_ret2
  exact ⟨rfl, rfl⟩
theorem goodVersion_yes (v : Int) (w : World) (h : okW 1 v = true) :
    Calls Tryd.prog 46 #[.int .i64 v] w fun e w' => e = .returned (.bool true) ∧ w' = w := by
  simp [okW] at h
  go_enter Tryd.func46, Tryd.ntmps46
  go_wp2
  go_ret
  exact ⟨rfl, rfl⟩
theorem goodVersion_no (v : Int) (w : World) (h : okW 1 v = false) :
    Calls Tryd.prog 46 #[.int .i64 v] w fun e w' => e = .returned (.bool false) ∧ w' = w := by
  have h' : ¬ ((1 : Int) ≤ v ∧ v ≤ 4294967295) := of_decide_eq_false h
  clear h
  by_cases h1 : 1 ≤ v
  · have h2 : ¬ v ≤ 4294967295 := fun q => h' ⟨h1, q⟩
    clear h'
    go_enter Tryd.func46, Tryd.ntmps46
    go_wp2
    go_ret
    exact ⟨rfl, rfl⟩
  · clear h'
    go_enter Tryd.func46, Tryd.ntmps46
    go_wp2
    go_ret
    exact ⟨rfl, rfl⟩
set_option maxHeartbeats 4000000 in
theorem goodVersions_any (lo : Int) (ra : Option Addr) (n cap : Nat) (V : Nat → Int) (w : World) (h : Ia w ra n cap V) (hn : n ≤ 1048576) (hlo : lo = 0 ∨ lo = 1) :
    Calls Tryd.prog 47 #[.slice ra n cap, .int .i64 lo] w fun e w' => e = .returned (.bool (gv lo n V)) ∧ w' = w := by
  by_cases n1 : 1 ≤ n
  case neg =>
    have HF : Hid (gv lo n V = false) := decide_eq_false (fun q => n1 q.1)
    go_enter Tryd.func47, Tryd.ntmps47
    go_wp2
    go_ret
    exact ⟨by rw [unhide HF]; rfl, rfl⟩
  by_cases n2 : n ≤ 20
  case neg =>
    have HF : Hid (gv lo n V = false) := decide_eq_false (fun q => n2 q.2.1)
    go_enter Tryd.func47, Tryd.ntmps47
    go_wp2
    go_ret
    exact ⟨by rw [unhide HF]; rfl, rfl⟩
  rcases h with h | ⟨g, off, rfl, h⟩
  · omega
  have HR := hide h
  clear h
  go_enter Tryd.func47, Tryd.ntmps47
  go_wp2
  go_loopw [17] (fun i wr => ∃ k : Nat, k ≤ n ∧ i = .int .i64 k ∧ (∀ j, j < k → okW lo (V j) = true) ∧ wr = w) (fun i _ => n - (intOf i).toNat)
  case atStart => exact ⟨0, Nat.zero_le _, rfl, fun j hj => by omega, rfl⟩
  case round =>
    obtain ⟨k, hk, rfl, hok, rfl⟩ := hrel
    by_cases hlt : k < n
    · have hcf := (unhide HR).cv k hlt
      have hbv := (unhide HR).bv k hlt
      have HO := hide hok
      clear hok
      cases hw : okW lo (V k) with
      | true =>
        have hw' : lo ≤ V k ∧ V k ≤ 4294967295 := of_decide_eq_true hw
        have HW := hide hw
        obtain ⟨h1, h2⟩ := hw'
        clear hw
        go_wp2
        exact ⟨⟨k + 1, by omega, by go_num, upto_succW (unhide HO) (unhide HW), by first | trivial | rfl⟩, by simp [intOf]; omega⟩
      | false =>
        have hw' : ¬ (lo ≤ V k ∧ V k ≤ 4294967295) := of_decide_eq_false hw
        have HF : Hid (gv lo n V = false) := decide_eq_false (fun q => by have := allW_no hlt hw; rw [this] at q; exact absurd q.2.2 (by decide))
        clear hw
        by_cases h1 : lo ≤ V k
        · have h2 : ¬ V k ≤ 4294967295 := fun q => hw' ⟨h1, q⟩
          clear hw'
          go_wp2
          go_ret
          exact ⟨by rw [unhide HF]; rfl, rfl⟩
        · clear hw'
          go_wp2
          go_ret
          exact ⟨by rw [unhide HF]; rfl, rfl⟩
    · obtain rfl : k = n := by omega
      have HF : Hid (gv lo k V = true) := decide_eq_true ⟨n1, n2, allW_yes hok⟩
      clear hok
      go_wp2
      go_ret
      exact ⟨by rw [unhide HF]; rfl, rfl⟩
end Go.Proofs.YtgjohakjknmngaaDoor
namespace Go.Proofs.YtgjohakjknmngaaDoor
open Go.ChangeShapes Go.WideShapes Go.ChangeAt Go.RowKit
set_option linter.unusedVariables false
set_option maxRecDepth 100000

set_option maxHeartbeats 4000000 in
theorem gp_early (f bi ve : Int) (d s t p : ByteArray) (ra : Option Addr) (n cap : Nat) (w : World) (hp : p.size ≤ 1048576) (hn : n ≤ 1048576) (v : Value) (h : ¬ p.size ≤ 1200) :
    Calls Tryd.prog 29 #[v, hv f bi ve d s t p ra n cap] w fun e w' => e = .returned (.bool false) ∧ Below w.heap.size w w' := by
  go_enter Tryd.func29, Tryd.ntmps29
  go_wp2
  go_ret
  exact ⟨rfl, (Below.refl _ _).alloc (Nat.le_refl _) _⟩

set_option maxHeartbeats 4000000 in
theorem gp_0v (bi ve : Int) (d s t p : ByteArray) (ra : Option Addr) (n cap : Nat) (w : World) (hp : p.size ≤ 1048576) (hn : n ≤ 1048576) (h : p.size ≤ 1200) (hw : okW 1 ve = false) :
    Calls Tryd.prog 29 #[.iface 68 (.agg #[]), hv 0 bi ve d s t p ra n cap] w fun e w' => e = .returned (.bool false) ∧ Below w.heap.size w w' := by
  have HV := hide (fun W => goodVersion_no ve W hw)
  have t0 := ta_00
  have t1 := ta_01
  have t2 := ta_02
  have t3 := ta_03
  have t4 := ta_04
  go_enter Tryd.func29, Tryd.ntmps29
  go_wp2_with (go_at_call 46; refine (unhide HV _).mono ?_; rintro e w' ⟨rfl, rfl⟩)
  go_ret
  exact ⟨rfl, (Below.refl _ _).alloc (Nat.le_refl _) _⟩

set_option maxHeartbeats 4000000 in
theorem gp_0t (bi ve : Int) (d s t p : ByteArray) (ra : Option Addr) (n cap : Nat) (w : World) (hp : p.size ≤ 1048576) (hn : n ≤ 1048576) (h : p.size ≤ 1200) (hw : okW 1 ve = true) (h2 : ¬ t.size ≤ 200) (ht : t.size ≤ 1048576) :
    Calls Tryd.prog 29 #[.iface 68 (.agg #[]), hv 0 bi ve d s t p ra n cap] w fun e w' => e = .returned (.bool false) ∧ Below w.heap.size w w' := by
  have HV := hide (fun W => goodVersion_yes ve W hw)
  have t0 := ta_00
  have t1 := ta_01
  have t2 := ta_02
  have t3 := ta_03
  have t4 := ta_04
  go_enter Tryd.func29, Tryd.ntmps29
  go_wp2_with (go_at_call 46; refine (unhide HV _).mono ?_; rintro e w' ⟨rfl, rfl⟩)
  go_ret
  exact ⟨rfl, (Below.refl _ _).alloc (Nat.le_refl _) _⟩

set_option maxHeartbeats 4000000 in
theorem gp_0p (bi ve : Int) (d s t p : ByteArray) (ra : Option Addr) (n cap : Nat) (w : World) (hp : p.size ≤ 1048576) (hn : n ≤ 1048576) (h : p.size ≤ 1200) (hw : okW 1 ve = true) (h2 : t.size ≤ 200) (h3 : p.toList = []) :
    Calls Tryd.prog 29 #[.iface 68 (.agg #[]), hv 0 bi ve d s t p ra n cap] w fun e w' => e = .returned (.bool false) ∧ Below w.heap.size w w' := by
  have HV := hide (fun W => goodVersion_yes ve W hw)
  have t0 := ta_00
  have t1 := ta_01
  have t2 := ta_02
  have t3 := ta_03
  have t4 := ta_04
  go_enter Tryd.func29, Tryd.ntmps29
  go_wp2_with (go_at_call 46; refine (unhide HV _).mono ?_; rintro e w' ⟨rfl, rfl⟩)
  go_ret
  exact ⟨rfl, (Below.refl _ _).alloc (Nat.le_refl _) _⟩

set_option maxHeartbeats 4000000 in
theorem gp_0n (bi ve : Int) (d s t p : ByteArray) (ra : Option Addr) (n cap : Nat) (w : World) (hp : p.size ≤ 1048576) (hn : n ≤ 1048576) (h : p.size ≤ 1200) (hw : okW 1 ve = true) (h2 : t.size ≤ 200) (h3 : ¬ p.toList = []) (h4 : ((n : Int) == 0) = false) :
    Calls Tryd.prog 29 #[.iface 68 (.agg #[]), hv 0 bi ve d s t p ra n cap] w fun e w' => e = .returned (.bool false) ∧ Below w.heap.size w w' := by
  have HV := hide (fun W => goodVersion_yes ve W hw)
  have t0 := ta_00
  have t1 := ta_01
  have t2 := ta_02
  have t3 := ta_03
  have t4 := ta_04
  go_enter Tryd.func29, Tryd.ntmps29
  go_wp2_with (go_at_call 46; refine (unhide HV _).mono ?_; rintro e w' ⟨rfl, rfl⟩)
  go_ret
  exact ⟨rfl, (Below.refl _ _).alloc (Nat.le_refl _) _⟩

set_option maxHeartbeats 4000000 in
theorem gp_0y (bi ve : Int) (d s t p : ByteArray) (ra : Option Addr) (n cap : Nat) (w : World) (hp : p.size ≤ 1048576) (hn : n ≤ 1048576) (h : p.size ≤ 1200) (hw : okW 1 ve = true) (h2 : t.size ≤ 200) (h3 : ¬ p.toList = []) (h3' : p.toList.isEmpty = false) (h4 : n = 0) :
    Calls Tryd.prog 29 #[.iface 68 (.agg #[]), hv 0 bi ve d s t p ra n cap] w fun e w' => e = .returned (.bool true) ∧ Below w.heap.size w w' := by
  have HV := hide (fun W => goodVersion_yes ve W hw)
  have t0 := ta_00
  have t1 := ta_01
  have t2 := ta_02
  have t3 := ta_03
  have t4 := ta_04
  go_enter Tryd.func29, Tryd.ntmps29
  go_wp2_with (go_at_call 46; refine (unhide HV _).mono ?_; rintro e w' ⟨rfl, rfl⟩)
  go_ret
  exact ⟨rfl, (Below.refl _ _).alloc (Nat.le_refl _) _⟩

set_option maxHeartbeats 4000000 in
theorem gp_1v (bi ve : Int) (d s t p : ByteArray) (ra : Option Addr) (n cap : Nat) (w : World) (hp : p.size ≤ 1048576) (hn : n ≤ 1048576) (h : p.size ≤ 1200) (hw : okW 1 ve = false) :
    Calls Tryd.prog 29 #[.iface 70 (.agg #[.int .i64 1]), hv 1 bi ve d s t p ra n cap] w fun e w' => e = .returned (.bool false) ∧ Below w.heap.size w w' := by
  have HV := hide (fun W => goodVersion_no ve W hw)
  have t0 := ta_10
  have t1 := ta_11
  have t2 := ta_12
  have t3 := ta_13
  have t4 := ta_14
  go_enter Tryd.func29, Tryd.ntmps29
  go_wp2_with (go_at_call 46; refine (unhide HV _).mono ?_; rintro e w' ⟨rfl, rfl⟩)
  go_ret
  exact ⟨rfl, (Below.refl _ _).alloc (Nat.le_refl _) _⟩

set_option maxHeartbeats 4000000 in
theorem gp_1t (bi ve : Int) (d s t p : ByteArray) (ra : Option Addr) (n cap : Nat) (w : World) (hp : p.size ≤ 1048576) (hn : n ≤ 1048576) (h : p.size ≤ 1200) (hw : okW 1 ve = true) (h2 : ¬ t.toList = []) :
    Calls Tryd.prog 29 #[.iface 70 (.agg #[.int .i64 1]), hv 1 bi ve d s t p ra n cap] w fun e w' => e = .returned (.bool false) ∧ Below w.heap.size w w' := by
  have HV := hide (fun W => goodVersion_yes ve W hw)
  have t0 := ta_10
  have t1 := ta_11
  have t2 := ta_12
  have t3 := ta_13
  have t4 := ta_14
  go_enter Tryd.func29, Tryd.ntmps29
  go_wp2_with (go_at_call 46; refine (unhide HV _).mono ?_; rintro e w' ⟨rfl, rfl⟩)
  go_ret
  exact ⟨rfl, (Below.refl _ _).alloc (Nat.le_refl _) _⟩

set_option maxHeartbeats 4000000 in
theorem gp_1p (bi ve : Int) (d s t p : ByteArray) (ra : Option Addr) (n cap : Nat) (w : World) (hp : p.size ≤ 1048576) (hn : n ≤ 1048576) (h : p.size ≤ 1200) (hw : okW 1 ve = true) (h2 : t.toList = []) (h3 : p.toList = []) :
    Calls Tryd.prog 29 #[.iface 70 (.agg #[.int .i64 1]), hv 1 bi ve d s t p ra n cap] w fun e w' => e = .returned (.bool false) ∧ Below w.heap.size w w' := by
  have HV := hide (fun W => goodVersion_yes ve W hw)
  have t0 := ta_10
  have t1 := ta_11
  have t2 := ta_12
  have t3 := ta_13
  have t4 := ta_14
  go_enter Tryd.func29, Tryd.ntmps29
  go_wp2_with (go_at_call 46; refine (unhide HV _).mono ?_; rintro e w' ⟨rfl, rfl⟩)
  go_ret
  exact ⟨rfl, (Below.refl _ _).alloc (Nat.le_refl _) _⟩

set_option maxHeartbeats 4000000 in
theorem gp_1n (bi ve : Int) (d s t p : ByteArray) (ra : Option Addr) (n cap : Nat) (w : World) (hp : p.size ≤ 1048576) (hn : n ≤ 1048576) (h : p.size ≤ 1200) (hw : okW 1 ve = true) (h2 : t.toList = []) (h3 : ¬ p.toList = []) (h4 : ((n : Int) == 0) = false) :
    Calls Tryd.prog 29 #[.iface 70 (.agg #[.int .i64 1]), hv 1 bi ve d s t p ra n cap] w fun e w' => e = .returned (.bool false) ∧ Below w.heap.size w w' := by
  have HV := hide (fun W => goodVersion_yes ve W hw)
  have t0 := ta_10
  have t1 := ta_11
  have t2 := ta_12
  have t3 := ta_13
  have t4 := ta_14
  go_enter Tryd.func29, Tryd.ntmps29
  go_wp2_with (go_at_call 46; refine (unhide HV _).mono ?_; rintro e w' ⟨rfl, rfl⟩)
  go_ret
  exact ⟨rfl, (Below.refl _ _).alloc (Nat.le_refl _) _⟩

set_option maxHeartbeats 4000000 in
theorem gp_1y (bi ve : Int) (d s t p : ByteArray) (ra : Option Addr) (n cap : Nat) (w : World) (hp : p.size ≤ 1048576) (hn : n ≤ 1048576) (h : p.size ≤ 1200) (hw : okW 1 ve = true) (h2 : t.toList = []) (h3 : ¬ p.toList = []) (h3' : p.toList.isEmpty = false) (h4 : n = 0) :
    Calls Tryd.prog 29 #[.iface 70 (.agg #[.int .i64 1]), hv 1 bi ve d s t p ra n cap] w fun e w' => e = .returned (.bool true) ∧ Below w.heap.size w w' := by
  have HV := hide (fun W => goodVersion_yes ve W hw)
  have t0 := ta_10
  have t1 := ta_11
  have t2 := ta_12
  have t3 := ta_13
  have t4 := ta_14
  go_enter Tryd.func29, Tryd.ntmps29
  go_wp2_with (go_at_call 46; refine (unhide HV _).mono ?_; rintro e w' ⟨rfl, rfl⟩)
  go_ret
  exact ⟨rfl, (Below.refl _ _).alloc (Nat.le_refl _) _⟩

end Go.Proofs.YtgjohakjknmngaaDoor
namespace Go.Proofs.YtgjohakjknmngaaDoor
open Go.ChangeShapes Go.WideShapes Go.ChangeAt Go.RowKit
set_option linter.unusedVariables false
set_option maxRecDepth 100000

set_option maxHeartbeats 4000000 in
theorem gp_2v (bi ve : Int) (d s t p : ByteArray) (ra : Option Addr) (n cap : Nat) (w : World) (hp : p.size ≤ 1048576) (hn : n ≤ 1048576) (h : p.size ≤ 1200) (hw : okW 1 ve = false) :
    Calls Tryd.prog 29 #[.iface 70 (.agg #[.int .i64 2]), hv 2 bi ve d s t p ra n cap] w fun e w' => e = .returned (.bool false) ∧ Below w.heap.size w w' := by
  have HV := hide (fun W => goodVersion_no ve W hw)
  have t0 := ta_20
  have t1 := ta_21
  have t2 := ta_22
  have t3 := ta_23
  have t4 := ta_24
  go_enter Tryd.func29, Tryd.ntmps29
  go_wp2_with (go_at_call 46; refine (unhide HV _).mono ?_; rintro e w' ⟨rfl, rfl⟩)
  go_ret
  exact ⟨rfl, (Below.refl _ _).alloc (Nat.le_refl _) _⟩

set_option maxHeartbeats 4000000 in
theorem gp_2t (bi ve : Int) (d s t p : ByteArray) (ra : Option Addr) (n cap : Nat) (w : World) (hp : p.size ≤ 1048576) (hn : n ≤ 1048576) (h : p.size ≤ 1200) (hw : okW 1 ve = true) (h2 : ¬ t.toList = []) :
    Calls Tryd.prog 29 #[.iface 70 (.agg #[.int .i64 2]), hv 2 bi ve d s t p ra n cap] w fun e w' => e = .returned (.bool false) ∧ Below w.heap.size w w' := by
  have HV := hide (fun W => goodVersion_yes ve W hw)
  have t0 := ta_20
  have t1 := ta_21
  have t2 := ta_22
  have t3 := ta_23
  have t4 := ta_24
  go_enter Tryd.func29, Tryd.ntmps29
  go_wp2_with (go_at_call 46; refine (unhide HV _).mono ?_; rintro e w' ⟨rfl, rfl⟩)
  go_ret
  exact ⟨rfl, (Below.refl _ _).alloc (Nat.le_refl _) _⟩

set_option maxHeartbeats 4000000 in
theorem gp_2p (bi ve : Int) (d s t p : ByteArray) (ra : Option Addr) (n cap : Nat) (w : World) (hp : p.size ≤ 1048576) (hn : n ≤ 1048576) (h : p.size ≤ 1200) (hw : okW 1 ve = true) (h2 : t.toList = []) (h3 : p.toList = []) :
    Calls Tryd.prog 29 #[.iface 70 (.agg #[.int .i64 2]), hv 2 bi ve d s t p ra n cap] w fun e w' => e = .returned (.bool false) ∧ Below w.heap.size w w' := by
  have HV := hide (fun W => goodVersion_yes ve W hw)
  have t0 := ta_20
  have t1 := ta_21
  have t2 := ta_22
  have t3 := ta_23
  have t4 := ta_24
  go_enter Tryd.func29, Tryd.ntmps29
  go_wp2_with (go_at_call 46; refine (unhide HV _).mono ?_; rintro e w' ⟨rfl, rfl⟩)
  go_ret
  exact ⟨rfl, (Below.refl _ _).alloc (Nat.le_refl _) _⟩

set_option maxHeartbeats 4000000 in
theorem gp_2n (bi ve : Int) (d s t p : ByteArray) (ra : Option Addr) (n cap : Nat) (w : World) (hp : p.size ≤ 1048576) (hn : n ≤ 1048576) (h : p.size ≤ 1200) (hw : okW 1 ve = true) (h2 : t.toList = []) (h3 : ¬ p.toList = []) (h4 : ((n : Int) == 0) = false) :
    Calls Tryd.prog 29 #[.iface 70 (.agg #[.int .i64 2]), hv 2 bi ve d s t p ra n cap] w fun e w' => e = .returned (.bool false) ∧ Below w.heap.size w w' := by
  have HV := hide (fun W => goodVersion_yes ve W hw)
  have t0 := ta_20
  have t1 := ta_21
  have t2 := ta_22
  have t3 := ta_23
  have t4 := ta_24
  go_enter Tryd.func29, Tryd.ntmps29
  go_wp2_with (go_at_call 46; refine (unhide HV _).mono ?_; rintro e w' ⟨rfl, rfl⟩)
  go_ret
  exact ⟨rfl, (Below.refl _ _).alloc (Nat.le_refl _) _⟩

set_option maxHeartbeats 4000000 in
theorem gp_2y (bi ve : Int) (d s t p : ByteArray) (ra : Option Addr) (n cap : Nat) (w : World) (hp : p.size ≤ 1048576) (hn : n ≤ 1048576) (h : p.size ≤ 1200) (hw : okW 1 ve = true) (h2 : t.toList = []) (h3 : ¬ p.toList = []) (h3' : p.toList.isEmpty = false) (h4 : n = 0) :
    Calls Tryd.prog 29 #[.iface 70 (.agg #[.int .i64 2]), hv 2 bi ve d s t p ra n cap] w fun e w' => e = .returned (.bool true) ∧ Below w.heap.size w w' := by
  have HV := hide (fun W => goodVersion_yes ve W hw)
  have t0 := ta_20
  have t1 := ta_21
  have t2 := ta_22
  have t3 := ta_23
  have t4 := ta_24
  go_enter Tryd.func29, Tryd.ntmps29
  go_wp2_with (go_at_call 46; refine (unhide HV _).mono ?_; rintro e w' ⟨rfl, rfl⟩)
  go_ret
  exact ⟨rfl, (Below.refl _ _).alloc (Nat.le_refl _) _⟩

set_option maxHeartbeats 4000000 in
theorem gp_3v (bi ve : Int) (d s t p : ByteArray) (ra : Option Addr) (n cap : Nat) (w : World) (hp : p.size ≤ 1048576) (hn : n ≤ 1048576) (h : p.size ≤ 1200) (hw : okW 1 ve = false) :
    Calls Tryd.prog 29 #[.iface 71 (.agg #[]), hv 3 bi ve d s t p ra n cap] w fun e w' => e = .returned (.bool false) ∧ Below w.heap.size w w' := by
  have HV := hide (fun W => goodVersion_no ve W hw)
  have t0 := ta_30
  have t1 := ta_31
  have t2 := ta_32
  have t3 := ta_33
  have t4 := ta_34
  go_enter Tryd.func29, Tryd.ntmps29
  go_wp2_with (go_at_call 46; refine (unhide HV _).mono ?_; rintro e w' ⟨rfl, rfl⟩)
  go_ret
  exact ⟨rfl, (Below.refl _ _).alloc (Nat.le_refl _) _⟩

set_option maxHeartbeats 4000000 in
theorem gp_3t (bi ve : Int) (d s t p : ByteArray) (ra : Option Addr) (n cap : Nat) (w : World) (hp : p.size ≤ 1048576) (hn : n ≤ 1048576) (h : p.size ≤ 1200) (hw : okW 1 ve = true) (h2 : ¬ t.toList = []) :
    Calls Tryd.prog 29 #[.iface 71 (.agg #[]), hv 3 bi ve d s t p ra n cap] w fun e w' => e = .returned (.bool false) ∧ Below w.heap.size w w' := by
  have HV := hide (fun W => goodVersion_yes ve W hw)
  have t0 := ta_30
  have t1 := ta_31
  have t2 := ta_32
  have t3 := ta_33
  have t4 := ta_34
  go_enter Tryd.func29, Tryd.ntmps29
  go_wp2_with (go_at_call 46; refine (unhide HV _).mono ?_; rintro e w' ⟨rfl, rfl⟩)
  go_ret
  exact ⟨rfl, (Below.refl _ _).alloc (Nat.le_refl _) _⟩

set_option maxHeartbeats 4000000 in
theorem gp_3p (bi ve : Int) (d s t p : ByteArray) (ra : Option Addr) (n cap : Nat) (w : World) (hp : p.size ≤ 1048576) (hn : n ≤ 1048576) (h : p.size ≤ 1200) (hw : okW 1 ve = true) (h2 : t.toList = []) (h3 : p.toList = []) :
    Calls Tryd.prog 29 #[.iface 71 (.agg #[]), hv 3 bi ve d s t p ra n cap] w fun e w' => e = .returned (.bool false) ∧ Below w.heap.size w w' := by
  have HV := hide (fun W => goodVersion_yes ve W hw)
  have t0 := ta_30
  have t1 := ta_31
  have t2 := ta_32
  have t3 := ta_33
  have t4 := ta_34
  go_enter Tryd.func29, Tryd.ntmps29
  go_wp2_with (go_at_call 46; refine (unhide HV _).mono ?_; rintro e w' ⟨rfl, rfl⟩)
  go_ret
  exact ⟨rfl, (Below.refl _ _).alloc (Nat.le_refl _) _⟩

set_option maxHeartbeats 4000000 in
theorem gp_3n (bi ve : Int) (d s t p : ByteArray) (ra : Option Addr) (n cap : Nat) (w : World) (hp : p.size ≤ 1048576) (hn : n ≤ 1048576) (h : p.size ≤ 1200) (hw : okW 1 ve = true) (h2 : t.toList = []) (h3 : ¬ p.toList = []) (h4 : ((n : Int) == 0) = false) :
    Calls Tryd.prog 29 #[.iface 71 (.agg #[]), hv 3 bi ve d s t p ra n cap] w fun e w' => e = .returned (.bool false) ∧ Below w.heap.size w w' := by
  have HV := hide (fun W => goodVersion_yes ve W hw)
  have t0 := ta_30
  have t1 := ta_31
  have t2 := ta_32
  have t3 := ta_33
  have t4 := ta_34
  go_enter Tryd.func29, Tryd.ntmps29
  go_wp2_with (go_at_call 46; refine (unhide HV _).mono ?_; rintro e w' ⟨rfl, rfl⟩)
  go_ret
  exact ⟨rfl, (Below.refl _ _).alloc (Nat.le_refl _) _⟩

set_option maxHeartbeats 4000000 in
theorem gp_3y (bi ve : Int) (d s t p : ByteArray) (ra : Option Addr) (n cap : Nat) (w : World) (hp : p.size ≤ 1048576) (hn : n ≤ 1048576) (h : p.size ≤ 1200) (hw : okW 1 ve = true) (h2 : t.toList = []) (h3 : ¬ p.toList = []) (h3' : p.toList.isEmpty = false) (h4 : n = 0) :
    Calls Tryd.prog 29 #[.iface 71 (.agg #[]), hv 3 bi ve d s t p ra n cap] w fun e w' => e = .returned (.bool true) ∧ Below w.heap.size w w' := by
  have HV := hide (fun W => goodVersion_yes ve W hw)
  have t0 := ta_30
  have t1 := ta_31
  have t2 := ta_32
  have t3 := ta_33
  have t4 := ta_34
  go_enter Tryd.func29, Tryd.ntmps29
  go_wp2_with (go_at_call 46; refine (unhide HV _).mono ?_; rintro e w' ⟨rfl, rfl⟩)
  go_ret
  exact ⟨rfl, (Below.refl _ _).alloc (Nat.le_refl _) _⟩

end Go.Proofs.YtgjohakjknmngaaDoor
namespace Go.Proofs.YtgjohakjknmngaaDoor
open Go.ChangeShapes Go.WideShapes Go.ChangeAt Go.RowKit
set_option linter.unusedVariables false
set_option maxRecDepth 100000

set_option maxHeartbeats 4000000 in
theorem gp_4v (bi ve : Int) (d s t p : ByteArray) (ra : Option Addr) (n cap : Nat) (w : World) (hp : p.size ≤ 1048576) (hn : n ≤ 1048576) (h : p.size ≤ 1200) (hw : (ve == 0) = false) :
    Calls Tryd.prog 29 #[.iface 72 (.agg #[]), hv 4 bi ve d s t p ra n cap] w fun e w' => e = .returned (.bool false) ∧ Below w.heap.size w w' := by
  have t0 := ta_40
  have t1 := ta_41
  have t2 := ta_42
  have t3 := ta_43
  have t4 := ta_44
  go_enter Tryd.func29, Tryd.ntmps29
  go_wp2
  go_ret
  exact ⟨rfl, (Below.refl _ _).alloc (Nat.le_refl _) _⟩

set_option maxHeartbeats 4000000 in
theorem gp_4t (bi : Int) (d s t p : ByteArray) (ra : Option Addr) (n cap : Nat) (w : World) (hp : p.size ≤ 1048576) (hn : n ≤ 1048576) (h : p.size ≤ 1200) (h2 : ¬ t.toList = []) :
    Calls Tryd.prog 29 #[.iface 72 (.agg #[]), hv 4 bi 0 d s t p ra n cap] w fun e w' => e = .returned (.bool false) ∧ Below w.heap.size w w' := by
  have t0 := ta_40
  have t1 := ta_41
  have t2 := ta_42
  have t3 := ta_43
  have t4 := ta_44
  go_enter Tryd.func29, Tryd.ntmps29
  go_wp2
  go_ret
  exact ⟨rfl, (Below.refl _ _).alloc (Nat.le_refl _) _⟩

set_option maxHeartbeats 4000000 in
theorem gp_4p (bi : Int) (d s t p : ByteArray) (ra : Option Addr) (n cap : Nat) (w : World) (hp : p.size ≤ 1048576) (hn : n ≤ 1048576) (h : p.size ≤ 1200) (h2 : t.toList = []) (h3 : ¬ p.toList = []) :
    Calls Tryd.prog 29 #[.iface 72 (.agg #[]), hv 4 bi 0 d s t p ra n cap] w fun e w' => e = .returned (.bool false) ∧ Below w.heap.size w w' := by
  have t0 := ta_40
  have t1 := ta_41
  have t2 := ta_42
  have t3 := ta_43
  have t4 := ta_44
  go_enter Tryd.func29, Tryd.ntmps29
  go_wp2
  go_ret
  exact ⟨rfl, (Below.refl _ _).alloc (Nat.le_refl _) _⟩

set_option maxHeartbeats 4000000 in
theorem gp_4y (bi : Int) (d s t p : ByteArray) (ra : Option Addr) (n cap : Nat) (w : World) (hp : p.size ≤ 1048576) (hn : n ≤ 1048576) (h : p.size ≤ 1200) (h2 : t.toList = []) (h3 : p.toList = []) (V : Nat → Int) (hR : Ia w ra n cap V) :
    Calls Tryd.prog 29 #[.iface 72 (.agg #[]), hv 4 bi 0 d s t p ra n cap] w fun e w' => e = .returned (.bool (gv 0 n V)) ∧ Below w.heap.size w w' := by
  have HV := hide (fun W (hb : Below w.heap.size w W) => goodVersions_any 0 ra n cap V W (hR.below hb) hn (Or.inl rfl))
  clear hR
  have t0 := ta_40
  have t1 := ta_41
  have t2 := ta_42
  have t3 := ta_43
  have t4 := ta_44
  go_enter Tryd.func29, Tryd.ntmps29
  go_wp2_with (go_at_call 47; refine (unhide HV _ ((Below.refl _ _).alloc (Nat.le_refl _) _)).mono ?_; rintro e w' ⟨rfl, rfl⟩)
  go_ret
  exact ⟨rfl, (Below.refl _ _).alloc (Nat.le_refl _) _⟩

set_option maxHeartbeats 4000000 in
theorem gp_5v (bi ve : Int) (d s t p : ByteArray) (ra : Option Addr) (n cap : Nat) (w : World) (hp : p.size ≤ 1048576) (hn : n ≤ 1048576) (h : p.size ≤ 1200) (hw : (ve == 0) = false) :
    Calls Tryd.prog 29 #[.iface 73 (.agg #[]), hv 5 bi ve d s t p ra n cap] w fun e w' => e = .returned (.bool false) ∧ Below w.heap.size w w' := by
  have t0 := ta_50
  have t1 := ta_51
  have t2 := ta_52
  have t3 := ta_53
  have t4 := ta_54
  go_enter Tryd.func29, Tryd.ntmps29
  go_wp2
  go_ret
  exact ⟨rfl, (Below.refl _ _).alloc (Nat.le_refl _) _⟩

set_option maxHeartbeats 4000000 in
theorem gp_5s (bi : Int) (d s t p : ByteArray) (ra : Option Addr) (n cap : Nat) (w : World) (hp : p.size ≤ 1048576) (hn : n ≤ 1048576) (h : p.size ≤ 1200) (h2 : ¬ s.toList = []) :
    Calls Tryd.prog 29 #[.iface 73 (.agg #[]), hv 5 bi 0 d s t p ra n cap] w fun e w' => e = .returned (.bool false) ∧ Below w.heap.size w w' := by
  have t0 := ta_50
  have t1 := ta_51
  have t2 := ta_52
  have t3 := ta_53
  have t4 := ta_54
  go_enter Tryd.func29, Tryd.ntmps29
  go_wp2
  go_ret
  exact ⟨rfl, (Below.refl _ _).alloc (Nat.le_refl _) _⟩

set_option maxHeartbeats 4000000 in
theorem gp_5t (bi : Int) (d s t p : ByteArray) (ra : Option Addr) (n cap : Nat) (w : World) (hp : p.size ≤ 1048576) (hn : n ≤ 1048576) (h : p.size ≤ 1200) (h2 : s.toList = []) (h3 : ¬ t.toList = []) :
    Calls Tryd.prog 29 #[.iface 73 (.agg #[]), hv 5 bi 0 d s t p ra n cap] w fun e w' => e = .returned (.bool false) ∧ Below w.heap.size w w' := by
  have t0 := ta_50
  have t1 := ta_51
  have t2 := ta_52
  have t3 := ta_53
  have t4 := ta_54
  go_enter Tryd.func29, Tryd.ntmps29
  go_wp2
  go_ret
  exact ⟨rfl, (Below.refl _ _).alloc (Nat.le_refl _) _⟩

set_option maxHeartbeats 4000000 in
theorem gp_5n (bi : Int) (d s t p : ByteArray) (ra : Option Addr) (n cap : Nat) (w : World) (hp : p.size ≤ 1048576) (hn : n ≤ 1048576) (h : p.size ≤ 1200) (h2 : s.toList = []) (h3 : t.toList = []) (h4 : ((n : Int) == 0) = false) :
    Calls Tryd.prog 29 #[.iface 73 (.agg #[]), hv 5 bi 0 d s t p ra n cap] w fun e w' => e = .returned (.bool false) ∧ Below w.heap.size w w' := by
  have t0 := ta_50
  have t1 := ta_51
  have t2 := ta_52
  have t3 := ta_53
  have t4 := ta_54
  go_enter Tryd.func29, Tryd.ntmps29
  go_wp2
  go_ret
  exact ⟨rfl, (Below.refl _ _).alloc (Nat.le_refl _) _⟩

set_option maxHeartbeats 4000000 in
theorem gp_5y (bi : Int) (d s t p : ByteArray) (ra : Option Addr) (n cap : Nat) (w : World) (hp : p.size ≤ 1048576) (hn : n ≤ 1048576) (h : p.size ≤ 1200) (h2 : s.toList = []) (h3 : t.toList = []) (h4 : n = 0) :
    Calls Tryd.prog 29 #[.iface 73 (.agg #[]), hv 5 bi 0 d s t p ra n cap] w fun e w' => e = .returned (.bool true) ∧ Below w.heap.size w w' := by
  have t0 := ta_50
  have t1 := ta_51
  have t2 := ta_52
  have t3 := ta_53
  have t4 := ta_54
  go_enter Tryd.func29, Tryd.ntmps29
  go_wp2
  go_ret
  exact ⟨rfl, (Below.refl _ _).alloc (Nat.le_refl _) _⟩

end Go.Proofs.YtgjohakjknmngaaDoor
namespace Go.Proofs.YtgjohakjknmngaaDoor
open Go.ChangeShapes Go.WideShapes Go.ChangeAt Go.RowKit
set_option linter.unusedVariables false
set_option maxRecDepth 100000

/-- the form's value behind its interface -/
def fo (f : Int) : Value := if f = 0 then .iface 68 (.agg #[]) else if f = 1 then .iface 70 (.agg #[.int .i64 1]) else if f = 2 then .iface 70 (.agg #[.int .i64 2]) else if f = 3 then .iface 71 (.agg #[]) else if f = 4 then .iface 72 (.agg #[]) else if f = 5 then .iface 73 (.agg #[]) else .nilIface
theorem fo_0 : fo 0 = .iface 68 (.agg #[]) := rfl
theorem fo_1 : fo 1 = .iface 70 (.agg #[.int .i64 1]) := rfl
theorem fo_2 : fo 2 = .iface 70 (.agg #[.int .i64 2]) := rfl
theorem fo_3 : fo 3 = .iface 71 (.agg #[]) := rfl
theorem fo_4 : fo 4 = .iface 72 (.agg #[]) := rfl
theorem fo_5 : fo 5 = .iface 73 (.agg #[]) := rfl

theorem goodParts_any (f bi ve : Int) (d s t p : ByteArray) (ra : Option Addr) (n cap : Nat) (V : Nat → Int) (w : World) (ht : t.size ≤ 1048576) (hp : p.size ≤ 1048576) (hn : n ≤ 1048576) (hR : Ia w ra n cap V)
    (hf : f = 0 ∨ f = 1 ∨ f = 2 ∨ f = 3 ∨ f = 4 ∨ f = 5) :
    Calls Tryd.prog 29 #[fo f, hv f bi ve d s t p ra n cap] w fun e w' => e = .returned (.bool (gpB f ve s.size t.size p.size n V)) ∧ Below w.heap.size w w' := by
  have nt := size0 t
  have np := size0 p
  have ns := size0 s
  have nz : ∀ {m : Nat}, m ≠ 0 → ((m : Int) == 0) = false := fun h => beq_eq_false_iff_ne.2 (by omega)
  by_cases c5 : p.size ≤ 1200
  case neg =>
    have e : gpB f ve s.size t.size p.size n V = false := by
      cases q : gpB f ve s.size t.size p.size n V with
      | false => rfl
      | true => exact absurd (gpB_lim q).1 c5
    rw [e]
    exact gp_early f bi ve d s t p ra n cap w hp hn _ c5
  rcases hf with rfl | rfl | rfl | rfl | rfl | rfl
  · rw [fo_0, gpB_0]
    cases v : okW 1 ve with
    | false =>
      rw [show decide _ = false from decide_eq_false (fun q => absurd q.2.1 (by decide))]
      exact gp_0v bi ve d s t p ra n cap w hp hn c5 v
    | true =>
      by_cases z : t.size ≤ 200
      case neg =>
        rw [show decide _ = false from decide_eq_false (fun q => z q.2.2.1)]
        exact gp_0t bi ve d s t p ra n cap w hp hn c5 v z ht
      by_cases y : p.toList = []
      · rw [show decide _ = false from decide_eq_false (fun q => by have := np.1 y; omega)]
        exact gp_0p bi ve d s t p ra n cap w hp hn c5 v z y
      by_cases x : n = 0
      · rw [show decide _ = true from decide_eq_true ⟨c5, rfl, z, by have : p.size ≠ 0 := fun q => y (np.2 q); omega, x⟩]
        exact gp_0y bi ve d s t p ra n cap w hp hn c5 v z y (isE y) x
      · rw [show decide _ = false from decide_eq_false (fun q => x q.2.2.2.2)]
        exact gp_0n bi ve d s t p ra n cap w hp hn c5 v z y (nz x)
  · rw [fo_1, gpB_1]
    cases v : okW 1 ve with
    | false =>
      rw [show decide _ = false from decide_eq_false (fun q => absurd q.2.1 (by decide))]
      exact gp_1v bi ve d s t p ra n cap w hp hn c5 v
    | true =>
      by_cases z : t.toList = []
      case neg =>
        rw [show decide _ = false from decide_eq_false (fun q => z (nt.2 q.2.2.1))]
        exact gp_1t bi ve d s t p ra n cap w hp hn c5 v z
      by_cases y : p.toList = []
      · rw [show decide _ = false from decide_eq_false (fun q => by have := np.1 y; omega)]
        exact gp_1p bi ve d s t p ra n cap w hp hn c5 v z y
      by_cases x : n = 0
      · rw [show decide _ = true from decide_eq_true ⟨c5, rfl, (nt.1 z), by have : p.size ≠ 0 := fun q => y (np.2 q); omega, x⟩]
        exact gp_1y bi ve d s t p ra n cap w hp hn c5 v z y (isE y) x
      · rw [show decide _ = false from decide_eq_false (fun q => x q.2.2.2.2)]
        exact gp_1n bi ve d s t p ra n cap w hp hn c5 v z y (nz x)
  · rw [fo_2, gpB_2]
    cases v : okW 1 ve with
    | false =>
      rw [show decide _ = false from decide_eq_false (fun q => absurd q.2.1 (by decide))]
      exact gp_2v bi ve d s t p ra n cap w hp hn c5 v
    | true =>
      by_cases z : t.toList = []
      case neg =>
        rw [show decide _ = false from decide_eq_false (fun q => z (nt.2 q.2.2.1))]
        exact gp_2t bi ve d s t p ra n cap w hp hn c5 v z
      by_cases y : p.toList = []
      · rw [show decide _ = false from decide_eq_false (fun q => by have := np.1 y; omega)]
        exact gp_2p bi ve d s t p ra n cap w hp hn c5 v z y
      by_cases x : n = 0
      · rw [show decide _ = true from decide_eq_true ⟨c5, rfl, (nt.1 z), by have : p.size ≠ 0 := fun q => y (np.2 q); omega, x⟩]
        exact gp_2y bi ve d s t p ra n cap w hp hn c5 v z y (isE y) x
      · rw [show decide _ = false from decide_eq_false (fun q => x q.2.2.2.2)]
        exact gp_2n bi ve d s t p ra n cap w hp hn c5 v z y (nz x)
  · rw [fo_3, gpB_3]
    cases v : okW 1 ve with
    | false =>
      rw [show decide _ = false from decide_eq_false (fun q => absurd q.2.1 (by decide))]
      exact gp_3v bi ve d s t p ra n cap w hp hn c5 v
    | true =>
      by_cases z : t.toList = []
      case neg =>
        rw [show decide _ = false from decide_eq_false (fun q => z (nt.2 q.2.2.1))]
        exact gp_3t bi ve d s t p ra n cap w hp hn c5 v z
      by_cases y : p.toList = []
      · rw [show decide _ = false from decide_eq_false (fun q => by have := np.1 y; omega)]
        exact gp_3p bi ve d s t p ra n cap w hp hn c5 v z y
      by_cases x : n = 0
      · rw [show decide _ = true from decide_eq_true ⟨c5, rfl, (nt.1 z), by have : p.size ≠ 0 := fun q => y (np.2 q); omega, x⟩]
        exact gp_3y bi ve d s t p ra n cap w hp hn c5 v z y (isE y) x
      · rw [show decide _ = false from decide_eq_false (fun q => x q.2.2.2.2)]
        exact gp_3n bi ve d s t p ra n cap w hp hn c5 v z y (nz x)
  · rw [fo_4, gpB_4]
    by_cases v : ve = 0
    case neg =>
      rw [show decide _ = false from decide_eq_false (fun q => v q.2.1)]
      exact gp_4v bi ve d s t p ra n cap w hp hn c5 (beq_eq_false_iff_ne.2 v)
    subst v
    by_cases z : t.toList = []
    case neg =>
      rw [show decide _ = false from decide_eq_false (fun q => z (nt.2 q.2.2.1))]
      exact gp_4t bi d s t p ra n cap w hp hn c5 z
    by_cases y : p.toList = []
    case neg =>
      rw [show decide _ = false from decide_eq_false (fun q => y (np.2 q.2.2.2.1))]
      exact gp_4p bi d s t p ra n cap w hp hn c5 z y
    have e : decide (p.size ≤ 1200 ∧ (0 : Int) = 0 ∧ t.size = 0 ∧ p.size = 0 ∧ gv 0 n V = true) = gv 0 n V := by
      rw [Bool.eq_iff_iff, decide_eq_true_eq]
      exact ⟨fun q => q.2.2.2.2, fun q => ⟨c5, rfl, nt.1 z, np.1 y, q⟩⟩
    rw [e]
    exact gp_4y bi d s t p ra n cap w hp hn c5 z y V hR
  · rw [fo_5, gpB_5]
    by_cases v : ve = 0
    case neg =>
      rw [show decide _ = false from decide_eq_false (fun q => v q.2.1)]
      exact gp_5v bi ve d s t p ra n cap w hp hn c5 (beq_eq_false_iff_ne.2 v)
    subst v
    by_cases z : s.toList = []
    case neg =>
      rw [show decide _ = false from decide_eq_false (fun q => z (ns.2 q.2.2.1))]
      exact gp_5s bi d s t p ra n cap w hp hn c5 z
    by_cases y : t.toList = []
    case neg =>
      rw [show decide _ = false from decide_eq_false (fun q => y (nt.2 q.2.2.2.1))]
      exact gp_5t bi d s t p ra n cap w hp hn c5 z y
    by_cases x : n = 0
    · rw [show decide _ = true from decide_eq_true ⟨c5, rfl, ns.1 z, nt.1 y, x⟩]
      exact gp_5y bi d s t p ra n cap w hp hn c5 z y x
    · rw [show decide _ = false from decide_eq_false (fun q => x q.2.2.2.2)]
      exact gp_5n bi d s t p ra n cap w hp hn c5 z y (nz x)

theorem formOf_any (f : Int) (w : World) (hf : f = 0 ∨ f = 1 ∨ f = 2 ∨ f = 3 ∨ f = 4 ∨ f = 5) :
    Calls Tryd.prog 22 #[.int .i64 f] w fun e w' => e = .returned (.tuple #[fo f, .bool true]) ∧ w' = w := by
  rcases hf with rfl | rfl | rfl | rfl | rfl | rfl
  · exact formOf_0 w
  · exact formOf_1 w
  · exact formOf_2 w
  · exact formOf_3 w
  · exact formOf_4 w
  · exact formOf_5 w

set_option maxHeartbeats 4000000 in
theorem implGood_any (f bi ve : Int) (d s t p : ByteArray) (ra : Option Addr) (n cap : Nat) (V : Nat → Int) (w : World) (hd : d.size ≤ 1048576) (hs : s.size ≤ 1048576) (ht : t.size ≤ 1048576) (hp : p.size ≤ 1048576) (hn : n ≤ 1048576) (hR : Ia w ra n cap V) :
    Calls Tryd.prog 14 #[hv f bi ve d s t p ra n cap] w fun e w' => e = .returned (.bool (gh f bi ve d.size s.size t.size p.size n V)) ∧ Below w.heap.size w w' := by
  by_cases k : f = 0 ∨ f = 1 ∨ f = 2 ∨ f = 3 ∨ f = 4 ∨ f = 5
  case neg =>
    have e : gh f bi ve d.size s.size t.size p.size n V = false := decide_eq_false (fun q => k (gpB_lim q.2.2.2.2).2.2.2.2)
    have HN := hide (fun W => formOf_no W f (beq_eq_false_iff_ne.2 (by omega)) (beq_eq_false_iff_ne.2 (by omega)) (beq_eq_false_iff_ne.2 (by omega)) (beq_eq_false_iff_ne.2 (by omega)) (beq_eq_false_iff_ne.2 (by omega)) (beq_eq_false_iff_ne.2 (by omega)))
    rw [e]
    clear e k hR
    go_enter Tryd.func14, Tryd.ntmps14
    go_wp2_with (go_at_call 22; refine (unhide HN _).mono ?_; rintro e w' ⟨rfl, rfl⟩)
    go_ret
    exact ⟨rfl, (Below.refl _ _).alloc (Nat.le_refl _) _⟩
  have HN := hide (fun W => formOf_any f W k)
  have HG := hide (fun W (hb : Below w.heap.size w W) => goodParts_any f bi ve d s t p ra n cap V W ht hp hn (hR.below hb) k)
  clear k hR
  generalize fo f = fv at *
  have no : ¬ (d.size ≤ 20 ∧ s.size ≤ 20 ∧ 0 ≤ bi ∧ bi ≤ 15) → Hid (gh f bi ve d.size s.size t.size p.size n V = false) := fun h => decide_eq_false (fun q => h ⟨q.1, q.2.1, q.2.2.1, q.2.2.2.1⟩)
  by_cases c3 : 0 ≤ bi
  case neg =>
    have HF := no (fun q => c3 q.2.2.1)
    clear no
    go_enter Tryd.func14, Tryd.ntmps14
    go_wp2_with (go_at_call 22; refine (unhide HN _).mono ?_; rintro e w' ⟨rfl, rfl⟩)
    go_ret
    exact ⟨by rw [unhide HF]; rfl, (Below.refl _ _).alloc (Nat.le_refl _) _⟩
  by_cases c3' : bi ≤ 15
  case neg =>
    have HF := no (fun q => c3' q.2.2.2)
    clear no
    go_enter Tryd.func14, Tryd.ntmps14
    go_wp2_with (go_at_call 22; refine (unhide HN _).mono ?_; rintro e w' ⟨rfl, rfl⟩)
    go_ret
    exact ⟨by rw [unhide HF]; rfl, (Below.refl _ _).alloc (Nat.le_refl _) _⟩
  by_cases c1 : d.size ≤ 20
  case neg =>
    have HF := no (fun q => c1 q.1)
    clear no
    go_enter Tryd.func14, Tryd.ntmps14
    go_wp2_with (go_at_call 22; refine (unhide HN _).mono ?_; rintro e w' ⟨rfl, rfl⟩)
    go_ret
    exact ⟨by rw [unhide HF]; rfl, (Below.refl _ _).alloc (Nat.le_refl _) _⟩
  by_cases c2 : s.size ≤ 20
  case neg =>
    have HF := no (fun q => c2 q.2.1)
    clear no
    go_enter Tryd.func14, Tryd.ntmps14
    go_wp2_with (go_at_call 22; refine (unhide HN _).mono ?_; rintro e w' ⟨rfl, rfl⟩)
    go_ret
    exact ⟨by rw [unhide HF]; rfl, (Below.refl _ _).alloc (Nat.le_refl _) _⟩
  have HF : Hid (gh f bi ve d.size s.size t.size p.size n V = gpB f ve s.size t.size p.size n V) := by
    show _ = _
    unfold gh
    rw [Bool.eq_iff_iff, decide_eq_true_eq]
    exact ⟨fun q => q.2.2.2.2, fun q => ⟨c1, c2, by omega, by omega, q⟩⟩
  rw [unhide HF]
  clear no HF
  generalize gpB f ve s.size t.size p.size n V = r at *
  go_enter Tryd.func14, Tryd.ntmps14
  go_wp2_with (first | (go_at_call 22; refine (unhide HN _).mono ?_; rintro e w' ⟨rfl, rfl⟩) | (go_at_call 29; refine (unhide HG _ ((Below.refl _ _).alloc (Nat.le_refl _) _)).mono ?_; rintro e w2 ⟨rfl, hb2⟩))
  go_ret
  exact ⟨rfl, ((Below.refl _ _).alloc (Nat.le_refl _) _).trans (hb2.mono (by simp))⟩
end Go.Proofs.YtgjohakjknmngaaDoor
