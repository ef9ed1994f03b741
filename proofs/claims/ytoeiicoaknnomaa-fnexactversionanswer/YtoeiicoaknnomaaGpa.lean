/-
  Contracts: the program's look at a header, what its form names.
-/
import Derived.Test.YtoeiicoaknnomaaGhi
import Derived.Test.YtoeiicoaknnomaaGta
namespace Go.Proofs.Ytoeiicoaknnomaa
open Go.ChangeShapes Go.WideShapes Go.ChangeAt Go.RowKit
set_option linter.unusedVariables false

set_option maxHeartbeats 4000000 in
theorem gp_early (f bi ve : Int) (d s t p : ByteArray) (ra : Option Addr) (n cap : Nat) (w : World) (hp : p.size ≤ 1048576) (hn : n ≤ 1048576) (v : Value) (h : ¬ p.size ≤ 1200) :
    Calls Try.prog 26 #[v, hv f bi ve d s t p ra n cap] w fun e w' => e = .returned (.bool false) ∧ Below w.heap.size w w' := by
  go_enter Try.func26, Try.ntmps26
  go_wp2
  go_ret
  exact ⟨rfl, (Below.refl _ _).alloc (Nat.le_refl _) _⟩

set_option maxHeartbeats 4000000 in
theorem gp_0v (bi ve : Int) (d s t p : ByteArray) (ra : Option Addr) (n cap : Nat) (w : World) (hp : p.size ≤ 1048576) (hn : n ≤ 1048576) (h : p.size ≤ 1200) (hw : okW 1 ve = false) :
    Calls Try.prog 26 #[.iface 47 (.agg #[]), hv 0 bi ve d s t p ra n cap] w fun e w' => e = .returned (.bool false) ∧ Below w.heap.size w w' := by
  have HV := hide (fun W => goodVersion_no ve W hw)
  have t0 := ta_00
  have t1 := ta_01
  have t2 := ta_02
  have t3 := ta_03
  have t4 := ta_04
  go_enter Try.func26, Try.ntmps26
  go_wp2_with (go_at_call 29; refine (unhide HV _).mono ?_; rintro e w' ⟨rfl, rfl⟩)
  go_ret
  exact ⟨rfl, (Below.refl _ _).alloc (Nat.le_refl _) _⟩

set_option maxHeartbeats 4000000 in
theorem gp_0t (bi ve : Int) (d s t p : ByteArray) (ra : Option Addr) (n cap : Nat) (w : World) (hp : p.size ≤ 1048576) (hn : n ≤ 1048576) (h : p.size ≤ 1200) (hw : okW 1 ve = true) (h2 : ¬ t.size ≤ 200) (ht : t.size ≤ 1048576) :
    Calls Try.prog 26 #[.iface 47 (.agg #[]), hv 0 bi ve d s t p ra n cap] w fun e w' => e = .returned (.bool false) ∧ Below w.heap.size w w' := by
  have HV := hide (fun W => goodVersion_yes ve W hw)
  have t0 := ta_00
  have t1 := ta_01
  have t2 := ta_02
  have t3 := ta_03
  have t4 := ta_04
  go_enter Try.func26, Try.ntmps26
  go_wp2_with (go_at_call 29; refine (unhide HV _).mono ?_; rintro e w' ⟨rfl, rfl⟩)
  go_ret
  exact ⟨rfl, (Below.refl _ _).alloc (Nat.le_refl _) _⟩

set_option maxHeartbeats 4000000 in
theorem gp_0p (bi ve : Int) (d s t p : ByteArray) (ra : Option Addr) (n cap : Nat) (w : World) (hp : p.size ≤ 1048576) (hn : n ≤ 1048576) (h : p.size ≤ 1200) (hw : okW 1 ve = true) (h2 : t.size ≤ 200) (h3 : p.toList = []) :
    Calls Try.prog 26 #[.iface 47 (.agg #[]), hv 0 bi ve d s t p ra n cap] w fun e w' => e = .returned (.bool false) ∧ Below w.heap.size w w' := by
  have HV := hide (fun W => goodVersion_yes ve W hw)
  have t0 := ta_00
  have t1 := ta_01
  have t2 := ta_02
  have t3 := ta_03
  have t4 := ta_04
  go_enter Try.func26, Try.ntmps26
  go_wp2_with (go_at_call 29; refine (unhide HV _).mono ?_; rintro e w' ⟨rfl, rfl⟩)
  go_ret
  exact ⟨rfl, (Below.refl _ _).alloc (Nat.le_refl _) _⟩

set_option maxHeartbeats 4000000 in
theorem gp_0n (bi ve : Int) (d s t p : ByteArray) (ra : Option Addr) (n cap : Nat) (w : World) (hp : p.size ≤ 1048576) (hn : n ≤ 1048576) (h : p.size ≤ 1200) (hw : okW 1 ve = true) (h2 : t.size ≤ 200) (h3 : ¬ p.toList = []) (h4 : ((n : Int) == 0) = false) :
    Calls Try.prog 26 #[.iface 47 (.agg #[]), hv 0 bi ve d s t p ra n cap] w fun e w' => e = .returned (.bool false) ∧ Below w.heap.size w w' := by
  have HV := hide (fun W => goodVersion_yes ve W hw)
  have t0 := ta_00
  have t1 := ta_01
  have t2 := ta_02
  have t3 := ta_03
  have t4 := ta_04
  go_enter Try.func26, Try.ntmps26
  go_wp2_with (go_at_call 29; refine (unhide HV _).mono ?_; rintro e w' ⟨rfl, rfl⟩)
  go_ret
  exact ⟨rfl, (Below.refl _ _).alloc (Nat.le_refl _) _⟩

set_option maxHeartbeats 4000000 in
theorem gp_0y (bi ve : Int) (d s t p : ByteArray) (ra : Option Addr) (n cap : Nat) (w : World) (hp : p.size ≤ 1048576) (hn : n ≤ 1048576) (h : p.size ≤ 1200) (hw : okW 1 ve = true) (h2 : t.size ≤ 200) (h3 : ¬ p.toList = []) (h3' : p.toList.isEmpty = false) (h4 : n = 0) :
    Calls Try.prog 26 #[.iface 47 (.agg #[]), hv 0 bi ve d s t p ra n cap] w fun e w' => e = .returned (.bool true) ∧ Below w.heap.size w w' := by
  have HV := hide (fun W => goodVersion_yes ve W hw)
  have t0 := ta_00
  have t1 := ta_01
  have t2 := ta_02
  have t3 := ta_03
  have t4 := ta_04
  go_enter Try.func26, Try.ntmps26
  go_wp2_with (go_at_call 29; refine (unhide HV _).mono ?_; rintro e w' ⟨rfl, rfl⟩)
  go_ret
  exact ⟨rfl, (Below.refl _ _).alloc (Nat.le_refl _) _⟩

set_option maxHeartbeats 4000000 in
theorem gp_1v (bi ve : Int) (d s t p : ByteArray) (ra : Option Addr) (n cap : Nat) (w : World) (hp : p.size ≤ 1048576) (hn : n ≤ 1048576) (h : p.size ≤ 1200) (hw : okW 1 ve = false) :
    Calls Try.prog 26 #[.iface 49 (.agg #[.int .i64 1]), hv 1 bi ve d s t p ra n cap] w fun e w' => e = .returned (.bool false) ∧ Below w.heap.size w w' := by
  have HV := hide (fun W => goodVersion_no ve W hw)
  have t0 := ta_10
  have t1 := ta_11
  have t2 := ta_12
  have t3 := ta_13
  have t4 := ta_14
  go_enter Try.func26, Try.ntmps26
  go_wp2_with (go_at_call 29; refine (unhide HV _).mono ?_; rintro e w' ⟨rfl, rfl⟩)
  go_ret
  exact ⟨rfl, (Below.refl _ _).alloc (Nat.le_refl _) _⟩

set_option maxHeartbeats 4000000 in
theorem gp_1t (bi ve : Int) (d s t p : ByteArray) (ra : Option Addr) (n cap : Nat) (w : World) (hp : p.size ≤ 1048576) (hn : n ≤ 1048576) (h : p.size ≤ 1200) (hw : okW 1 ve = true) (h2 : ¬ t.toList = []) :
    Calls Try.prog 26 #[.iface 49 (.agg #[.int .i64 1]), hv 1 bi ve d s t p ra n cap] w fun e w' => e = .returned (.bool false) ∧ Below w.heap.size w w' := by
  have HV := hide (fun W => goodVersion_yes ve W hw)
  have t0 := ta_10
  have t1 := ta_11
  have t2 := ta_12
  have t3 := ta_13
  have t4 := ta_14
  go_enter Try.func26, Try.ntmps26
  go_wp2_with (go_at_call 29; refine (unhide HV _).mono ?_; rintro e w' ⟨rfl, rfl⟩)
  go_ret
  exact ⟨rfl, (Below.refl _ _).alloc (Nat.le_refl _) _⟩

set_option maxHeartbeats 4000000 in
theorem gp_1p (bi ve : Int) (d s t p : ByteArray) (ra : Option Addr) (n cap : Nat) (w : World) (hp : p.size ≤ 1048576) (hn : n ≤ 1048576) (h : p.size ≤ 1200) (hw : okW 1 ve = true) (h2 : t.toList = []) (h3 : p.toList = []) :
    Calls Try.prog 26 #[.iface 49 (.agg #[.int .i64 1]), hv 1 bi ve d s t p ra n cap] w fun e w' => e = .returned (.bool false) ∧ Below w.heap.size w w' := by
  have HV := hide (fun W => goodVersion_yes ve W hw)
  have t0 := ta_10
  have t1 := ta_11
  have t2 := ta_12
  have t3 := ta_13
  have t4 := ta_14
  go_enter Try.func26, Try.ntmps26
  go_wp2_with (go_at_call 29; refine (unhide HV _).mono ?_; rintro e w' ⟨rfl, rfl⟩)
  go_ret
  exact ⟨rfl, (Below.refl _ _).alloc (Nat.le_refl _) _⟩

set_option maxHeartbeats 4000000 in
theorem gp_1n (bi ve : Int) (d s t p : ByteArray) (ra : Option Addr) (n cap : Nat) (w : World) (hp : p.size ≤ 1048576) (hn : n ≤ 1048576) (h : p.size ≤ 1200) (hw : okW 1 ve = true) (h2 : t.toList = []) (h3 : ¬ p.toList = []) (h4 : ((n : Int) == 0) = false) :
    Calls Try.prog 26 #[.iface 49 (.agg #[.int .i64 1]), hv 1 bi ve d s t p ra n cap] w fun e w' => e = .returned (.bool false) ∧ Below w.heap.size w w' := by
  have HV := hide (fun W => goodVersion_yes ve W hw)
  have t0 := ta_10
  have t1 := ta_11
  have t2 := ta_12
  have t3 := ta_13
  have t4 := ta_14
  go_enter Try.func26, Try.ntmps26
  go_wp2_with (go_at_call 29; refine (unhide HV _).mono ?_; rintro e w' ⟨rfl, rfl⟩)
  go_ret
  exact ⟨rfl, (Below.refl _ _).alloc (Nat.le_refl _) _⟩

set_option maxHeartbeats 4000000 in
theorem gp_1y (bi ve : Int) (d s t p : ByteArray) (ra : Option Addr) (n cap : Nat) (w : World) (hp : p.size ≤ 1048576) (hn : n ≤ 1048576) (h : p.size ≤ 1200) (hw : okW 1 ve = true) (h2 : t.toList = []) (h3 : ¬ p.toList = []) (h3' : p.toList.isEmpty = false) (h4 : n = 0) :
    Calls Try.prog 26 #[.iface 49 (.agg #[.int .i64 1]), hv 1 bi ve d s t p ra n cap] w fun e w' => e = .returned (.bool true) ∧ Below w.heap.size w w' := by
  have HV := hide (fun W => goodVersion_yes ve W hw)
  have t0 := ta_10
  have t1 := ta_11
  have t2 := ta_12
  have t3 := ta_13
  have t4 := ta_14
  go_enter Try.func26, Try.ntmps26
  go_wp2_with (go_at_call 29; refine (unhide HV _).mono ?_; rintro e w' ⟨rfl, rfl⟩)
  go_ret
  exact ⟨rfl, (Below.refl _ _).alloc (Nat.le_refl _) _⟩

end Go.Proofs.Ytoeiicoaknnomaa
