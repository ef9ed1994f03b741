/-
  Contracts: the program's look at a header, what its form names.
-/
import Derived.Test.YtoeiicoaknnomaaGhi
import Derived.Test.YtoeiicoaknnomaaGta
namespace Go.Proofs.Ytoeiicoaknnomaa
open Go.ChangeShapes Go.WideShapes Go.ChangeAt Go.RowKit
set_option linter.unusedVariables false

set_option maxHeartbeats 4000000 in
theorem gp_2v (bi ve : Int) (d s t p : ByteArray) (ra : Option Addr) (n cap : Nat) (w : World) (hp : p.size ≤ 1048576) (hn : n ≤ 1048576) (h : p.size ≤ 1200) (hw : okW 1 ve = false) :
    Calls Try.prog 26 #[.iface 49 (.agg #[.int .i64 2]), hv 2 bi ve d s t p ra n cap] w fun e w' => e = .returned (.bool false) ∧ Below w.heap.size w w' := by
  have HV := hide (fun W => goodVersion_no ve W hw)
  have t0 := ta_20
  have t1 := ta_21
  have t2 := ta_22
  have t3 := ta_23
  have t4 := ta_24
  go_enter Try.func26, Try.ntmps26
  go_wp2_with (go_at_call 29; refine (unhide HV _).mono ?_; rintro e w' ⟨rfl, rfl⟩)
  go_ret
  exact ⟨rfl, (Below.refl _ _).alloc (Nat.le_refl _) _⟩

set_option maxHeartbeats 4000000 in
theorem gp_2t (bi ve : Int) (d s t p : ByteArray) (ra : Option Addr) (n cap : Nat) (w : World) (hp : p.size ≤ 1048576) (hn : n ≤ 1048576) (h : p.size ≤ 1200) (hw : okW 1 ve = true) (h2 : ¬ t.toList = []) :
    Calls Try.prog 26 #[.iface 49 (.agg #[.int .i64 2]), hv 2 bi ve d s t p ra n cap] w fun e w' => e = .returned (.bool false) ∧ Below w.heap.size w w' := by
  have HV := hide (fun W => goodVersion_yes ve W hw)
  have t0 := ta_20
  have t1 := ta_21
  have t2 := ta_22
  have t3 := ta_23
  have t4 := ta_24
  go_enter Try.func26, Try.ntmps26
  go_wp2_with (go_at_call 29; refine (unhide HV _).mono ?_; rintro e w' ⟨rfl, rfl⟩)
  go_ret
  exact ⟨rfl, (Below.refl _ _).alloc (Nat.le_refl _) _⟩

set_option maxHeartbeats 4000000 in
theorem gp_2p (bi ve : Int) (d s t p : ByteArray) (ra : Option Addr) (n cap : Nat) (w : World) (hp : p.size ≤ 1048576) (hn : n ≤ 1048576) (h : p.size ≤ 1200) (hw : okW 1 ve = true) (h2 : t.toList = []) (h3 : p.toList = []) :
    Calls Try.prog 26 #[.iface 49 (.agg #[.int .i64 2]), hv 2 bi ve d s t p ra n cap] w fun e w' => e = .returned (.bool false) ∧ Below w.heap.size w w' := by
  have HV := hide (fun W => goodVersion_yes ve W hw)
  have t0 := ta_20
  have t1 := ta_21
  have t2 := ta_22
  have t3 := ta_23
  have t4 := ta_24
  go_enter Try.func26, Try.ntmps26
  go_wp2_with (go_at_call 29; refine (unhide HV _).mono ?_; rintro e w' ⟨rfl, rfl⟩)
  go_ret
  exact ⟨rfl, (Below.refl _ _).alloc (Nat.le_refl _) _⟩

set_option maxHeartbeats 4000000 in
theorem gp_2n (bi ve : Int) (d s t p : ByteArray) (ra : Option Addr) (n cap : Nat) (w : World) (hp : p.size ≤ 1048576) (hn : n ≤ 1048576) (h : p.size ≤ 1200) (hw : okW 1 ve = true) (h2 : t.toList = []) (h3 : ¬ p.toList = []) (h4 : ((n : Int) == 0) = false) :
    Calls Try.prog 26 #[.iface 49 (.agg #[.int .i64 2]), hv 2 bi ve d s t p ra n cap] w fun e w' => e = .returned (.bool false) ∧ Below w.heap.size w w' := by
  have HV := hide (fun W => goodVersion_yes ve W hw)
  have t0 := ta_20
  have t1 := ta_21
  have t2 := ta_22
  have t3 := ta_23
  have t4 := ta_24
  go_enter Try.func26, Try.ntmps26
  go_wp2_with (go_at_call 29; refine (unhide HV _).mono ?_; rintro e w' ⟨rfl, rfl⟩)
  go_ret
  exact ⟨rfl, (Below.refl _ _).alloc (Nat.le_refl _) _⟩

set_option maxHeartbeats 4000000 in
theorem gp_2y (bi ve : Int) (d s t p : ByteArray) (ra : Option Addr) (n cap : Nat) (w : World) (hp : p.size ≤ 1048576) (hn : n ≤ 1048576) (h : p.size ≤ 1200) (hw : okW 1 ve = true) (h2 : t.toList = []) (h3 : ¬ p.toList = []) (h3' : p.toList.isEmpty = false) (h4 : n = 0) :
    Calls Try.prog 26 #[.iface 49 (.agg #[.int .i64 2]), hv 2 bi ve d s t p ra n cap] w fun e w' => e = .returned (.bool true) ∧ Below w.heap.size w w' := by
  have HV := hide (fun W => goodVersion_yes ve W hw)
  have t0 := ta_20
  have t1 := ta_21
  have t2 := ta_22
  have t3 := ta_23
  have t4 := ta_24
  go_enter Try.func26, Try.ntmps26
  go_wp2_with (go_at_call 29; refine (unhide HV _).mono ?_; rintro e w' ⟨rfl, rfl⟩)
  go_ret
  exact ⟨rfl, (Below.refl _ _).alloc (Nat.le_refl _) _⟩

set_option maxHeartbeats 4000000 in
theorem gp_3v (bi ve : Int) (d s t p : ByteArray) (ra : Option Addr) (n cap : Nat) (w : World) (hp : p.size ≤ 1048576) (hn : n ≤ 1048576) (h : p.size ≤ 1200) (hw : okW 1 ve = false) :
    Calls Try.prog 26 #[.iface 50 (.agg #[]), hv 3 bi ve d s t p ra n cap] w fun e w' => e = .returned (.bool false) ∧ Below w.heap.size w w' := by
  have HV := hide (fun W => goodVersion_no ve W hw)
  have t0 := ta_30
  have t1 := ta_31
  have t2 := ta_32
  have t3 := ta_33
  have t4 := ta_34
  go_enter Try.func26, Try.ntmps26
  go_wp2_with (go_at_call 29; refine (unhide HV _).mono ?_; rintro e w' ⟨rfl, rfl⟩)
  go_ret
  exact ⟨rfl, (Below.refl _ _).alloc (Nat.le_refl _) _⟩

set_option maxHeartbeats 4000000 in
theorem gp_3t (bi ve : Int) (d s t p : ByteArray) (ra : Option Addr) (n cap : Nat) (w : World) (hp : p.size ≤ 1048576) (hn : n ≤ 1048576) (h : p.size ≤ 1200) (hw : okW 1 ve = true) (h2 : ¬ t.toList = []) :
    Calls Try.prog 26 #[.iface 50 (.agg #[]), hv 3 bi ve d s t p ra n cap] w fun e w' => e = .returned (.bool false) ∧ Below w.heap.size w w' := by
  have HV := hide (fun W => goodVersion_yes ve W hw)
  have t0 := ta_30
  have t1 := ta_31
  have t2 := ta_32
  have t3 := ta_33
  have t4 := ta_34
  go_enter Try.func26, Try.ntmps26
  go_wp2_with (go_at_call 29; refine (unhide HV _).mono ?_; rintro e w' ⟨rfl, rfl⟩)
  go_ret
  exact ⟨rfl, (Below.refl _ _).alloc (Nat.le_refl _) _⟩

set_option maxHeartbeats 4000000 in
theorem gp_3p (bi ve : Int) (d s t p : ByteArray) (ra : Option Addr) (n cap : Nat) (w : World) (hp : p.size ≤ 1048576) (hn : n ≤ 1048576) (h : p.size ≤ 1200) (hw : okW 1 ve = true) (h2 : t.toList = []) (h3 : p.toList = []) :
    Calls Try.prog 26 #[.iface 50 (.agg #[]), hv 3 bi ve d s t p ra n cap] w fun e w' => e = .returned (.bool false) ∧ Below w.heap.size w w' := by
  have HV := hide (fun W => goodVersion_yes ve W hw)
  have t0 := ta_30
  have t1 := ta_31
  have t2 := ta_32
  have t3 := ta_33
  have t4 := ta_34
  go_enter Try.func26, Try.ntmps26
  go_wp2_with (go_at_call 29; refine (unhide HV _).mono ?_; rintro e w' ⟨rfl, rfl⟩)
  go_ret
  exact ⟨rfl, (Below.refl _ _).alloc (Nat.le_refl _) _⟩

set_option maxHeartbeats 4000000 in
theorem gp_3n (bi ve : Int) (d s t p : ByteArray) (ra : Option Addr) (n cap : Nat) (w : World) (hp : p.size ≤ 1048576) (hn : n ≤ 1048576) (h : p.size ≤ 1200) (hw : okW 1 ve = true) (h2 : t.toList = []) (h3 : ¬ p.toList = []) (h4 : ((n : Int) == 0) = false) :
    Calls Try.prog 26 #[.iface 50 (.agg #[]), hv 3 bi ve d s t p ra n cap] w fun e w' => e = .returned (.bool false) ∧ Below w.heap.size w w' := by
  have HV := hide (fun W => goodVersion_yes ve W hw)
  have t0 := ta_30
  have t1 := ta_31
  have t2 := ta_32
  have t3 := ta_33
  have t4 := ta_34
  go_enter Try.func26, Try.ntmps26
  go_wp2_with (go_at_call 29; refine (unhide HV _).mono ?_; rintro e w' ⟨rfl, rfl⟩)
  go_ret
  exact ⟨rfl, (Below.refl _ _).alloc (Nat.le_refl _) _⟩

set_option maxHeartbeats 4000000 in
theorem gp_3y (bi ve : Int) (d s t p : ByteArray) (ra : Option Addr) (n cap : Nat) (w : World) (hp : p.size ≤ 1048576) (hn : n ≤ 1048576) (h : p.size ≤ 1200) (hw : okW 1 ve = true) (h2 : t.toList = []) (h3 : ¬ p.toList = []) (h3' : p.toList.isEmpty = false) (h4 : n = 0) :
    Calls Try.prog 26 #[.iface 50 (.agg #[]), hv 3 bi ve d s t p ra n cap] w fun e w' => e = .returned (.bool true) ∧ Below w.heap.size w w' := by
  have HV := hide (fun W => goodVersion_yes ve W hw)
  have t0 := ta_30
  have t1 := ta_31
  have t2 := ta_32
  have t3 := ta_33
  have t4 := ta_34
  go_enter Try.func26, Try.ntmps26
  go_wp2_with (go_at_call 29; refine (unhide HV _).mono ?_; rintro e w' ⟨rfl, rfl⟩)
  go_ret
  exact ⟨rfl, (Below.refl _ _).alloc (Nat.le_refl _) _⟩

end Go.Proofs.Ytoeiicoaknnomaa
