/-
  Contracts: the program's look at a header, what its form names. Contracts: the program's look at a header, what its form names.
-/
import Derived.Test.YtbabipaipbjlbaaGhiX
import Derived.Test.YtbabipaipbjlbaaGta
namespace Go.Proofs.Ytbabipaipbjlbaa
open Go.ChangeShapes Go.WideShapes Go.ChangeAt Go.RowKit
set_option linter.unusedVariables false
set_option maxRecDepth 100000

set_option maxHeartbeats 4000000 in
theorem gp_2v (bi ve : Int) (d s t p : ByteArray) (ra : Option Addr) (n cap : Nat) (w : World) (hp : p.size ≤ 1048576) (hn : n ≤ 1048576) (h : p.size ≤ 1200) (hw : okW 1 ve = false) :
    Calls Try.prog 54 #[.iface 113 (.agg #[.int .i64 2]), hv 2 bi ve d s t p ra n cap] w fun e w' => e = .returned (.bool false) ∧ Below w.heap.size w w' := by
  have HV := hide (fun W => goodVersion_no ve W hw)
  have t0 := ta_20
  have t1 := ta_21
  have t2 := ta_22
  have t3 := ta_23
  have t4 := ta_24
  go_enter Try.func54, Try.ntmps54
  go_wp2_with (go_at_call 64; refine (unhide HV _).mono ?_; rintro e w' ⟨rfl, rfl⟩)
  go_ret
  exact ⟨rfl, (Below.refl _ _).alloc (Nat.le_refl _) _⟩

set_option maxHeartbeats 4000000 in
theorem gp_2t (bi ve : Int) (d s t p : ByteArray) (ra : Option Addr) (n cap : Nat) (w : World) (hp : p.size ≤ 1048576) (hn : n ≤ 1048576) (h : p.size ≤ 1200) (hw : okW 1 ve = true) (h2 : ¬ t.toList = []) :
    Calls Try.prog 54 #[.iface 113 (.agg #[.int .i64 2]), hv 2 bi ve d s t p ra n cap] w fun e w' => e = .returned (.bool false) ∧ Below w.heap.size w w' := by
  have HV := hide (fun W => goodVersion_yes ve W hw)
  have t0 := ta_20
  have t1 := ta_21
  have t2 := ta_22
  have t3 := ta_23
  have t4 := ta_24
  go_enter Try.func54, Try.ntmps54
  go_wp2_with (go_at_call 64; refine (unhide HV _).mono ?_; rintro e w' ⟨rfl, rfl⟩)
  go_ret
  exact ⟨rfl, (Below.refl _ _).alloc (Nat.le_refl _) _⟩

set_option maxHeartbeats 4000000 in
theorem gp_2p (bi ve : Int) (d s t p : ByteArray) (ra : Option Addr) (n cap : Nat) (w : World) (hp : p.size ≤ 1048576) (hn : n ≤ 1048576) (h : p.size ≤ 1200) (hw : okW 1 ve = true) (h2 : t.toList = []) (h3 : p.toList = []) :
    Calls Try.prog 54 #[.iface 113 (.agg #[.int .i64 2]), hv 2 bi ve d s t p ra n cap] w fun e w' => e = .returned (.bool false) ∧ Below w.heap.size w w' := by
  have HV := hide (fun W => goodVersion_yes ve W hw)
  have t0 := ta_20
  have t1 := ta_21
  have t2 := ta_22
  have t3 := ta_23
  have t4 := ta_24
  go_enter Try.func54, Try.ntmps54
  go_wp2_with (go_at_call 64; refine (unhide HV _).mono ?_; rintro e w' ⟨rfl, rfl⟩)
  go_ret
  exact ⟨rfl, (Below.refl _ _).alloc (Nat.le_refl _) _⟩

set_option maxHeartbeats 4000000 in
theorem gp_2n (bi ve : Int) (d s t p : ByteArray) (ra : Option Addr) (n cap : Nat) (w : World) (hp : p.size ≤ 1048576) (hn : n ≤ 1048576) (h : p.size ≤ 1200) (hw : okW 1 ve = true) (h2 : t.toList = []) (h3 : ¬ p.toList = []) (h4 : ((n : Int) == 0) = false) :
    Calls Try.prog 54 #[.iface 113 (.agg #[.int .i64 2]), hv 2 bi ve d s t p ra n cap] w fun e w' => e = .returned (.bool false) ∧ Below w.heap.size w w' := by
  have HV := hide (fun W => goodVersion_yes ve W hw)
  have t0 := ta_20
  have t1 := ta_21
  have t2 := ta_22
  have t3 := ta_23
  have t4 := ta_24
  go_enter Try.func54, Try.ntmps54
  go_wp2_with (go_at_call 64; refine (unhide HV _).mono ?_; rintro e w' ⟨rfl, rfl⟩)
  go_ret
  exact ⟨rfl, (Below.refl _ _).alloc (Nat.le_refl _) _⟩

set_option maxHeartbeats 4000000 in
theorem gp_2y (bi ve : Int) (d s t p : ByteArray) (ra : Option Addr) (n cap : Nat) (w : World) (hp : p.size ≤ 1048576) (hn : n ≤ 1048576) (h : p.size ≤ 1200) (hw : okW 1 ve = true) (h2 : t.toList = []) (h3 : ¬ p.toList = []) (h3' : p.toList.isEmpty = false) (h4 : n = 0) :
    Calls Try.prog 54 #[.iface 113 (.agg #[.int .i64 2]), hv 2 bi ve d s t p ra n cap] w fun e w' => e = .returned (.bool true) ∧ Below w.heap.size w w' := by
  have HV := hide (fun W => goodVersion_yes ve W hw)
  have t0 := ta_20
  have t1 := ta_21
  have t2 := ta_22
  have t3 := ta_23
  have t4 := ta_24
  go_enter Try.func54, Try.ntmps54
  go_wp2_with (go_at_call 64; refine (unhide HV _).mono ?_; rintro e w' ⟨rfl, rfl⟩)
  go_ret
  exact ⟨rfl, (Below.refl _ _).alloc (Nat.le_refl _) _⟩

set_option maxHeartbeats 4000000 in
theorem gp_3v (bi ve : Int) (d s t p : ByteArray) (ra : Option Addr) (n cap : Nat) (w : World) (hp : p.size ≤ 1048576) (hn : n ≤ 1048576) (h : p.size ≤ 1200) (hw : okW 1 ve = false) :
    Calls Try.prog 54 #[.iface 114 (.agg #[]), hv 3 bi ve d s t p ra n cap] w fun e w' => e = .returned (.bool false) ∧ Below w.heap.size w w' := by
  have HV := hide (fun W => goodVersion_no ve W hw)
  have t0 := ta_30
  have t1 := ta_31
  have t2 := ta_32
  have t3 := ta_33
  have t4 := ta_34
  go_enter Try.func54, Try.ntmps54
  go_wp2_with (go_at_call 64; refine (unhide HV _).mono ?_; rintro e w' ⟨rfl, rfl⟩)
  go_ret
  exact ⟨rfl, (Below.refl _ _).alloc (Nat.le_refl _) _⟩

set_option maxHeartbeats 4000000 in
theorem gp_3t (bi ve : Int) (d s t p : ByteArray) (ra : Option Addr) (n cap : Nat) (w : World) (hp : p.size ≤ 1048576) (hn : n ≤ 1048576) (h : p.size ≤ 1200) (hw : okW 1 ve = true) (h2 : ¬ t.toList = []) :
    Calls Try.prog 54 #[.iface 114 (.agg #[]), hv 3 bi ve d s t p ra n cap] w fun e w' => e = .returned (.bool false) ∧ Below w.heap.size w w' := by
  have HV := hide (fun W => goodVersion_yes ve W hw)
  have t0 := ta_30
  have t1 := ta_31
  have t2 := ta_32
  have t3 := ta_33
  have t4 := ta_34
  go_enter Try.func54, Try.ntmps54
  go_wp2_with (go_at_call 64; refine (unhide HV _).mono ?_; rintro e w' ⟨rfl, rfl⟩)
  go_ret
  exact ⟨rfl, (Below.refl _ _).alloc (Nat.le_refl _) _⟩

set_option maxHeartbeats 4000000 in
theorem gp_3p (bi ve : Int) (d s t p : ByteArray) (ra : Option Addr) (n cap : Nat) (w : World) (hp : p.size ≤ 1048576) (hn : n ≤ 1048576) (h : p.size ≤ 1200) (hw : okW 1 ve = true) (h2 : t.toList = []) (h3 : p.toList = []) :
    Calls Try.prog 54 #[.iface 114 (.agg #[]), hv 3 bi ve d s t p ra n cap] w fun e w' => e = .returned (.bool false) ∧ Below w.heap.size w w' := by
  have HV := hide (fun W => goodVersion_yes ve W hw)
  have t0 := ta_30
  have t1 := ta_31
  have t2 := ta_32
  have t3 := ta_33
  have t4 := ta_34
  go_enter Try.func54, Try.ntmps54
  go_wp2_with (go_at_call 64; refine (unhide HV _).mono ?_; rintro e w' ⟨rfl, rfl⟩)
  go_ret
  exact ⟨rfl, (Below.refl _ _).alloc (Nat.le_refl _) _⟩

set_option maxHeartbeats 4000000 in
theorem gp_3n (bi ve : Int) (d s t p : ByteArray) (ra : Option Addr) (n cap : Nat) (w : World) (hp : p.size ≤ 1048576) (hn : n ≤ 1048576) (h : p.size ≤ 1200) (hw : okW 1 ve = true) (h2 : t.toList = []) (h3 : ¬ p.toList = []) (h4 : ((n : Int) == 0) = false) :
    Calls Try.prog 54 #[.iface 114 (.agg #[]), hv 3 bi ve d s t p ra n cap] w fun e w' => e = .returned (.bool false) ∧ Below w.heap.size w w' := by
  have HV := hide (fun W => goodVersion_yes ve W hw)
  have t0 := ta_30
  have t1 := ta_31
  have t2 := ta_32
  have t3 := ta_33
  have t4 := ta_34
  go_enter Try.func54, Try.ntmps54
  go_wp2_with (go_at_call 64; refine (unhide HV _).mono ?_; rintro e w' ⟨rfl, rfl⟩)
  go_ret
  exact ⟨rfl, (Below.refl _ _).alloc (Nat.le_refl _) _⟩

set_option maxHeartbeats 4000000 in
theorem gp_3y (bi ve : Int) (d s t p : ByteArray) (ra : Option Addr) (n cap : Nat) (w : World) (hp : p.size ≤ 1048576) (hn : n ≤ 1048576) (h : p.size ≤ 1200) (hw : okW 1 ve = true) (h2 : t.toList = []) (h3 : ¬ p.toList = []) (h3' : p.toList.isEmpty = false) (h4 : n = 0) :
    Calls Try.prog 54 #[.iface 114 (.agg #[]), hv 3 bi ve d s t p ra n cap] w fun e w' => e = .returned (.bool true) ∧ Below w.heap.size w w' := by
  have HV := hide (fun W => goodVersion_yes ve W hw)
  have t0 := ta_30
  have t1 := ta_31
  have t2 := ta_32
  have t3 := ta_33
  have t4 := ta_34
  go_enter Try.func54, Try.ntmps54
  go_wp2_with (go_at_call 64; refine (unhide HV _).mono ?_; rintro e w' ⟨rfl, rfl⟩)
  go_ret
  exact ⟨rfl, (Below.refl _ _).alloc (Nat.le_refl _) _⟩

end Go.Proofs.Ytbabipaipbjlbaa
namespace Go.Proofs.Ytbabipaipbjlbaa
open Go.ChangeShapes Go.WideShapes Go.ChangeAt Go.RowKit
set_option linter.unusedVariables false
set_option maxRecDepth 100000

set_option maxHeartbeats 4000000 in
theorem gp_4v (bi ve : Int) (d s t p : ByteArray) (ra : Option Addr) (n cap : Nat) (w : World) (hp : p.size ≤ 1048576) (hn : n ≤ 1048576) (h : p.size ≤ 1200) (hw : (ve == 0) = false) :
    Calls Try.prog 54 #[.iface 115 (.agg #[]), hv 4 bi ve d s t p ra n cap] w fun e w' => e = .returned (.bool false) ∧ Below w.heap.size w w' := by
  have t0 := ta_40
  have t1 := ta_41
  have t2 := ta_42
  have t3 := ta_43
  have t4 := ta_44
  go_enter Try.func54, Try.ntmps54
  go_wp2
  go_ret
  exact ⟨rfl, (Below.refl _ _).alloc (Nat.le_refl _) _⟩

set_option maxHeartbeats 4000000 in
theorem gp_4t (bi : Int) (d s t p : ByteArray) (ra : Option Addr) (n cap : Nat) (w : World) (hp : p.size ≤ 1048576) (hn : n ≤ 1048576) (h : p.size ≤ 1200) (h2 : ¬ t.toList = []) :
    Calls Try.prog 54 #[.iface 115 (.agg #[]), hv 4 bi 0 d s t p ra n cap] w fun e w' => e = .returned (.bool false) ∧ Below w.heap.size w w' := by
  have t0 := ta_40
  have t1 := ta_41
  have t2 := ta_42
  have t3 := ta_43
  have t4 := ta_44
  go_enter Try.func54, Try.ntmps54
  go_wp2
  go_ret
  exact ⟨rfl, (Below.refl _ _).alloc (Nat.le_refl _) _⟩

set_option maxHeartbeats 4000000 in
theorem gp_4p (bi : Int) (d s t p : ByteArray) (ra : Option Addr) (n cap : Nat) (w : World) (hp : p.size ≤ 1048576) (hn : n ≤ 1048576) (h : p.size ≤ 1200) (h2 : t.toList = []) (h3 : ¬ p.toList = []) :
    Calls Try.prog 54 #[.iface 115 (.agg #[]), hv 4 bi 0 d s t p ra n cap] w fun e w' => e = .returned (.bool false) ∧ Below w.heap.size w w' := by
  have t0 := ta_40
  have t1 := ta_41
  have t2 := ta_42
  have t3 := ta_43
  have t4 := ta_44
  go_enter Try.func54, Try.ntmps54
  go_wp2
  go_ret
  exact ⟨rfl, (Below.refl _ _).alloc (Nat.le_refl _) _⟩

set_option maxHeartbeats 4000000 in
theorem gp_4y (bi : Int) (d s t p : ByteArray) (ra : Option Addr) (n cap : Nat) (w : World) (hp : p.size ≤ 1048576) (hn : n ≤ 1048576) (h : p.size ≤ 1200) (h2 : t.toList = []) (h3 : p.toList = []) (V : Nat → Int) (hR : Ia w ra n cap V) :
    Calls Try.prog 54 #[.iface 115 (.agg #[]), hv 4 bi 0 d s t p ra n cap] w fun e w' => e = .returned (.bool (gv 0 n V)) ∧ Below w.heap.size w w' := by
  have HV := hide (fun W (hb : Below w.heap.size w W) => goodVersions_any 0 ra n cap V W (hR.below hb) hn (Or.inl rfl))
  clear hR
  have t0 := ta_40
  have t1 := ta_41
  have t2 := ta_42
  have t3 := ta_43
  have t4 := ta_44
  go_enter Try.func54, Try.ntmps54
  go_wp2_with (go_at_call 46; refine (unhide HV _ ((Below.refl _ _).alloc (Nat.le_refl _) _)).mono ?_; rintro e w' ⟨rfl, rfl⟩)
  go_ret
  exact ⟨rfl, (Below.refl _ _).alloc (Nat.le_refl _) _⟩

set_option maxHeartbeats 4000000 in
theorem gp_5v (bi ve : Int) (d s t p : ByteArray) (ra : Option Addr) (n cap : Nat) (w : World) (hp : p.size ≤ 1048576) (hn : n ≤ 1048576) (h : p.size ≤ 1200) (hw : (ve == 0) = false) :
    Calls Try.prog 54 #[.iface 116 (.agg #[]), hv 5 bi ve d s t p ra n cap] w fun e w' => e = .returned (.bool false) ∧ Below w.heap.size w w' := by
  have t0 := ta_50
  have t1 := ta_51
  have t2 := ta_52
  have t3 := ta_53
  have t4 := ta_54
  go_enter Try.func54, Try.ntmps54
  go_wp2
  go_ret
  exact ⟨rfl, (Below.refl _ _).alloc (Nat.le_refl _) _⟩

set_option maxHeartbeats 4000000 in
theorem gp_5s (bi : Int) (d s t p : ByteArray) (ra : Option Addr) (n cap : Nat) (w : World) (hp : p.size ≤ 1048576) (hn : n ≤ 1048576) (h : p.size ≤ 1200) (h2 : ¬ s.toList = []) :
    Calls Try.prog 54 #[.iface 116 (.agg #[]), hv 5 bi 0 d s t p ra n cap] w fun e w' => e = .returned (.bool false) ∧ Below w.heap.size w w' := by
  have t0 := ta_50
  have t1 := ta_51
  have t2 := ta_52
  have t3 := ta_53
  have t4 := ta_54
  go_enter Try.func54, Try.ntmps54
  go_wp2
  go_ret
  exact ⟨rfl, (Below.refl _ _).alloc (Nat.le_refl _) _⟩

set_option maxHeartbeats 4000000 in
theorem gp_5t (bi : Int) (d s t p : ByteArray) (ra : Option Addr) (n cap : Nat) (w : World) (hp : p.size ≤ 1048576) (hn : n ≤ 1048576) (h : p.size ≤ 1200) (h2 : s.toList = []) (h3 : ¬ t.toList = []) :
    Calls Try.prog 54 #[.iface 116 (.agg #[]), hv 5 bi 0 d s t p ra n cap] w fun e w' => e = .returned (.bool false) ∧ Below w.heap.size w w' := by
  have t0 := ta_50
  have t1 := ta_51
  have t2 := ta_52
  have t3 := ta_53
  have t4 := ta_54
  go_enter Try.func54, Try.ntmps54
  go_wp2
  go_ret
  exact ⟨rfl, (Below.refl _ _).alloc (Nat.le_refl _) _⟩

set_option maxHeartbeats 4000000 in
theorem gp_5n (bi : Int) (d s t p : ByteArray) (ra : Option Addr) (n cap : Nat) (w : World) (hp : p.size ≤ 1048576) (hn : n ≤ 1048576) (h : p.size ≤ 1200) (h2 : s.toList = []) (h3 : t.toList = []) (h4 : ((n : Int) == 0) = false) :
    Calls Try.prog 54 #[.iface 116 (.agg #[]), hv 5 bi 0 d s t p ra n cap] w fun e w' => e = .returned (.bool false) ∧ Below w.heap.size w w' := by
  have t0 := ta_50
  have t1 := ta_51
  have t2 := ta_52
  have t3 := ta_53
  have t4 := ta_54
  go_enter Try.func54, Try.ntmps54
  go_wp2
  go_ret
  exact ⟨rfl, (Below.refl _ _).alloc (Nat.le_refl _) _⟩

set_option maxHeartbeats 4000000 in
theorem gp_5y (bi : Int) (d s t p : ByteArray) (ra : Option Addr) (n cap : Nat) (w : World) (hp : p.size ≤ 1048576) (hn : n ≤ 1048576) (h : p.size ≤ 1200) (h2 : s.toList = []) (h3 : t.toList = []) (h4 : n = 0) :
    Calls Try.prog 54 #[.iface 116 (.agg #[]), hv 5 bi 0 d s t p ra n cap] w fun e w' => e = .returned (.bool true) ∧ Below w.heap.size w w' := by
  have t0 := ta_50
  have t1 := ta_51
  have t2 := ta_52
  have t3 := ta_53
  have t4 := ta_54
  go_enter Try.func54, Try.ntmps54
  go_wp2
  go_ret
  exact ⟨rfl, (Below.refl _ _).alloc (Nat.le_refl _) _⟩

end Go.Proofs.Ytbabipaipbjlbaa
