/-
  Contracts: the model's GoodHeader by cases, whatever slice holds the versions.
-/
import Derived.Test.YtbabipaipbjlbaaGhv
namespace Go.Proofs.Ytbabipaipbjlbaa
open Go.ChangeShapes Go.WideShapes Go.ChangeAt Go.RowKit
set_option linter.unusedVariables false
set_option maxRecDepth 100000

set_option maxHeartbeats 4000000 in
theorem so_token (f bi ve : Int) (d s t p : ByteArray) (ra : Option Addr) (n cap : Nat) (w : World) (c1 : d.size ≤ 20) (c2 : s.size ≤ 20) (c3 : 0 ≤ bi) (c3' : bi ≤ 15) (c4 : t.size ≤ 200) (c5 : p.size ≤ 1200)
    (hf : (f != 0) = true) (ht : ¬ t.toList = []) :
    Calls Try.prog 50 #[hv f bi ve d s t p ra n cap] w fun e w' => e = .returned (.bool false) ∧ Below w.heap.size w w' := by
  go_enter Try.func50, Try.ntmps50
  go_wp2_with ((go_at_call 34; refine (in_yes _ _ _ _ (by omega) (by omega)).mono ?_; rintro e w' ⟨rfl, rfl⟩))
  go_ret
  exact ⟨rfl, (Below.refl _ _).alloc (Nat.le_refl _) _⟩

set_option maxHeartbeats 4000000 in
theorem so_versT (f bi ve : Int) (d s t p : ByteArray) (ra : Option Addr) (n cap : Nat) (w : World) (c1 : d.size ≤ 20) (c2 : s.size ≤ 20) (c3 : 0 ≤ bi) (c3' : bi ≤ 15) (c4 : t.size ≤ 200) (c5 : p.size ≤ 1200)
    (hf0 : (f != 0) = true) (ht : t.toList = []) (hf : (f != 4) = true) (hn : 0 < n) :
    Calls Try.prog 50 #[hv f bi ve d s t p ra n cap] w fun e w' => e = .returned (.bool false) ∧ Below w.heap.size w w' := by
  go_enter Try.func50, Try.ntmps50
  go_wp2_with ((go_at_call 34; refine (in_yes _ _ _ _ (by omega) (by omega)).mono ?_; rintro e w' ⟨rfl, rfl⟩))
  go_ret
  exact ⟨rfl, (Below.refl _ _).alloc (Nat.le_refl _) _⟩

set_option maxHeartbeats 4000000 in
theorem so_vers0 (bi ve : Int) (d s t p : ByteArray) (ra : Option Addr) (n cap : Nat) (w : World) (c1 : d.size ≤ 20) (c2 : s.size ≤ 20) (c3 : 0 ≤ bi) (c3' : bi ≤ 15) (c4 : t.size ≤ 200) (c5 : p.size ≤ 1200)
    (hn : 0 < n) :
    Calls Try.prog 50 #[hv 0 bi ve d s t p ra n cap] w fun e w' => e = .returned (.bool false) ∧ Below w.heap.size w w' := by
  go_enter Try.func50, Try.ntmps50
  go_wp2_with ((go_at_call 34; refine (in_yes _ _ _ _ (by omega) (by omega)).mono ?_; rintro e w' ⟨rfl, rfl⟩))
  go_ret
  exact ⟨rfl, (Below.refl _ _).alloc (Nat.le_refl _) _⟩


set_option maxHeartbeats 4000000 in
theorem so_0v (bi ve : Int) (d s t p : ByteArray) (ra : Option Addr) (n cap : Nat) (w : World) (c1 : d.size ≤ 20) (c2 : s.size ≤ 20) (c3 : 0 ≤ bi) (c3' : bi ≤ 15) (c4 : t.size ≤ 200) (c5 : p.size ≤ 1200)
     (hn : n = 0) (hw : ¬ (1 ≤ ve ∧ ve ≤ 4294967295)) :
    Calls Try.prog 50 #[hv 0 bi ve d s t p ra n cap] w fun e w' => e = .returned (.bool false) ∧ Below w.heap.size w w' := by
  go_enter Try.func50, Try.ntmps50
  go_wp2_with (first | (go_at_call 34; refine (in_yes _ _ _ _ (by omega) (by omega)).mono ?_; rintro e w' ⟨rfl, rfl⟩) | (go_at_call 34; refine (in_no _ _ _ _ (by omega)).mono ?_; rintro e w' ⟨rfl, rfl⟩))
  go_ret
  exact ⟨rfl, (Below.refl _ _).alloc (Nat.le_refl _) _⟩

set_option maxHeartbeats 4000000 in
theorem so_0p (bi ve : Int) (d s t p : ByteArray) (ra : Option Addr) (n cap : Nat) (w : World) (c1 : d.size ≤ 20) (c2 : s.size ≤ 20) (c3 : 0 ≤ bi) (c3' : bi ≤ 15) (c4 : t.size ≤ 200) (c5 : p.size ≤ 1200)
     (hn : n = 0) (hw : 1 ≤ ve) (hw' : ve ≤ 4294967295) (hp : p.toList = []) :
    Calls Try.prog 50 #[hv 0 bi ve d s t p ra n cap] w fun e w' => e = .returned (.bool false) ∧ Below w.heap.size w w' := by
  go_enter Try.func50, Try.ntmps50
  go_wp2_with ((go_at_call 34; refine (in_yes _ _ _ _ (by omega) (by omega)).mono ?_; rintro e w' ⟨rfl, rfl⟩))
  go_ret
  exact ⟨rfl, (Below.refl _ _).alloc (Nat.le_refl _) _⟩

set_option maxHeartbeats 4000000 in
theorem so_0y (bi ve : Int) (d s t p : ByteArray) (ra : Option Addr) (n cap : Nat) (w : World) (c1 : d.size ≤ 20) (c2 : s.size ≤ 20) (c3 : 0 ≤ bi) (c3' : bi ≤ 15) (c4 : t.size ≤ 200) (c5 : p.size ≤ 1200)
     (hn : n = 0) (hw : 1 ≤ ve) (hw' : ve ≤ 4294967295) (hp : p.toList.isEmpty = false) :
    Calls Try.prog 50 #[hv 0 bi ve d s t p ra n cap] w fun e w' => e = .returned (.bool true) ∧ Below w.heap.size w w' := by
  go_enter Try.func50, Try.ntmps50
  go_wp2_with ((go_at_call 34; refine (in_yes _ _ _ _ (by omega) (by omega)).mono ?_; rintro e w' ⟨rfl, rfl⟩))
  go_ret
  exact ⟨rfl, (Below.refl _ _).alloc (Nat.le_refl _) _⟩

set_option maxHeartbeats 4000000 in
theorem so_1v (bi ve : Int) (d s t p : ByteArray) (ra : Option Addr) (n cap : Nat) (w : World) (c1 : d.size ≤ 20) (c2 : s.size ≤ 20) (c3 : 0 ≤ bi) (c3' : bi ≤ 15) (c4 : t.size ≤ 200) (c5 : p.size ≤ 1200)
    (ht : t.toList = []) (hn : n = 0) (hw : ¬ (1 ≤ ve ∧ ve ≤ 4294967295)) :
    Calls Try.prog 50 #[hv 1 bi ve d s t p ra n cap] w fun e w' => e = .returned (.bool false) ∧ Below w.heap.size w w' := by
  go_enter Try.func50, Try.ntmps50
  go_wp2_with (first | (go_at_call 34; refine (in_yes _ _ _ _ (by omega) (by omega)).mono ?_; rintro e w' ⟨rfl, rfl⟩) | (go_at_call 34; refine (in_no _ _ _ _ (by omega)).mono ?_; rintro e w' ⟨rfl, rfl⟩))
  go_ret
  exact ⟨rfl, (Below.refl _ _).alloc (Nat.le_refl _) _⟩

set_option maxHeartbeats 4000000 in
theorem so_1p (bi ve : Int) (d s t p : ByteArray) (ra : Option Addr) (n cap : Nat) (w : World) (c1 : d.size ≤ 20) (c2 : s.size ≤ 20) (c3 : 0 ≤ bi) (c3' : bi ≤ 15) (c4 : t.size ≤ 200) (c5 : p.size ≤ 1200)
    (ht : t.toList = []) (hn : n = 0) (hw : 1 ≤ ve) (hw' : ve ≤ 4294967295) (hp : p.toList = []) :
    Calls Try.prog 50 #[hv 1 bi ve d s t p ra n cap] w fun e w' => e = .returned (.bool false) ∧ Below w.heap.size w w' := by
  go_enter Try.func50, Try.ntmps50
  go_wp2_with ((go_at_call 34; refine (in_yes _ _ _ _ (by omega) (by omega)).mono ?_; rintro e w' ⟨rfl, rfl⟩))
  go_ret
  exact ⟨rfl, (Below.refl _ _).alloc (Nat.le_refl _) _⟩

set_option maxHeartbeats 4000000 in
theorem so_1y (bi ve : Int) (d s t p : ByteArray) (ra : Option Addr) (n cap : Nat) (w : World) (c1 : d.size ≤ 20) (c2 : s.size ≤ 20) (c3 : 0 ≤ bi) (c3' : bi ≤ 15) (c4 : t.size ≤ 200) (c5 : p.size ≤ 1200)
    (ht : t.toList = []) (hn : n = 0) (hw : 1 ≤ ve) (hw' : ve ≤ 4294967295) (hp : p.toList.isEmpty = false) :
    Calls Try.prog 50 #[hv 1 bi ve d s t p ra n cap] w fun e w' => e = .returned (.bool true) ∧ Below w.heap.size w w' := by
  go_enter Try.func50, Try.ntmps50
  go_wp2_with ((go_at_call 34; refine (in_yes _ _ _ _ (by omega) (by omega)).mono ?_; rintro e w' ⟨rfl, rfl⟩))
  go_ret
  exact ⟨rfl, (Below.refl _ _).alloc (Nat.le_refl _) _⟩

set_option maxHeartbeats 4000000 in
theorem so_2v (bi ve : Int) (d s t p : ByteArray) (ra : Option Addr) (n cap : Nat) (w : World) (c1 : d.size ≤ 20) (c2 : s.size ≤ 20) (c3 : 0 ≤ bi) (c3' : bi ≤ 15) (c4 : t.size ≤ 200) (c5 : p.size ≤ 1200)
    (ht : t.toList = []) (hn : n = 0) (hw : ¬ (1 ≤ ve ∧ ve ≤ 4294967295)) :
    Calls Try.prog 50 #[hv 2 bi ve d s t p ra n cap] w fun e w' => e = .returned (.bool false) ∧ Below w.heap.size w w' := by
  go_enter Try.func50, Try.ntmps50
  go_wp2_with (first | (go_at_call 34; refine (in_yes _ _ _ _ (by omega) (by omega)).mono ?_; rintro e w' ⟨rfl, rfl⟩) | (go_at_call 34; refine (in_no _ _ _ _ (by omega)).mono ?_; rintro e w' ⟨rfl, rfl⟩))
  go_ret
  exact ⟨rfl, (Below.refl _ _).alloc (Nat.le_refl _) _⟩

set_option maxHeartbeats 4000000 in
theorem so_2p (bi ve : Int) (d s t p : ByteArray) (ra : Option Addr) (n cap : Nat) (w : World) (c1 : d.size ≤ 20) (c2 : s.size ≤ 20) (c3 : 0 ≤ bi) (c3' : bi ≤ 15) (c4 : t.size ≤ 200) (c5 : p.size ≤ 1200)
    (ht : t.toList = []) (hn : n = 0) (hw : 1 ≤ ve) (hw' : ve ≤ 4294967295) (hp : p.toList = []) :
    Calls Try.prog 50 #[hv 2 bi ve d s t p ra n cap] w fun e w' => e = .returned (.bool false) ∧ Below w.heap.size w w' := by
  go_enter Try.func50, Try.ntmps50
  go_wp2_with ((go_at_call 34; refine (in_yes _ _ _ _ (by omega) (by omega)).mono ?_; rintro e w' ⟨rfl, rfl⟩))
  go_ret
  exact ⟨rfl, (Below.refl _ _).alloc (Nat.le_refl _) _⟩

set_option maxHeartbeats 4000000 in
theorem so_2y (bi ve : Int) (d s t p : ByteArray) (ra : Option Addr) (n cap : Nat) (w : World) (c1 : d.size ≤ 20) (c2 : s.size ≤ 20) (c3 : 0 ≤ bi) (c3' : bi ≤ 15) (c4 : t.size ≤ 200) (c5 : p.size ≤ 1200)
    (ht : t.toList = []) (hn : n = 0) (hw : 1 ≤ ve) (hw' : ve ≤ 4294967295) (hp : p.toList.isEmpty = false) :
    Calls Try.prog 50 #[hv 2 bi ve d s t p ra n cap] w fun e w' => e = .returned (.bool true) ∧ Below w.heap.size w w' := by
  go_enter Try.func50, Try.ntmps50
  go_wp2_with ((go_at_call 34; refine (in_yes _ _ _ _ (by omega) (by omega)).mono ?_; rintro e w' ⟨rfl, rfl⟩))
  go_ret
  exact ⟨rfl, (Below.refl _ _).alloc (Nat.le_refl _) _⟩

set_option maxHeartbeats 4000000 in
theorem so_3v (bi ve : Int) (d s t p : ByteArray) (ra : Option Addr) (n cap : Nat) (w : World) (c1 : d.size ≤ 20) (c2 : s.size ≤ 20) (c3 : 0 ≤ bi) (c3' : bi ≤ 15) (c4 : t.size ≤ 200) (c5 : p.size ≤ 1200)
    (ht : t.toList = []) (hn : n = 0) (hw : ¬ (1 ≤ ve ∧ ve ≤ 4294967295)) :
    Calls Try.prog 50 #[hv 3 bi ve d s t p ra n cap] w fun e w' => e = .returned (.bool false) ∧ Below w.heap.size w w' := by
  go_enter Try.func50, Try.ntmps50
  go_wp2_with (first | (go_at_call 34; refine (in_yes _ _ _ _ (by omega) (by omega)).mono ?_; rintro e w' ⟨rfl, rfl⟩) | (go_at_call 34; refine (in_no _ _ _ _ (by omega)).mono ?_; rintro e w' ⟨rfl, rfl⟩))
  go_ret
  exact ⟨rfl, (Below.refl _ _).alloc (Nat.le_refl _) _⟩

set_option maxHeartbeats 4000000 in
theorem so_3p (bi ve : Int) (d s t p : ByteArray) (ra : Option Addr) (n cap : Nat) (w : World) (c1 : d.size ≤ 20) (c2 : s.size ≤ 20) (c3 : 0 ≤ bi) (c3' : bi ≤ 15) (c4 : t.size ≤ 200) (c5 : p.size ≤ 1200)
    (ht : t.toList = []) (hn : n = 0) (hw : 1 ≤ ve) (hw' : ve ≤ 4294967295) (hp : p.toList = []) :
    Calls Try.prog 50 #[hv 3 bi ve d s t p ra n cap] w fun e w' => e = .returned (.bool false) ∧ Below w.heap.size w w' := by
  go_enter Try.func50, Try.ntmps50
  go_wp2_with ((go_at_call 34; refine (in_yes _ _ _ _ (by omega) (by omega)).mono ?_; rintro e w' ⟨rfl, rfl⟩))
  go_ret
  exact ⟨rfl, (Below.refl _ _).alloc (Nat.le_refl _) _⟩

set_option maxHeartbeats 4000000 in
theorem so_3y (bi ve : Int) (d s t p : ByteArray) (ra : Option Addr) (n cap : Nat) (w : World) (c1 : d.size ≤ 20) (c2 : s.size ≤ 20) (c3 : 0 ≤ bi) (c3' : bi ≤ 15) (c4 : t.size ≤ 200) (c5 : p.size ≤ 1200)
    (ht : t.toList = []) (hn : n = 0) (hw : 1 ≤ ve) (hw' : ve ≤ 4294967295) (hp : p.toList.isEmpty = false) :
    Calls Try.prog 50 #[hv 3 bi ve d s t p ra n cap] w fun e w' => e = .returned (.bool true) ∧ Below w.heap.size w w' := by
  go_enter Try.func50, Try.ntmps50
  go_wp2_with ((go_at_call 34; refine (in_yes _ _ _ _ (by omega) (by omega)).mono ?_; rintro e w' ⟨rfl, rfl⟩))
  go_ret
  exact ⟨rfl, (Below.refl _ _).alloc (Nat.le_refl _) _⟩


set_option maxHeartbeats 4000000 in
theorem so_5s (bi ve : Int) (d s t p : ByteArray) (ra : Option Addr) (n cap : Nat) (w : World) (c1 : d.size ≤ 20) (c2 : s.size ≤ 20) (c3 : 0 ≤ bi) (c3' : bi ≤ 15) (c4 : t.size ≤ 200) (c5 : p.size ≤ 1200)
    (ht : t.toList = []) (hn : n = 0) (hs : ¬ s.toList = []) :
    Calls Try.prog 50 #[hv 5 bi ve d s t p ra n cap] w fun e w' => e = .returned (.bool false) ∧ Below w.heap.size w w' := by
  go_enter Try.func50, Try.ntmps50
  go_wp2_with ((go_at_call 34; refine (in_yes _ _ _ _ (by omega) (by omega)).mono ?_; rintro e w' ⟨rfl, rfl⟩))
  go_ret
  exact ⟨rfl, (Below.refl _ _).alloc (Nat.le_refl _) _⟩

set_option maxHeartbeats 4000000 in
theorem so_5v (bi ve : Int) (d s t p : ByteArray) (ra : Option Addr) (n cap : Nat) (w : World) (c1 : d.size ≤ 20) (c2 : s.size ≤ 20) (c3 : 0 ≤ bi) (c3' : bi ≤ 15) (c4 : t.size ≤ 200) (c5 : p.size ≤ 1200)
    (ht : t.toList = []) (hn : n = 0) (hs : s.toList = []) (hw : (ve == 0) = false) :
    Calls Try.prog 50 #[hv 5 bi ve d s t p ra n cap] w fun e w' => e = .returned (.bool false) ∧ Below w.heap.size w w' := by
  go_enter Try.func50, Try.ntmps50
  go_wp2_with ((go_at_call 34; refine (in_yes _ _ _ _ (by omega) (by omega)).mono ?_; rintro e w' ⟨rfl, rfl⟩))
  go_ret
  exact ⟨rfl, (Below.refl _ _).alloc (Nat.le_refl _) _⟩

set_option maxHeartbeats 4000000 in
theorem so_5y (bi : Int) (d s t p : ByteArray) (ra : Option Addr) (n cap : Nat) (w : World) (c1 : d.size ≤ 20) (c2 : s.size ≤ 20) (c3 : 0 ≤ bi) (c3' : bi ≤ 15) (c4 : t.size ≤ 200) (c5 : p.size ≤ 1200)
    (ht : t.toList = []) (hn : n = 0) (hs : s.toList = []) :
    Calls Try.prog 50 #[hv 5 bi 0 d s t p ra n cap] w fun e w' => e = .returned (.bool true) ∧ Below w.heap.size w w' := by
  go_enter Try.func50, Try.ntmps50
  go_wp2_with ((go_at_call 34; refine (in_yes _ _ _ _ (by omega) (by omega)).mono ?_; rintro e w' ⟨rfl, rfl⟩))
  go_ret
  exact ⟨rfl, (Below.refl _ _).alloc (Nat.le_refl _) _⟩

set_option maxHeartbeats 4000000 in
theorem so_other (f bi ve : Int) (d s t p : ByteArray) (ra : Option Addr) (n cap : Nat) (w : World) (c1 : d.size ≤ 20) (c2 : s.size ≤ 20) (c3 : 0 ≤ bi) (c3' : bi ≤ 15) (c4 : t.size ≤ 200) (c5 : p.size ≤ 1200)
    (ht : t.toList = []) (hn : n = 0) (n0 : (f != 0) = true) (n4 : (f != 4) = true) (e0 : (f == 0) = false) (e1 : (f == 1) = false) (e2 : (f == 2) = false) (e3 : (f == 3) = false) (e4 : (f == 4) = false) (e5 : (f == 5) = false) :
    Calls Try.prog 50 #[hv f bi ve d s t p ra n cap] w fun e w' => e = .returned (.bool false) ∧ Below w.heap.size w w' := by
  go_enter Try.func50, Try.ntmps50
  go_wp2_with ((go_at_call 34; refine (in_yes _ _ _ _ (by omega) (by omega)).mono ?_; rintro e w' ⟨rfl, rfl⟩))
  go_ret
  exact ⟨rfl, (Below.refl _ _).alloc (Nat.le_refl _) _⟩


end Go.Proofs.Ytbabipaipbjlbaa
