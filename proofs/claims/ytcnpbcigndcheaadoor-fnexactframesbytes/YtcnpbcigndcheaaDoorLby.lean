/-
  Contracts: a frame's bytes, as the model writes them.
-/
import Derived.Test.YtcnpbcigndcheaaDoorFix
import Derived.Test.YtcnpbcigndcheaaDoorGfj
import Derived.Deep.RegionHeld3
namespace Go.Proofs.YtcnpbcigndcheaaDoor
open Go.ChangeShapes Go.WideShapes Go.ChangeAt Go.RowKit
set_option linter.unusedVariables false

/-- a number's bytes, as a text -/
def VB (n : Int) : ByteArray := ⟨(vb n).toArray⟩
theorem VB_le (n : Int) : (VB n).size ≤ 8 := by
  have h1 := vb_length n
  have h2 := vsz_le n
  have : (VB n).size = (vb n).length := by simp [VB, ByteArray.size]
  omega
theorem VB_list (n : Int) : (VB n).data.toList = vb n := rfl
theorem l1Var_VB (n : Int) (w : World) (h0 : 0 ≤ n) (h1 : n ≤ 4611686018427387903) :
    Calls Tryd.prog 21 #[.int .i64 n] w fun e w' => e = .returned (.string (VB n)) ∧ Below w.heap.size w w' := l1Var_any n w h0 h1

/-- a number's lowest byte, as a text -/
def VF (n : Int) : ByteArray := ⟨(fx n 1 1).toArray⟩
theorem VF_size (n : Int) : (VF n).size = 1 := by simp [VF, ByteArray.size, fx_length]
theorem VF_list (n : Int) : (VF n).data.toList = fx n 1 1 := rfl
theorem l1Fixed_VF (n : Int) (w : World) (hn : -9223372036854775808 ≤ n ∧ n ≤ 9223372036854775807) :
    Calls Tryd.prog 22 #[.int .i64 n, .int .i64 1] w fun e w' => e = .returned (.string (VF n)) ∧ Below w.heap.size w w' := l1Fixed_any n 1 w (by omega) hn
/-- What holds of the world as long as the frame's own copy (the first new block) stands. -/
abbrev Bx (w : World) (k a b c : Int) (fin : Bool) (s : ByteArray) (g off n cap : Nat) (W : World) : Prop :=
  W.cell? ⟨w.heap.size, 0, none⟩ = some (.int .i64 k) ∧ W.cell? ⟨w.heap.size, 1, none⟩ = some (.int .i64 a) ∧ W.cell? ⟨w.heap.size, 2, none⟩ = some (.int .i64 b) ∧ W.cell? ⟨w.heap.size, 3, none⟩ = some (.int .i64 c) ∧
  W.cell? ⟨w.heap.size, 4, none⟩ = some (.bool fin) ∧ W.cell? ⟨w.heap.size, 5, none⟩ = some (.string s) ∧ W.cell? ⟨w.heap.size, 6, none⟩ = some (.slice (some ⟨g, off, none⟩) n cap) ∧ w.heap.size < W.heap.size ∧ Below w.heap.size w W
section
variable {w : World} {k a b c : Int} {fin : Bool} {s : ByteArray} {g off n cap : Nat} {W W' : World}
theorem bx_step (hb : Below W.heap.size W W') (h : Bx w k a b c fin s g off n cap W) : Bx w k a b c fin s g off n cap W' := by
  obtain ⟨h0, h1, h2, h3, h4, h5, h6, h7, h8⟩ := h
  exact ⟨(hb.cell (p := ⟨w.heap.size, 0, none⟩) h7).trans h0, (hb.cell (p := ⟨w.heap.size, 1, none⟩) h7).trans h1, (hb.cell (p := ⟨w.heap.size, 2, none⟩) h7).trans h2, (hb.cell (p := ⟨w.heap.size, 3, none⟩) h7).trans h3, (hb.cell (p := ⟨w.heap.size, 4, none⟩) h7).trans h4, (hb.cell (p := ⟨w.heap.size, 5, none⟩) h7).trans h5, (hb.cell (p := ⟨w.heap.size, 6, none⟩) h7).trans h6, Nat.lt_of_lt_of_le h7 hb.size, h8.trans (hb.mono (Nat.le_of_lt h7))⟩
theorem bx_drew (h : Bx w k a b c fin s g off n cap W) : Bx w k a b c fin s g off n cap W.drew := by
  obtain ⟨h0, h1, h2, h3, h4, h5, h6, h7, h8⟩ := h
  exact ⟨h0, h1, h2, h3, h4, h5, h6, h7, h8.drew⟩
theorem bx_first (t : TypeId) : Bx w k a b c fin s g off n cap (w.alloc (.cells #[.int .i64 k, .int .i64 a, .int .i64 b, .int .i64 c, .bool fin, .string s, .slice (some ⟨g, off, none⟩) n cap] t)) := by
  refine ⟨?_, ?_, ?_, ?_, ?_, ?_, ?_, ?_, (Below.refl _ _).alloc (Nat.le_refl _) _⟩ <;> simp
end


set_option maxRecDepth 100000 in
set_option maxHeartbeats 2000000 in
theorem l1Bytes_0 (s : ByteArray) (g off n cap : Nat) (w : World) (hs : s.size ≤ 1048576) :
    Calls Tryd.prog 11 #[fv 0 0 0 0 false s g off n cap] w fun e w' => e = .returned (.string (VB 0)) ∧ Below w.heap.size w w' := by
  have z1 := VB_le 0
  have z2 := VB_le s.size
  have ad0 := fun W : World => run_string_add_sum (P := Tryd.prog) (w := W) (VB s.size) s (by omega)
  have X0 := hide (bx_first (w := w) (k := 0) (a := 0) (b := 0) (c := 0) (fin := false) (s := s) (g := g) (off := off) (n := n) (cap := cap) 36)
  go_enter Tryd.func11, Tryd.ntmps11
  go_wp2_with fail
  refine (l1Var_VB _ _ (by omega) (by omega)).mono ?_
  rintro e w1 ⟨rfl, hb1⟩
  have X1 := bx_step hb1 (unhide X0)
  clear hb1
  go_wp2_with fail
  go_region_held3 (fun W => Bx w 0 0 0 0 false s g off n cap W) (first | assumption | exact bx_step hb2 (by assumption) | exact bx_drew X1) (first | (go_at_call 21; refine (l1Var_VB _ _ (by omega) (by omega)).mono ?_; rintro e w2 ⟨rfl, hb2⟩))
  have X2 := bx_step hb2 (bx_drew X1)
  clear hb2
  go_wp2
  go_ret
  exact ⟨rfl, X2.2.2.2.2.2.2.2.2⟩

set_option maxRecDepth 100000 in
set_option maxHeartbeats 2000000 in
theorem l1Bytes_1 (s : ByteArray) (g off n cap : Nat) (w : World) (hs : s.size ≤ 1048576) :
    Calls Tryd.prog 11 #[fv 1 0 0 0 false s g off n cap] w fun e w' => e = .returned (.string (VB 1)) ∧ Below w.heap.size w w' := by
  have z1 := VB_le 1
  have z2 := VB_le s.size
  have ad0 := fun W : World => run_string_add_sum (P := Tryd.prog) (w := W) (VB s.size) s (by omega)
  have X0 := hide (bx_first (w := w) (k := 1) (a := 0) (b := 0) (c := 0) (fin := false) (s := s) (g := g) (off := off) (n := n) (cap := cap) 36)
  go_enter Tryd.func11, Tryd.ntmps11
  go_wp2_with fail
  refine (l1Var_VB _ _ (by omega) (by omega)).mono ?_
  rintro e w1 ⟨rfl, hb1⟩
  have X1 := bx_step hb1 (unhide X0)
  clear hb1
  go_wp2_with fail
  go_region_held3 (fun W => Bx w 1 0 0 0 false s g off n cap W) (first | assumption | exact bx_step hb2 (by assumption) | exact bx_drew X1) (first | (go_at_call 21; refine (l1Var_VB _ _ (by omega) (by omega)).mono ?_; rintro e w2 ⟨rfl, hb2⟩))
  have X2 := bx_step hb2 (bx_drew X1)
  clear hb2
  go_wp2
  go_ret
  exact ⟨rfl, X2.2.2.2.2.2.2.2.2⟩

set_option maxRecDepth 100000 in
set_option maxHeartbeats 2000000 in
theorem l1Bytes_16 (a : Int) (s : ByteArray) (g off n cap : Nat) (w : World) (hs : s.size ≤ 1048576) (ha0 : 0 ≤ a) (ha1 : a ≤ 4611686018427387903) :
    Calls Tryd.prog 11 #[fv 16 a 0 0 false s g off n cap] w fun e w' => e = .returned (.string (VB 16 ++ VB a)) ∧ Below w.heap.size w w' := by
  have z1 := VB_le 16
  have z2 := VB_le s.size
  have ad0 := fun W : World => run_string_add_sum (P := Tryd.prog) (w := W) (VB s.size) s (by omega)
  have y0 := VB_le a
  have ad1 := fun W : World => run_string_add_sum (P := Tryd.prog) (w := W) (VB 16) (VB a) (by (try simp only [ByteArray.size_append]); omega)
  have X0 := hide (bx_first (w := w) (k := 16) (a := a) (b := 0) (c := 0) (fin := false) (s := s) (g := g) (off := off) (n := n) (cap := cap) 36)
  go_enter Tryd.func11, Tryd.ntmps11
  go_wp2_with fail
  refine (l1Var_VB _ _ (by omega) (by omega)).mono ?_
  rintro e w1 ⟨rfl, hb1⟩
  have X1 := bx_step hb1 (unhide X0)
  clear hb1
  go_wp2_with fail
  go_region_held3 (fun W => Bx w 16 a 0 0 false s g off n cap W) (first | assumption | exact bx_step hb2 (by assumption) | exact bx_drew X1) (first | (go_at_call 21; refine (l1Var_VB _ _ (by omega) (by omega)).mono ?_; rintro e w2 ⟨rfl, hb2⟩))
  have X2 := bx_step hb2 (bx_drew X1)
  clear hb2
  go_wp2_with (first | (go_at_call 21; refine (l1Var_VB _ _ (by omega) (by omega)).mono ?_; rintro e w3 ⟨rfl, hb3⟩))
  go_ret
  exact ⟨rfl, (bx_step hb3 X2).2.2.2.2.2.2.2.2⟩

set_option maxRecDepth 100000 in
set_option maxHeartbeats 2000000 in
theorem l1Bytes_17 (a b : Int) (s : ByteArray) (g off n cap : Nat) (w : World) (hs : s.size ≤ 1048576) (ha0 : 0 ≤ a) (ha1 : a ≤ 4611686018427387903) (hb0 : 0 ≤ b) (hb1 : b ≤ 4611686018427387903) :
    Calls Tryd.prog 11 #[fv 17 a b 0 false s g off n cap] w fun e w' => e = .returned (.string (VB 17 ++ VB a ++ VB b)) ∧ Below w.heap.size w w' := by
  have z1 := VB_le 17
  have z2 := VB_le s.size
  have ad0 := fun W : World => run_string_add_sum (P := Tryd.prog) (w := W) (VB s.size) s (by omega)
  have y0 := VB_le a
  have y1 := VB_le b
  have ad1 := fun W : World => run_string_add_sum (P := Tryd.prog) (w := W) (VB 17) (VB a) (by (try simp only [ByteArray.size_append]); omega)
  have ad2 := fun W : World => run_string_add_sum (P := Tryd.prog) (w := W) (VB 17 ++ VB a) (VB b) (by (try simp only [ByteArray.size_append]); omega)
  have X0 := hide (bx_first (w := w) (k := 17) (a := a) (b := b) (c := 0) (fin := false) (s := s) (g := g) (off := off) (n := n) (cap := cap) 36)
  go_enter Tryd.func11, Tryd.ntmps11
  go_wp2_with fail
  refine (l1Var_VB _ _ (by omega) (by omega)).mono ?_
  rintro e w1 ⟨rfl, hb1⟩
  have X1 := bx_step hb1 (unhide X0)
  clear hb1
  go_wp2_with fail
  go_region_held3 (fun W => Bx w 17 a b 0 false s g off n cap W) (first | assumption | exact bx_step hb2 (by assumption) | exact bx_drew X1) (first | (go_at_call 21; refine (l1Var_VB _ _ (by omega) (by omega)).mono ?_; rintro e w2 ⟨rfl, hb2⟩))
  have X2 := bx_step hb2 (bx_drew X1)
  clear hb2
  clear X1
  go_wp2_with fail
  go_region_held3 (fun W => Bx w 17 a b 0 false s g off n cap W) (first | assumption | exact bx_step hb3 (by assumption) | exact bx_drew X2) (first | (go_at_call 21; refine (l1Var_VB _ _ (by omega) (by omega)).mono ?_; rintro e w3 ⟨rfl, hb3⟩))
  all_goals
    rename_i hHeld
    go_wp2
    go_ret
    exact ⟨rfl, hHeld.2.2.2.2.2.2.2.2⟩

set_option maxRecDepth 100000 in
set_option maxHeartbeats 2000000 in
theorem l1Bytes_5 (a b : Int) (s : ByteArray) (g off n cap : Nat) (w : World) (hs : s.size ≤ 1048576) (ha0 : 0 ≤ a) (ha1 : a ≤ 4611686018427387903) (hb0 : 0 ≤ b) (hb1 : b ≤ 4611686018427387903) :
    Calls Tryd.prog 11 #[fv 5 a b 0 false s g off n cap] w fun e w' => e = .returned (.string (VB 5 ++ VB a ++ VB b)) ∧ Below w.heap.size w w' := by
  have z1 := VB_le 5
  have z2 := VB_le s.size
  have ad0 := fun W : World => run_string_add_sum (P := Tryd.prog) (w := W) (VB s.size) s (by omega)
  have y0 := VB_le a
  have y1 := VB_le b
  have ad1 := fun W : World => run_string_add_sum (P := Tryd.prog) (w := W) (VB 5) (VB a) (by (try simp only [ByteArray.size_append]); omega)
  have ad2 := fun W : World => run_string_add_sum (P := Tryd.prog) (w := W) (VB 5 ++ VB a) (VB b) (by (try simp only [ByteArray.size_append]); omega)
  have X0 := hide (bx_first (w := w) (k := 5) (a := a) (b := b) (c := 0) (fin := false) (s := s) (g := g) (off := off) (n := n) (cap := cap) 36)
  go_enter Tryd.func11, Tryd.ntmps11
  go_wp2_with fail
  refine (l1Var_VB _ _ (by omega) (by omega)).mono ?_
  rintro e w1 ⟨rfl, hb1⟩
  have X1 := bx_step hb1 (unhide X0)
  clear hb1
  go_wp2_with fail
  go_region_held3 (fun W => Bx w 5 a b 0 false s g off n cap W) (first | assumption | exact bx_step hb2 (by assumption) | exact bx_drew X1) (first | (go_at_call 21; refine (l1Var_VB _ _ (by omega) (by omega)).mono ?_; rintro e w2 ⟨rfl, hb2⟩))
  have X2 := bx_step hb2 (bx_drew X1)
  clear hb2
  clear X1
  go_wp2_with fail
  go_region_held3 (fun W => Bx w 5 a b 0 false s g off n cap W) (first | assumption | exact bx_step hb3 (by assumption) | exact bx_drew X2) (first | (go_at_call 21; refine (l1Var_VB _ _ (by omega) (by omega)).mono ?_; rintro e w3 ⟨rfl, hb3⟩))
  all_goals
    rename_i hHeld
    go_wp2
    go_ret
    exact ⟨rfl, hHeld.2.2.2.2.2.2.2.2⟩

set_option maxRecDepth 100000 in
set_option maxHeartbeats 2000000 in
theorem l1Bytes_4 (a b c : Int) (s : ByteArray) (g off n cap : Nat) (w : World) (hs : s.size ≤ 1048576) (ha0 : 0 ≤ a) (ha1 : a ≤ 4611686018427387903) (hb0 : 0 ≤ b) (hb1 : b ≤ 4611686018427387903) (hc0 : 0 ≤ c) (hc1 : c ≤ 4611686018427387903) :
    Calls Tryd.prog 11 #[fv 4 a b c false s g off n cap] w fun e w' => e = .returned (.string (VB 4 ++ VB a ++ VB b ++ VB c)) ∧ Below w.heap.size w w' := by
  have z1 := VB_le 4
  have z2 := VB_le s.size
  have ad0 := fun W : World => run_string_add_sum (P := Tryd.prog) (w := W) (VB s.size) s (by omega)
  have y0 := VB_le a
  have y1 := VB_le b
  have y2 := VB_le c
  have ad1 := fun W : World => run_string_add_sum (P := Tryd.prog) (w := W) (VB 4) (VB a) (by (try simp only [ByteArray.size_append]); omega)
  have ad2 := fun W : World => run_string_add_sum (P := Tryd.prog) (w := W) (VB 4 ++ VB a) (VB b) (by (try simp only [ByteArray.size_append]); omega)
  have ad3 := fun W : World => run_string_add_sum (P := Tryd.prog) (w := W) (VB 4 ++ VB a ++ VB b) (VB c) (by (try simp only [ByteArray.size_append]); omega)
  have X0 := hide (bx_first (w := w) (k := 4) (a := a) (b := b) (c := c) (fin := false) (s := s) (g := g) (off := off) (n := n) (cap := cap) 36)
  go_enter Tryd.func11, Tryd.ntmps11
  go_wp2_with fail
  refine (l1Var_VB _ _ (by omega) (by omega)).mono ?_
  rintro e w1 ⟨rfl, hb1⟩
  have X1 := bx_step hb1 (unhide X0)
  clear hb1
  go_wp2_with fail
  go_region_held3 (fun W => Bx w 4 a b c false s g off n cap W) (first | assumption | exact bx_step hb2 (by assumption) | exact bx_drew X1) (first | (go_at_call 21; refine (l1Var_VB _ _ (by omega) (by omega)).mono ?_; rintro e w2 ⟨rfl, hb2⟩))
  have X2 := bx_step hb2 (bx_drew X1)
  clear hb2
  clear X1
  go_wp2_with fail
  go_region_held3 (fun W => Bx w 4 a b c false s g off n cap W) (first | assumption | exact bx_step hb3 (by assumption) | exact bx_drew X2) (first | (go_at_call 21; refine (l1Var_VB _ _ (by omega) (by omega)).mono ?_; rintro e w3 ⟨rfl, hb3⟩))
  all_goals
    rename_i hHeld
    go_wp2
    go_ret
    exact ⟨rfl, hHeld.2.2.2.2.2.2.2.2⟩

set_option maxRecDepth 100000 in
set_option maxHeartbeats 2000000 in
theorem l1Bytes_28 (a b : Int) (s : ByteArray) (g off n cap : Nat) (w : World) (hs : s.size ≤ 1048576) (ha0 : 0 ≤ a) (ha1 : a ≤ 4611686018427387903) (hb0 : 0 ≤ b) (hb1 : b ≤ 4611686018427387903) :
    Calls Tryd.prog 11 #[fv 28 a b 0 false s g off n cap] w fun e w' => e = .returned (.string (VB 28 ++ VB a ++ VB b ++ (VB s.size ++ s))) ∧ Below w.heap.size w w' := by
  have z1 := VB_le 28
  have z2 := VB_le s.size
  have ad0 := fun W : World => run_string_add_sum (P := Tryd.prog) (w := W) (VB s.size) s (by omega)
  have y0 := VB_le a
  have y1 := VB_le b
  have ad1 := fun W : World => run_string_add_sum (P := Tryd.prog) (w := W) (VB 28) (VB a) (by (try simp only [ByteArray.size_append]); omega)
  have ad2 := fun W : World => run_string_add_sum (P := Tryd.prog) (w := W) (VB 28 ++ VB a) (VB b) (by (try simp only [ByteArray.size_append]); omega)
  have ad3 := fun W : World => run_string_add_sum (P := Tryd.prog) (w := W) (VB 28 ++ VB a ++ VB b) ((VB s.size ++ s)) (by (try simp only [ByteArray.size_append]); omega)
  have X0 := hide (bx_first (w := w) (k := 28) (a := a) (b := b) (c := 0) (fin := false) (s := s) (g := g) (off := off) (n := n) (cap := cap) 36)
  go_enter Tryd.func11, Tryd.ntmps11
  go_wp2_with fail
  refine (l1Var_VB _ _ (by omega) (by omega)).mono ?_
  rintro e w1 ⟨rfl, hb1⟩
  have X1 := bx_step hb1 (unhide X0)
  clear hb1
  go_wp2_with fail
  go_region_held3 (fun W => Bx w 28 a b 0 false s g off n cap W) (first | assumption | exact bx_step hb2 (by assumption) | exact bx_drew X1) (first | (go_at_call 21; refine (l1Var_VB _ _ (by omega) (by omega)).mono ?_; rintro e w2 ⟨rfl, hb2⟩))
  have X2 := bx_step hb2 (bx_drew X1)
  clear hb2
  clear X1
  go_wp2_with fail
  go_region_held3 (fun W => Bx w 28 a b 0 false s g off n cap W) (first | assumption | exact bx_step hb3 (by assumption) | exact bx_drew X2) (first | (go_at_call 21; refine (l1Var_VB _ _ (by omega) (by omega)).mono ?_; rintro e w3 ⟨rfl, hb3⟩))
  all_goals
    rename_i hHeld
    go_wp2
    go_ret
    exact ⟨rfl, hHeld.2.2.2.2.2.2.2.2⟩

set_option maxRecDepth 100000 in
set_option maxHeartbeats 2000000 in
theorem l1Bytes_6 (a : Int) (s : ByteArray) (g off n cap : Nat) (w : World) (hs : s.size ≤ 1048576) (ha0 : 0 ≤ a) (ha1 : a ≤ 4611686018427387903) :
    Calls Tryd.prog 11 #[fv 6 a 0 0 false s g off n cap] w fun e w' => e = .returned (.string (VB 6 ++ VB a ++ (VB s.size ++ s))) ∧ Below w.heap.size w w' := by
  have z1 := VB_le 6
  have z2 := VB_le s.size
  have ad0 := fun W : World => run_string_add_sum (P := Tryd.prog) (w := W) (VB s.size) s (by omega)
  have y0 := VB_le a
  have ad1 := fun W : World => run_string_add_sum (P := Tryd.prog) (w := W) (VB 6) (VB a) (by (try simp only [ByteArray.size_append]); omega)
  have ad2 := fun W : World => run_string_add_sum (P := Tryd.prog) (w := W) (VB 6 ++ VB a) ((VB s.size ++ s)) (by (try simp only [ByteArray.size_append]); omega)
  have X0 := hide (bx_first (w := w) (k := 6) (a := a) (b := 0) (c := 0) (fin := false) (s := s) (g := g) (off := off) (n := n) (cap := cap) 36)
  go_enter Tryd.func11, Tryd.ntmps11
  go_wp2_with fail
  refine (l1Var_VB _ _ (by omega) (by omega)).mono ?_
  rintro e w1 ⟨rfl, hb1⟩
  have X1 := bx_step hb1 (unhide X0)
  clear hb1
  go_wp2_with fail
  go_region_held3 (fun W => Bx w 6 a 0 0 false s g off n cap W) (first | assumption | exact bx_step hb2 (by assumption) | exact bx_drew X1) (first | (go_at_call 21; refine (l1Var_VB _ _ (by omega) (by omega)).mono ?_; rintro e w2 ⟨rfl, hb2⟩))
  have X2 := bx_step hb2 (bx_drew X1)
  clear hb2
  go_wp2_with (first | (go_at_call 21; refine (l1Var_VB _ _ (by omega) (by omega)).mono ?_; rintro e w3 ⟨rfl, hb3⟩))
  go_ret
  exact ⟨rfl, (bx_step hb3 X2).2.2.2.2.2.2.2.2⟩

set_option maxRecDepth 100000 in
set_option maxHeartbeats 2000000 in
theorem l1Bytes_7 (s : ByteArray) (g off n cap : Nat) (w : World) (hs : s.size ≤ 1048576) :
    Calls Tryd.prog 11 #[fv 7 0 0 0 false s g off n cap] w fun e w' => e = .returned (.string (VB 7 ++ (VB s.size ++ s))) ∧ Below w.heap.size w w' := by
  have z1 := VB_le 7
  have z2 := VB_le s.size
  have ad0 := fun W : World => run_string_add_sum (P := Tryd.prog) (w := W) (VB s.size) s (by omega)
  have ad1 := fun W : World => run_string_add_sum (P := Tryd.prog) (w := W) (VB 7) ((VB s.size ++ s)) (by (try simp only [ByteArray.size_append]); omega)
  have X0 := hide (bx_first (w := w) (k := 7) (a := 0) (b := 0) (c := 0) (fin := false) (s := s) (g := g) (off := off) (n := n) (cap := cap) 36)
  go_enter Tryd.func11, Tryd.ntmps11
  go_wp2_with fail
  refine (l1Var_VB _ _ (by omega) (by omega)).mono ?_
  rintro e w1 ⟨rfl, hb1⟩
  have X1 := bx_step hb1 (unhide X0)
  clear hb1
  go_wp2_with fail
  go_region_held3 (fun W => Bx w 7 0 0 0 false s g off n cap W) (first | assumption | exact bx_step hb2 (by assumption) | exact bx_drew X1) (first | (go_at_call 21; refine (l1Var_VB _ _ (by omega) (by omega)).mono ?_; rintro e w2 ⟨rfl, hb2⟩))
  have X2 := bx_step hb2 (bx_drew X1)
  clear hb2
  go_wp2
  go_ret
  exact ⟨rfl, X2.2.2.2.2.2.2.2.2⟩

set_option maxRecDepth 100000 in
set_option maxHeartbeats 2000000 in
theorem l1Bytes_26 (s : ByteArray) (g off n cap : Nat) (w : World) (hs : s.size ≤ 1048576) :
    Calls Tryd.prog 11 #[fv 26 0 0 0 false s g off n cap] w fun e w' => e = .returned (.string (VB 26 ++ s)) ∧ Below w.heap.size w w' := by
  have z1 := VB_le 26
  have z2 := VB_le s.size
  have ad0 := fun W : World => run_string_add_sum (P := Tryd.prog) (w := W) (VB s.size) s (by omega)
  have ad1 := fun W : World => run_string_add_sum (P := Tryd.prog) (w := W) (VB 26) (s) (by (try simp only [ByteArray.size_append]); omega)
  have X0 := hide (bx_first (w := w) (k := 26) (a := 0) (b := 0) (c := 0) (fin := false) (s := s) (g := g) (off := off) (n := n) (cap := cap) 36)
  go_enter Tryd.func11, Tryd.ntmps11
  go_wp2_with fail
  refine (l1Var_VB _ _ (by omega) (by omega)).mono ?_
  rintro e w1 ⟨rfl, hb1⟩
  have X1 := bx_step hb1 (unhide X0)
  clear hb1
  go_wp2_with fail
  go_region_held3 (fun W => Bx w 26 0 0 0 false s g off n cap W) (first | assumption | exact bx_step hb2 (by assumption) | exact bx_drew X1) (first | (go_at_call 21; refine (l1Var_VB _ _ (by omega) (by omega)).mono ?_; rintro e w2 ⟨rfl, hb2⟩))
  have X2 := bx_step hb2 (bx_drew X1)
  clear hb2
  go_wp2
  go_ret
  exact ⟨rfl, X2.2.2.2.2.2.2.2.2⟩

set_option maxRecDepth 100000 in
set_option maxHeartbeats 2000000 in
theorem l1Bytes_27 (s : ByteArray) (g off n cap : Nat) (w : World) (hs : s.size ≤ 1048576) :
    Calls Tryd.prog 11 #[fv 27 0 0 0 false s g off n cap] w fun e w' => e = .returned (.string (VB 27 ++ s)) ∧ Below w.heap.size w w' := by
  have z1 := VB_le 27
  have z2 := VB_le s.size
  have ad0 := fun W : World => run_string_add_sum (P := Tryd.prog) (w := W) (VB s.size) s (by omega)
  have ad1 := fun W : World => run_string_add_sum (P := Tryd.prog) (w := W) (VB 27) (s) (by (try simp only [ByteArray.size_append]); omega)
  have X0 := hide (bx_first (w := w) (k := 27) (a := 0) (b := 0) (c := 0) (fin := false) (s := s) (g := g) (off := off) (n := n) (cap := cap) 36)
  go_enter Tryd.func11, Tryd.ntmps11
  go_wp2_with fail
  refine (l1Var_VB _ _ (by omega) (by omega)).mono ?_
  rintro e w1 ⟨rfl, hb1⟩
  have X1 := bx_step hb1 (unhide X0)
  clear hb1
  go_wp2_with fail
  go_region_held3 (fun W => Bx w 27 0 0 0 false s g off n cap W) (first | assumption | exact bx_step hb2 (by assumption) | exact bx_drew X1) (first | (go_at_call 21; refine (l1Var_VB _ _ (by omega) (by omega)).mono ?_; rintro e w2 ⟨rfl, hb2⟩))
  have X2 := bx_step hb2 (bx_drew X1)
  clear hb2
  go_wp2
  go_ret
  exact ⟨rfl, X2.2.2.2.2.2.2.2.2⟩

set_option maxRecDepth 100000 in
set_option maxHeartbeats 2000000 in
theorem l1Bytes_48 (s : ByteArray) (g off n cap : Nat) (w : World) (hs : s.size ≤ 1048576) :
    Calls Tryd.prog 11 #[fv 48 0 0 0 false s g off n cap] w fun e w' => e = .returned (.string (VB 49 ++ (VB s.size ++ s))) ∧ Below w.heap.size w w' := by
  have z1 := VB_le 48
  have z2 := VB_le s.size
  have ad0 := fun W : World => run_string_add_sum (P := Tryd.prog) (w := W) (VB s.size) s (by omega)
  have y0 := VB_le 49
  have ad1 := fun W : World => run_string_add_sum (P := Tryd.prog) (w := W) (VB 49) ((VB s.size ++ s)) (by (try simp only [ByteArray.size_append]); omega)
  have X0 := hide (bx_first (w := w) (k := 48) (a := 0) (b := 0) (c := 0) (fin := false) (s := s) (g := g) (off := off) (n := n) (cap := cap) 36)
  go_enter Tryd.func11, Tryd.ntmps11
  go_wp2_with fail
  refine (l1Var_VB _ _ (by omega) (by omega)).mono ?_
  rintro e w1 ⟨rfl, hb1⟩
  have X1 := bx_step hb1 (unhide X0)
  clear hb1
  go_wp2_with fail
  go_region_held3 (fun W => Bx w 48 0 0 0 false s g off n cap W) (first | assumption | exact bx_step hb2 (by assumption) | exact bx_drew X1) (first | (go_at_call 21; refine (l1Var_VB _ _ (by omega) (by omega)).mono ?_; rintro e w2 ⟨rfl, hb2⟩))
  have X2 := bx_step hb2 (bx_drew X1)
  clear hb2
  go_wp2_with (first | (go_at_call 21; refine (l1Var_VB _ _ (by omega) (by omega)).mono ?_; rintro e w3 ⟨rfl, hb3⟩))
  go_ret
  exact ⟨rfl, (bx_step hb3 X2).2.2.2.2.2.2.2.2⟩

set_option maxRecDepth 100000 in
set_option maxHeartbeats 2000000 in
theorem l1Bytes_24 (a b c : Int) (s : ByteArray) (g off n cap : Nat) (w : World) (hs : s.size ≤ 1048576) (ha0 : 0 ≤ a) (ha1 : a ≤ 4611686018427387903) (hb0 : 0 ≤ b) (hb1 : b ≤ 4611686018427387903) (hc0 : 0 ≤ c) (hc1 : c ≤ 4611686018427387903) :
    Calls Tryd.prog 11 #[fv 24 a b c false s g off n cap] w fun e w' => e = .returned (.string (VB 24 ++ VB a ++ VB b ++ VF s.size ++ s ++ VF c)) ∧ Below w.heap.size w w' := by
  have z1 := VB_le 24
  have z2 := VB_le s.size
  have ad0 := fun W : World => run_string_add_sum (P := Tryd.prog) (w := W) (VB s.size) s (by omega)
  have y0 := VB_le a
  have y1 := VB_le b
  have y5 := VF_size s.size
  have y6 := VF_size c
  have ad1 := fun W : World => run_string_add_sum (P := Tryd.prog) (w := W) (VB 24) (VB a) (by (try simp only [ByteArray.size_append]); omega)
  have ad2 := fun W : World => run_string_add_sum (P := Tryd.prog) (w := W) (VB 24 ++ VB a) (VB b) (by (try simp only [ByteArray.size_append]); omega)
  have ad3 := fun W : World => run_string_add_sum (P := Tryd.prog) (w := W) (VB 24 ++ VB a ++ VB b) (VF s.size) (by (try simp only [ByteArray.size_append]); omega)
  have ad4 := fun W : World => run_string_add_sum (P := Tryd.prog) (w := W) (VB 24 ++ VB a ++ VB b ++ VF s.size) (s) (by (try simp only [ByteArray.size_append]); omega)
  have ad5 := fun W : World => run_string_add_sum (P := Tryd.prog) (w := W) (VB 24 ++ VB a ++ VB b ++ VF s.size ++ s) (VF c) (by (try simp only [ByteArray.size_append]); omega)
  have X0 := hide (bx_first (w := w) (k := 24) (a := a) (b := b) (c := c) (fin := false) (s := s) (g := g) (off := off) (n := n) (cap := cap) 36)
  go_enter Tryd.func11, Tryd.ntmps11
  go_wp2_with fail
  refine (l1Var_VB _ _ (by omega) (by omega)).mono ?_
  rintro e w1 ⟨rfl, hb1⟩
  have X1 := bx_step hb1 (unhide X0)
  clear hb1
  go_wp2_with fail
  go_region_held3 (fun W => Bx w 24 a b c false s g off n cap W) (first | assumption | exact bx_step hb2 (by assumption) | exact bx_drew X1) (first | (go_at_call 21; refine (l1Var_VB _ _ (by omega) (by omega)).mono ?_; rintro e w2 ⟨rfl, hb2⟩))
  have X2 := bx_step hb2 (bx_drew X1)
  clear hb2
  clear X1
  go_wp2_with fail
  go_region_held3 (fun W => Bx w 24 a b c false s g off n cap W) (first | assumption | exact bx_step hb3 (by assumption) | exact bx_drew X2) (first | (go_at_call 21; refine (l1Var_VB _ _ (by omega) (by omega)).mono ?_; rintro e w3 ⟨rfl, hb3⟩) | (go_at_call 22; refine (l1Fixed_VF _ _ (by omega)).mono ?_; rintro e w3 ⟨rfl, hb3⟩))
  all_goals
    rename_i hHeld
    go_wp2
    go_ret
    exact ⟨rfl, hHeld.2.2.2.2.2.2.2.2⟩

set_option maxRecDepth 100000 in
set_option maxHeartbeats 2000000 in
theorem l1Bytes_80F (a : Int) (s : ByteArray) (g off n cap : Nat) (w : World) (hs : s.size ≤ 1048576) (ha0 : 0 ≤ a) (ha1 : a ≤ 4611686018427387903) :
    Calls Tryd.prog 11 #[fv 8 a 0 0 false s g off n cap] w fun e w' => e = .returned (.string (VB 10 ++ VB a ++ (⟨#[]⟩ : ByteArray) ++ (VB s.size ++ s))) ∧ Below w.heap.size w w' := by
  have z1 := VB_le 8
  have z2 := VB_le s.size
  have ad0 := fun W : World => run_string_add_sum (P := Tryd.prog) (w := W) (VB s.size) s (by omega)
  have y0 := VB_le a
  have y1 := VB_le 10
  have o4 : bits BinOp.or IntKind.i64 10 4 = 14 := by decide +kernel
  have o1 : bits BinOp.or IntKind.i64 10 1 = 11 := by decide +kernel
  have o5 : bits BinOp.or IntKind.i64 14 1 = 15 := by decide +kernel
  have y9 : (⟨#[]⟩ : ByteArray).size = 0 := rfl
  have ad1 := fun W : World => run_string_add_sum (P := Tryd.prog) (w := W) (VB 10) (VB a) (by (try simp only [ByteArray.size_append]); omega)
  have ad2 := fun W : World => run_string_add_sum (P := Tryd.prog) (w := W) (VB 10 ++ VB a) ((⟨#[]⟩ : ByteArray)) (by (try simp only [ByteArray.size_append]); omega)
  have ad3 := fun W : World => run_string_add_sum (P := Tryd.prog) (w := W) (VB 10 ++ VB a ++ (⟨#[]⟩ : ByteArray)) ((VB s.size ++ s)) (by (try simp only [ByteArray.size_append]); omega)
  have X0 := hide (bx_first (w := w) (k := 8) (a := a) (b := 0) (c := 0) (fin := false) (s := s) (g := g) (off := off) (n := n) (cap := cap) 36)
  go_enter Tryd.func11, Tryd.ntmps11
  go_wp2_with fail
  refine (l1Var_VB _ _ (by omega) (by omega)).mono ?_
  rintro e w1 ⟨rfl, hb1⟩
  have X1 := bx_step hb1 (unhide X0)
  clear hb1
  go_wp2_with fail
  go_region_held3 (fun W => Bx w 8 a 0 0 false s g off n cap W) (first | assumption | exact bx_step hb2 (by assumption) | exact bx_drew X1) (first | (go_at_call 21; refine (l1Var_VB _ _ (by omega) (by omega)).mono ?_; rintro e w2 ⟨rfl, hb2⟩))
  have X2 := bx_step hb2 (bx_drew X1)
  clear hb2
  clear X1
  go_wp2_with fail
  go_region_held3 (fun W => Bx w 8 a 0 0 false s g off n cap W) (first | assumption | exact bx_step hb3 (by assumption) | exact bx_drew X2) (first | (go_at_call 21; refine (l1Var_VB _ _ (by omega) (by omega)).mono ?_; rintro e w3 ⟨rfl, hb3⟩))
  all_goals
    rename_i hHeld
    go_wp2
    go_ret
    exact ⟨rfl, hHeld.2.2.2.2.2.2.2.2⟩

set_option maxRecDepth 100000 in
set_option maxHeartbeats 2000000 in
theorem l1Bytes_80T (a : Int) (s : ByteArray) (g off n cap : Nat) (w : World) (hs : s.size ≤ 1048576) (ha0 : 0 ≤ a) (ha1 : a ≤ 4611686018427387903) :
    Calls Tryd.prog 11 #[fv 8 a 0 0 true s g off n cap] w fun e w' => e = .returned (.string (VB 11 ++ VB a ++ (⟨#[]⟩ : ByteArray) ++ (VB s.size ++ s))) ∧ Below w.heap.size w w' := by
  have z1 := VB_le 8
  have z2 := VB_le s.size
  have ad0 := fun W : World => run_string_add_sum (P := Tryd.prog) (w := W) (VB s.size) s (by omega)
  have y0 := VB_le a
  have y1 := VB_le 11
  have o4 : bits BinOp.or IntKind.i64 10 4 = 14 := by decide +kernel
  have o1 : bits BinOp.or IntKind.i64 10 1 = 11 := by decide +kernel
  have o5 : bits BinOp.or IntKind.i64 14 1 = 15 := by decide +kernel
  have y9 : (⟨#[]⟩ : ByteArray).size = 0 := rfl
  have ad1 := fun W : World => run_string_add_sum (P := Tryd.prog) (w := W) (VB 11) (VB a) (by (try simp only [ByteArray.size_append]); omega)
  have ad2 := fun W : World => run_string_add_sum (P := Tryd.prog) (w := W) (VB 11 ++ VB a) ((⟨#[]⟩ : ByteArray)) (by (try simp only [ByteArray.size_append]); omega)
  have ad3 := fun W : World => run_string_add_sum (P := Tryd.prog) (w := W) (VB 11 ++ VB a ++ (⟨#[]⟩ : ByteArray)) ((VB s.size ++ s)) (by (try simp only [ByteArray.size_append]); omega)
  have X0 := hide (bx_first (w := w) (k := 8) (a := a) (b := 0) (c := 0) (fin := true) (s := s) (g := g) (off := off) (n := n) (cap := cap) 36)
  go_enter Tryd.func11, Tryd.ntmps11
  go_wp2_with fail
  refine (l1Var_VB _ _ (by omega) (by omega)).mono ?_
  rintro e w1 ⟨rfl, hb1⟩
  have X1 := bx_step hb1 (unhide X0)
  clear hb1
  go_wp2_with fail
  go_region_held3 (fun W => Bx w 8 a 0 0 true s g off n cap W) (first | assumption | exact bx_step hb2 (by assumption) | exact bx_drew X1) (first | (go_at_call 21; refine (l1Var_VB _ _ (by omega) (by omega)).mono ?_; rintro e w2 ⟨rfl, hb2⟩))
  have X2 := bx_step hb2 (bx_drew X1)
  clear hb2
  clear X1
  go_wp2_with fail
  go_region_held3 (fun W => Bx w 8 a 0 0 true s g off n cap W) (first | assumption | exact bx_step hb3 (by assumption) | exact bx_drew X2) (first | (go_at_call 21; refine (l1Var_VB _ _ (by omega) (by omega)).mono ?_; rintro e w3 ⟨rfl, hb3⟩))
  all_goals
    rename_i hHeld
    go_wp2
    go_ret
    exact ⟨rfl, hHeld.2.2.2.2.2.2.2.2⟩

set_option maxRecDepth 100000 in
set_option maxHeartbeats 2000000 in
theorem l1Bytes_81F (a b : Int) (s : ByteArray) (g off n cap : Nat) (w : World) (hs : s.size ≤ 1048576) (ha0 : 0 ≤ a) (ha1 : a ≤ 4611686018427387903) (hb0 : 0 ≤ b) (hb1 : b ≤ 4611686018427387903) (hbz : (b != 0) = true) :
    Calls Tryd.prog 11 #[fv 8 a b 0 false s g off n cap] w fun e w' => e = .returned (.string (VB 14 ++ VB a ++ VB b ++ (VB s.size ++ s))) ∧ Below w.heap.size w w' := by
  have z1 := VB_le 8
  have z2 := VB_le s.size
  have ad0 := fun W : World => run_string_add_sum (P := Tryd.prog) (w := W) (VB s.size) s (by omega)
  have y0 := VB_le a
  have y1 := VB_le b
  have y2 := VB_le 14
  have o4 : bits BinOp.or IntKind.i64 10 4 = 14 := by decide +kernel
  have o1 : bits BinOp.or IntKind.i64 10 1 = 11 := by decide +kernel
  have o5 : bits BinOp.or IntKind.i64 14 1 = 15 := by decide +kernel
  have ad1 := fun W : World => run_string_add_sum (P := Tryd.prog) (w := W) (VB 14) (VB a) (by (try simp only [ByteArray.size_append]); omega)
  have ad2 := fun W : World => run_string_add_sum (P := Tryd.prog) (w := W) (VB 14 ++ VB a) (VB b) (by (try simp only [ByteArray.size_append]); omega)
  have ad3 := fun W : World => run_string_add_sum (P := Tryd.prog) (w := W) (VB 14 ++ VB a ++ VB b) ((VB s.size ++ s)) (by (try simp only [ByteArray.size_append]); omega)
  have X0 := hide (bx_first (w := w) (k := 8) (a := a) (b := b) (c := 0) (fin := false) (s := s) (g := g) (off := off) (n := n) (cap := cap) 36)
  go_enter Tryd.func11, Tryd.ntmps11
  go_wp2_with fail
  refine (l1Var_VB _ _ (by omega) (by omega)).mono ?_
  rintro e w1 ⟨rfl, hb1⟩
  have X1 := bx_step hb1 (unhide X0)
  clear hb1
  go_wp2_with fail
  go_region_held3 (fun W => Bx w 8 a b 0 false s g off n cap W) (first | assumption | exact bx_step hb2 (by assumption) | exact bx_drew X1) (first | (go_at_call 21; refine (l1Var_VB _ _ (by omega) (by omega)).mono ?_; rintro e w2 ⟨rfl, hb2⟩))
  have XA := bx_step hb2 (bx_drew X1)
  clear hb2
  clear X1
  go_wp2_with fail
  refine (l1Var_VB _ _ (by omega) (by omega)).mono ?_
  rintro e w4 ⟨rfl, hb4⟩
  have X2 := bx_step hb4 XA
  clear hb4 XA
  go_wp2_with fail
  go_region_held3 (fun W => Bx w 8 a b 0 false s g off n cap W) (first | assumption | exact bx_step hb3 (by assumption) | exact bx_drew X2) (first | (go_at_call 21; refine (l1Var_VB _ _ (by omega) (by omega)).mono ?_; rintro e w3 ⟨rfl, hb3⟩))
  all_goals
    rename_i hHeld
    go_wp2
    go_ret
    exact ⟨rfl, hHeld.2.2.2.2.2.2.2.2⟩

set_option maxRecDepth 100000 in
set_option maxHeartbeats 2000000 in
theorem l1Bytes_81T (a b : Int) (s : ByteArray) (g off n cap : Nat) (w : World) (hs : s.size ≤ 1048576) (ha0 : 0 ≤ a) (ha1 : a ≤ 4611686018427387903) (hb0 : 0 ≤ b) (hb1 : b ≤ 4611686018427387903) (hbz : (b != 0) = true) :
    Calls Tryd.prog 11 #[fv 8 a b 0 true s g off n cap] w fun e w' => e = .returned (.string (VB 15 ++ VB a ++ VB b ++ (VB s.size ++ s))) ∧ Below w.heap.size w w' := by
  have z1 := VB_le 8
  have z2 := VB_le s.size
  have ad0 := fun W : World => run_string_add_sum (P := Tryd.prog) (w := W) (VB s.size) s (by omega)
  have y0 := VB_le a
  have y1 := VB_le b
  have y2 := VB_le 15
  have o4 : bits BinOp.or IntKind.i64 10 4 = 14 := by decide +kernel
  have o1 : bits BinOp.or IntKind.i64 10 1 = 11 := by decide +kernel
  have o5 : bits BinOp.or IntKind.i64 14 1 = 15 := by decide +kernel
  have ad1 := fun W : World => run_string_add_sum (P := Tryd.prog) (w := W) (VB 15) (VB a) (by (try simp only [ByteArray.size_append]); omega)
  have ad2 := fun W : World => run_string_add_sum (P := Tryd.prog) (w := W) (VB 15 ++ VB a) (VB b) (by (try simp only [ByteArray.size_append]); omega)
  have ad3 := fun W : World => run_string_add_sum (P := Tryd.prog) (w := W) (VB 15 ++ VB a ++ VB b) ((VB s.size ++ s)) (by (try simp only [ByteArray.size_append]); omega)
  have X0 := hide (bx_first (w := w) (k := 8) (a := a) (b := b) (c := 0) (fin := true) (s := s) (g := g) (off := off) (n := n) (cap := cap) 36)
  go_enter Tryd.func11, Tryd.ntmps11
  go_wp2_with fail
  refine (l1Var_VB _ _ (by omega) (by omega)).mono ?_
  rintro e w1 ⟨rfl, hb1⟩
  have X1 := bx_step hb1 (unhide X0)
  clear hb1
  go_wp2_with fail
  go_region_held3 (fun W => Bx w 8 a b 0 true s g off n cap W) (first | assumption | exact bx_step hb2 (by assumption) | exact bx_drew X1) (first | (go_at_call 21; refine (l1Var_VB _ _ (by omega) (by omega)).mono ?_; rintro e w2 ⟨rfl, hb2⟩))
  have XA := bx_step hb2 (bx_drew X1)
  clear hb2
  clear X1
  go_wp2_with fail
  refine (l1Var_VB _ _ (by omega) (by omega)).mono ?_
  rintro e w4 ⟨rfl, hb4⟩
  have X2 := bx_step hb4 XA
  clear hb4 XA
  go_wp2_with fail
  go_region_held3 (fun W => Bx w 8 a b 0 true s g off n cap W) (first | assumption | exact bx_step hb3 (by assumption) | exact bx_drew X2) (first | (go_at_call 21; refine (l1Var_VB _ _ (by omega) (by omega)).mono ?_; rintro e w3 ⟨rfl, hb3⟩))
  all_goals
    rename_i hHeld
    go_wp2
    go_ret
    exact ⟨rfl, hHeld.2.2.2.2.2.2.2.2⟩
end Go.Proofs.YtcnpbcigndcheaaDoor
