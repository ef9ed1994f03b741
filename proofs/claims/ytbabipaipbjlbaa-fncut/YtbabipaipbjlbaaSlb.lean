/-
  Contracts: a header's bytes, as the model writes them.
-/
import Derived.Test.YtbabipaipbjlbaaFix
import Derived.Test.YtbabipaipbjlbaaPrdX
import Derived.Deep.RegionHeld3
import Derived.Deep.AppendLies
import Derived.Test.YtbabipaipbjlbaaGhs
namespace Go.Proofs.Ytbabipaipbjlbaa
open Go.ChangeShapes Go.WideShapes Go.ChangeAt Go.RowKit
set_option linter.unusedVariables false

/-- a number's bytes, as a text -/
def VB (n : Int) : ByteArray := ⟨(vb n).toArray⟩
theorem VB_le (n : Int) : (VB n).size ≤ 8 := by
  have h1 := vb_length n
  have h2 := vsz_le n
  have : (VB n).size = (vb n).length := by simp [VB, ByteArray.size]
  omega
theorem VB_list (n : Int) : (VB n).data.toList = vb n := rfl
theorem var_VB (n : Int) (w : World) (h0 : 0 ≤ n) (h1 : n ≤ 4611686018427387903) :
    Calls Try.prog 120 #[.int .i64 n] w fun e w' => e = .returned (.string (VB n)) ∧ Below w.heap.size w w' := l1Var_any n w h0 h1
/-- M bytes of a number, as a text -/
def FX (n : Int) (M : Nat) : ByteArray := ⟨(fx n M M).toArray⟩
theorem FX_size (n : Int) (M : Nat) : (FX n M).size = M := by simp [FX, ByteArray.size, fx_length]
theorem FX_list (n : Int) (M : Nat) : (FX n M).data.toList = fx n M M := rfl
theorem fix1 (n : Int) (w : World) (hn : -9223372036854775808 ≤ n ∧ n ≤ 9223372036854775807) :
    Calls Try.prog 118 #[.int .i64 n, .int .i64 1] w fun e w' => e = .returned (.string (FX n 1)) ∧ Below w.heap.size w w' := l1Fixed_any n 1 w (by omega) hn
theorem fix2 (n : Int) (w : World) (hn : -9223372036854775808 ≤ n ∧ n ≤ 9223372036854775807) :
    Calls Try.prog 118 #[.int .i64 n, .int .i64 2] w fun e w' => e = .returned (.string (FX n 2)) ∧ Below w.heap.size w w' := l1Fixed_any n 2 w (by omega) hn
theorem fix4 (n : Int) (w : World) (hn : -9223372036854775808 ≤ n ∧ n ≤ 9223372036854775807) :
    Calls Try.prog 118 #[.int .i64 n, .int .i64 4] w fun e w' => e = .returned (.string (FX n 4)) ∧ Below w.heap.size w w' := l1Fixed_any n 4 w (by omega) hn
theorem id_any (s : ByteArray) (w : World) (hs : s.size ≤ 1048576) :
    Calls Try.prog 119 #[.string s] w fun e w' => e = .returned (.string (FX s.size 1 ++ s)) ∧ Below w.heap.size w w' := by
  have z := FX_size s.size 1
  have ad := fun W : World => run_string_add_sum (P := Try.prog) (w := W) (FX s.size 1) s (by omega)
  go_enter Try.func119, Try.ntmps119
  go_wp2_with (go_at_call 118; refine (fix1 _ _ (by omega)).mono ?_; rintro e w1 ⟨rfl, hb1⟩)
  go_ret
  exact ⟨rfl, hb1⟩

/-- What holds of the world as long as the header's own copy (the first new block) stands. -/
abbrev Bh (w : World) (f bi ve : Int) (d s t p : ByteArray) (ra : Option Addr) (n cap : Nat) (W : World) : Prop :=
  W.cell? ⟨w.heap.size, 0, none⟩ = some (.int .i64 f) ∧ W.cell? ⟨w.heap.size, 1, none⟩ = some (.int .i64 bi) ∧ W.cell? ⟨w.heap.size, 2, none⟩ = some (.int .i64 ve) ∧ W.cell? ⟨w.heap.size, 3, none⟩ = some (.string d) ∧
  W.cell? ⟨w.heap.size, 4, none⟩ = some (.string s) ∧ W.cell? ⟨w.heap.size, 5, none⟩ = some (.string t) ∧ W.cell? ⟨w.heap.size, 6, none⟩ = some (.string p) ∧ W.cell? ⟨w.heap.size, 7, none⟩ = some (.slice ra n cap) ∧ w.heap.size < W.heap.size ∧ Below w.heap.size w W
section
variable {w : World} {f bi ve : Int} {d s t p : ByteArray} {ra : Option Addr} {n cap : Nat} {W W' : World}
theorem bh_step (hb : Below W.heap.size W W') (h : Bh w f bi ve d s t p ra n cap W) : Bh w f bi ve d s t p ra n cap W' := by
  obtain ⟨h0, h1, h2, h3, h4, h5, h6, h7, hl, h8⟩ := h
  exact ⟨(hb.cell (p := ⟨w.heap.size, 0, none⟩) hl).trans h0, (hb.cell (p := ⟨w.heap.size, 1, none⟩) hl).trans h1, (hb.cell (p := ⟨w.heap.size, 2, none⟩) hl).trans h2, (hb.cell (p := ⟨w.heap.size, 3, none⟩) hl).trans h3, (hb.cell (p := ⟨w.heap.size, 4, none⟩) hl).trans h4, (hb.cell (p := ⟨w.heap.size, 5, none⟩) hl).trans h5, (hb.cell (p := ⟨w.heap.size, 6, none⟩) hl).trans h6, (hb.cell (p := ⟨w.heap.size, 7, none⟩) hl).trans h7, Nat.lt_of_lt_of_le hl hb.size, h8.trans (hb.mono (Nat.le_of_lt hl))⟩
theorem bh_drew (h : Bh w f bi ve d s t p ra n cap W) : Bh w f bi ve d s t p ra n cap W.drew := by
  obtain ⟨h0, h1, h2, h3, h4, h5, h6, h7, hl, h8⟩ := h
  exact ⟨h0, h1, h2, h3, h4, h5, h6, h7, hl, h8.drew⟩
theorem bh_first (ty : TypeId) : Bh w f bi ve d s t p ra n cap (w.alloc (.cells #[.int .i64 f, .int .i64 bi, .int .i64 ve, .string d, .string s, .string t, .string p, .slice ra n cap] ty)) := by
  refine ⟨?_, ?_, ?_, ?_, ?_, ?_, ?_, ?_, ?_, (Below.refl _ _).alloc (Nat.le_refl _) _⟩ <;> simp
end
theorem or64 (bi : Int) (h0 : 0 ≤ bi) (h1 : bi ≤ 15) : bits .or .i64 64 bi = 64 + bi := or_pow 6 64 bi (by omega) (by decide) (by omega) h0 (by omega) (by omega)
theorem or_m (m bi : Int) (h0 : 0 ≤ bi) (h1 : bi ≤ 15) (hm : 0 ≤ m) (hm1 : m ≤ 255) (hm2 : m % 16 = 0) : bits .or .i64 m bi = m + bi := or_pow 4 m bi hm (by omega) (by omega) h0 (by omega) (by omega)

set_option maxRecDepth 100000 in
set_option maxHeartbeats 4000000 in
theorem l2Bytes_5 (bi ve : Int) (d s t p : ByteArray) (ra : Option Addr) (n cap : Nat) (w : World) (hd : d.size ≤ 20) (hs : s.size ≤ 20) (ht : t.size ≤ 200) (hp : p.size ≤ 1200) (b0 : 0 ≤ bi) (b1 : bi ≤ 15) :
    Calls Try.prog 109 #[hv 5 bi ve d s t p ra n cap] w fun e w' => e = .returned (.string (FX (64 + bi) 1 ++ d ++ p)) ∧ Below w.heap.size w w' := by
  have ad0 := fun W : World => run_string_add_sum (P := Try.prog) (w := W) (FX (64 + bi) 1) (d) (by simp only [FX_size]; omega)
  have ad1 := fun W : World => run_string_add_sum (P := Try.prog) (w := W) (FX (64 + bi) 1 ++ d) (p) (by simp only [ByteArray.size_append, FX_size]; omega)
  have e1 := or64 bi b0 b1
  have HA := hide (fun W => fix1 (64 + bi) W (by omega))
  have HD := hide (fun W => id_any d W (by omega))
  have HE := hide (fun W => id_any s W (by omega))
  have X0 := hide (bh_first (w := w) (f := 5) (bi := bi) (ve := ve) (d := d) (s := s) (t := t) (p := p) (ra := ra) (n := n) (cap := cap) 49)
  obtain ⟨c0, c1, c2, c3, c4, c5, c6, c7, c8, c9⟩ := unhide X0
  clear c9
  go_enter Try.func109, Try.ntmps109
  go_wp2_with fail
  go_region_held3 (fun W => Bh w 5 bi ve d s t p ra n cap W) (first | assumption | exact bh_step hb1 (by assumption) | exact bh_drew (unhide X0) | exact unhide X0) (first | (go_at_call 118; with_reducible refine (unhide HA _).mono ?_; rintro e w1 ⟨rfl, hb1⟩) | (go_at_call 119; with_reducible refine (unhide HD _).mono ?_; rintro e w1 ⟨rfl, hb1⟩) | (go_at_call 119; with_reducible refine (unhide HE _).mono ?_; rintro e w1 ⟨rfl, hb1⟩))
  all_goals
    rename_i hHeld
    clear X0
    go_wp2
    go_ret
    exact ⟨rfl, hHeld.2.2.2.2.2.2.2.2.2⟩
set_option maxRecDepth 100000 in
set_option maxHeartbeats 4000000 in
theorem l2Bytes_3 (bi ve : Int) (d s t p : ByteArray) (ra : Option Addr) (n cap : Nat) (w : World) (hd : d.size ≤ 20) (hs : s.size ≤ 20) (ht : t.size ≤ 200) (hp : p.size ≤ 1200) (b0 : 0 ≤ bi) (b1 : bi ≤ 15) (v0 : 0 ≤ ve) (v1 : ve ≤ 4294967295) :
    Calls Try.prog 109 #[hv 3 bi ve d s t p ra n cap] w fun e w' => e = .returned (.string (FX (240 + bi) 1 ++ FX ve 4 ++ (FX d.size 1 ++ d) ++ (FX s.size 1 ++ s) ++ p)) ∧ Below w.heap.size w w' := by
  have ad0 := fun W : World => run_string_add_sum (P := Try.prog) (w := W) (FX (240 + bi) 1) (FX ve 4) (by simp only [FX_size]; omega)
  have ad1 := fun W : World => run_string_add_sum (P := Try.prog) (w := W) (FX (240 + bi) 1 ++ FX ve 4) (FX d.size 1 ++ d) (by simp only [ByteArray.size_append, FX_size]; omega)
  have ad2 := fun W : World => run_string_add_sum (P := Try.prog) (w := W) (FX (240 + bi) 1 ++ FX ve 4 ++ (FX d.size 1 ++ d)) (FX s.size 1 ++ s) (by simp only [ByteArray.size_append, FX_size]; omega)
  have ad3 := fun W : World => run_string_add_sum (P := Try.prog) (w := W) (FX (240 + bi) 1 ++ FX ve 4 ++ (FX d.size 1 ++ d) ++ (FX s.size 1 ++ s)) (p) (by simp only [ByteArray.size_append, FX_size]; omega)
  have e0 : bits .or .i64 192 (IntKind.i64.wrap 48) = 240 := by decide +kernel
  have e1 := or_m 240 bi b0 b1 (by omega) (by omega) (by omega)
  have e2 : bits .or .i64 (p.size : Int) 16384 = (p.size : Int) + 16384 := or_two _ (by omega) (by omega)
  have HA := hide (fun W => fix1 (240 + bi) W (by omega))
  have HD := hide (fun W => id_any d W (by omega))
  have HE := hide (fun W => id_any s W (by omega))
  have HV := hide (fun W => fix4 ve W (by omega))
  have X0 := hide (bh_first (w := w) (f := 3) (bi := bi) (ve := ve) (d := d) (s := s) (t := t) (p := p) (ra := ra) (n := n) (cap := cap) 49)
  obtain ⟨c0, c1, c2, c3, c4, c5, c6, c7, c8, c9⟩ := unhide X0
  clear c9
  go_enter Try.func109, Try.ntmps109
  go_wp2_with fail
  go_region_held3 (fun W => Bh w 3 bi ve d s t p ra n cap W) (first | assumption | exact bh_step hb1 (by assumption) | exact bh_drew (unhide X0) | exact unhide X0) (first | (go_at_call 118; with_reducible refine (unhide HA _).mono ?_; rintro e w1 ⟨rfl, hb1⟩) | (go_at_call 119; with_reducible refine (unhide HD _).mono ?_; rintro e w1 ⟨rfl, hb1⟩) | (go_at_call 119; with_reducible refine (unhide HE _).mono ?_; rintro e w1 ⟨rfl, hb1⟩) | (go_at_call 118; with_reducible refine (unhide HV _).mono ?_; rintro e w1 ⟨rfl, hb1⟩))
  all_goals
    rename_i hHeld
    have X1 := hide hHeld
    obtain ⟨d0, d1, d2, d3, d4, d5, d6, d7, d8, d9⟩ := hHeld
    clear X0 d9
    clear c0 c1 c2 c3 c4 c5 c6 c7 c8
    go_wp2
    go_ret
    exact ⟨rfl, (unhide X1).2.2.2.2.2.2.2.2.2⟩

set_option maxRecDepth 100000 in
set_option maxHeartbeats 4000000 in
theorem l2Bytes_1 (bi ve : Int) (d s t p : ByteArray) (ra : Option Addr) (n cap : Nat) (w : World) (hd : d.size ≤ 20) (hs : s.size ≤ 20) (ht : t.size ≤ 200) (hp : p.size ≤ 1200) (b0 : 0 ≤ bi) (b1 : bi ≤ 15) (v0 : 0 ≤ ve) (v1 : ve ≤ 4294967295) :
    Calls Try.prog 109 #[hv 1 bi ve d s t p ra n cap] w fun e w' => e = .returned (.string (FX (208 + bi) 1 ++ FX ve 4 ++ (FX d.size 1 ++ d) ++ (FX s.size 1 ++ s) ++ FX ((p.size : Int) + 16384) 2 ++ p)) ∧ Below w.heap.size w w' := by
  have ad0 := fun W : World => run_string_add_sum (P := Try.prog) (w := W) (FX (208 + bi) 1) (FX ve 4) (by simp only [FX_size]; omega)
  have ad1 := fun W : World => run_string_add_sum (P := Try.prog) (w := W) (FX (208 + bi) 1 ++ FX ve 4) (FX d.size 1 ++ d) (by simp only [ByteArray.size_append, FX_size]; omega)
  have ad2 := fun W : World => run_string_add_sum (P := Try.prog) (w := W) (FX (208 + bi) 1 ++ FX ve 4 ++ (FX d.size 1 ++ d)) (FX s.size 1 ++ s) (by simp only [ByteArray.size_append, FX_size]; omega)
  have ad3 := fun W : World => run_string_add_sum (P := Try.prog) (w := W) (FX (208 + bi) 1 ++ FX ve 4 ++ (FX d.size 1 ++ d) ++ (FX s.size 1 ++ s)) (FX ((p.size : Int) + 16384) 2) (by simp only [ByteArray.size_append, FX_size]; omega)
  have ad4 := fun W : World => run_string_add_sum (P := Try.prog) (w := W) (FX (208 + bi) 1 ++ FX ve 4 ++ (FX d.size 1 ++ d) ++ (FX s.size 1 ++ s) ++ FX ((p.size : Int) + 16384) 2) (p) (by simp only [ByteArray.size_append, FX_size]; omega)
  have e0 : bits .or .i64 192 (IntKind.i64.wrap 16) = 208 := by decide +kernel
  have e1 := or_m 208 bi b0 b1 (by omega) (by omega) (by omega)
  have e2 : bits .or .i64 (p.size : Int) 16384 = (p.size : Int) + 16384 := or_two _ (by omega) (by omega)
  have HA := hide (fun W => fix1 (208 + bi) W (by omega))
  have HD := hide (fun W => id_any d W (by omega))
  have HE := hide (fun W => id_any s W (by omega))
  have HV := hide (fun W => fix4 ve W (by omega))
  have HP := hide (fun W => fix2 ((p.size : Int) + 16384) W (by omega))
  have X0 := hide (bh_first (w := w) (f := 1) (bi := bi) (ve := ve) (d := d) (s := s) (t := t) (p := p) (ra := ra) (n := n) (cap := cap) 49)
  obtain ⟨c0, c1, c2, c3, c4, c5, c6, c7, c8, c9⟩ := unhide X0
  clear c9
  go_enter Try.func109, Try.ntmps109
  go_wp2_with fail
  go_region_held3 (fun W => Bh w 1 bi ve d s t p ra n cap W) (first | assumption | exact bh_step hb1 (by assumption) | exact bh_drew (unhide X0) | exact unhide X0) (first | (go_at_call 118; with_reducible refine (unhide HA _).mono ?_; rintro e w1 ⟨rfl, hb1⟩) | (go_at_call 119; with_reducible refine (unhide HD _).mono ?_; rintro e w1 ⟨rfl, hb1⟩) | (go_at_call 119; with_reducible refine (unhide HE _).mono ?_; rintro e w1 ⟨rfl, hb1⟩) | (go_at_call 118; with_reducible refine (unhide HV _).mono ?_; rintro e w1 ⟨rfl, hb1⟩) | (go_at_call 118; with_reducible refine (unhide HP _).mono ?_; rintro e w1 ⟨rfl, hb1⟩))
  all_goals
    rename_i hHeld
    have X1 := hide hHeld
    obtain ⟨d0, d1, d2, d3, d4, d5, d6, d7, d8, d9⟩ := hHeld
    clear X0 d9
    clear c0 c1 c2 c3 c4 c5 c6 c7 c8
    go_wp2_with (go_at_call 118; with_reducible refine (unhide HP _).mono ?_; rintro e w2 ⟨rfl, hb2⟩; have X3 := hide (bh_step hb2 (unhide X1)); obtain ⟨g0, g1, g2, g3, g4, g5, g6, g7, g8, g9⟩ := unhide X3; clear g9)
    go_ret
    exact ⟨rfl, (unhide X3).2.2.2.2.2.2.2.2.2⟩

set_option maxRecDepth 100000 in
set_option maxHeartbeats 4000000 in
theorem l2Bytes_2 (bi ve : Int) (d s t p : ByteArray) (ra : Option Addr) (n cap : Nat) (w : World) (hd : d.size ≤ 20) (hs : s.size ≤ 20) (ht : t.size ≤ 200) (hp : p.size ≤ 1200) (b0 : 0 ≤ bi) (b1 : bi ≤ 15) (v0 : 0 ≤ ve) (v1 : ve ≤ 4294967295) :
    Calls Try.prog 109 #[hv 2 bi ve d s t p ra n cap] w fun e w' => e = .returned (.string (FX (224 + bi) 1 ++ FX ve 4 ++ (FX d.size 1 ++ d) ++ (FX s.size 1 ++ s) ++ FX ((p.size : Int) + 16384) 2 ++ p)) ∧ Below w.heap.size w w' := by
  have ad0 := fun W : World => run_string_add_sum (P := Try.prog) (w := W) (FX (224 + bi) 1) (FX ve 4) (by simp only [FX_size]; omega)
  have ad1 := fun W : World => run_string_add_sum (P := Try.prog) (w := W) (FX (224 + bi) 1 ++ FX ve 4) (FX d.size 1 ++ d) (by simp only [ByteArray.size_append, FX_size]; omega)
  have ad2 := fun W : World => run_string_add_sum (P := Try.prog) (w := W) (FX (224 + bi) 1 ++ FX ve 4 ++ (FX d.size 1 ++ d)) (FX s.size 1 ++ s) (by simp only [ByteArray.size_append, FX_size]; omega)
  have ad3 := fun W : World => run_string_add_sum (P := Try.prog) (w := W) (FX (224 + bi) 1 ++ FX ve 4 ++ (FX d.size 1 ++ d) ++ (FX s.size 1 ++ s)) (FX ((p.size : Int) + 16384) 2) (by simp only [ByteArray.size_append, FX_size]; omega)
  have ad4 := fun W : World => run_string_add_sum (P := Try.prog) (w := W) (FX (224 + bi) 1 ++ FX ve 4 ++ (FX d.size 1 ++ d) ++ (FX s.size 1 ++ s) ++ FX ((p.size : Int) + 16384) 2) (p) (by simp only [ByteArray.size_append, FX_size]; omega)
  have e0 : bits .or .i64 192 (IntKind.i64.wrap 32) = 224 := by decide +kernel
  have e1 := or_m 224 bi b0 b1 (by omega) (by omega) (by omega)
  have e2 : bits .or .i64 (p.size : Int) 16384 = (p.size : Int) + 16384 := or_two _ (by omega) (by omega)
  have HA := hide (fun W => fix1 (224 + bi) W (by omega))
  have HD := hide (fun W => id_any d W (by omega))
  have HE := hide (fun W => id_any s W (by omega))
  have HV := hide (fun W => fix4 ve W (by omega))
  have HP := hide (fun W => fix2 ((p.size : Int) + 16384) W (by omega))
  have X0 := hide (bh_first (w := w) (f := 2) (bi := bi) (ve := ve) (d := d) (s := s) (t := t) (p := p) (ra := ra) (n := n) (cap := cap) 49)
  obtain ⟨c0, c1, c2, c3, c4, c5, c6, c7, c8, c9⟩ := unhide X0
  clear c9
  go_enter Try.func109, Try.ntmps109
  go_wp2_with fail
  go_region_held3 (fun W => Bh w 2 bi ve d s t p ra n cap W) (first | assumption | exact bh_step hb1 (by assumption) | exact bh_drew (unhide X0) | exact unhide X0) (first | (go_at_call 118; with_reducible refine (unhide HA _).mono ?_; rintro e w1 ⟨rfl, hb1⟩) | (go_at_call 119; with_reducible refine (unhide HD _).mono ?_; rintro e w1 ⟨rfl, hb1⟩) | (go_at_call 119; with_reducible refine (unhide HE _).mono ?_; rintro e w1 ⟨rfl, hb1⟩) | (go_at_call 118; with_reducible refine (unhide HV _).mono ?_; rintro e w1 ⟨rfl, hb1⟩) | (go_at_call 118; with_reducible refine (unhide HP _).mono ?_; rintro e w1 ⟨rfl, hb1⟩))
  all_goals
    rename_i hHeld
    have X1 := hide hHeld
    obtain ⟨d0, d1, d2, d3, d4, d5, d6, d7, d8, d9⟩ := hHeld
    clear X0 d9
    clear c0 c1 c2 c3 c4 c5 c6 c7 c8
    go_wp2_with (go_at_call 118; with_reducible refine (unhide HP _).mono ?_; rintro e w2 ⟨rfl, hb2⟩; have X3 := hide (bh_step hb2 (unhide X1)); obtain ⟨g0, g1, g2, g3, g4, g5, g6, g7, g8, g9⟩ := unhide X3; clear g9)
    go_ret
    exact ⟨rfl, (unhide X3).2.2.2.2.2.2.2.2.2⟩

set_option maxRecDepth 100000 in
set_option maxHeartbeats 4000000 in
theorem l2Bytes_0 (bi ve : Int) (d s t p : ByteArray) (ra : Option Addr) (n cap : Nat) (w : World) (hd : d.size ≤ 20) (hs : s.size ≤ 20) (ht : t.size ≤ 200) (hp : p.size ≤ 1200) (b0 : 0 ≤ bi) (b1 : bi ≤ 15) (v0 : 0 ≤ ve) (v1 : ve ≤ 4294967295) :
    Calls Try.prog 109 #[hv 0 bi ve d s t p ra n cap] w fun e w' => e = .returned (.string (FX (192 + bi) 1 ++ FX ve 4 ++ (FX d.size 1 ++ d) ++ (FX s.size 1 ++ s) ++ (VB t.size ++ t) ++ FX ((p.size : Int) + 16384) 2 ++ p)) ∧ Below w.heap.size w w' := by
  have zt := VB_le (t.size : Int)
  have ad0 := fun W : World => run_string_add_sum (P := Try.prog) (w := W) (FX (192 + bi) 1) (FX ve 4) (by simp only [FX_size]; omega)
  have ad1 := fun W : World => run_string_add_sum (P := Try.prog) (w := W) (FX (192 + bi) 1 ++ FX ve 4) (FX d.size 1 ++ d) (by simp only [ByteArray.size_append, FX_size]; omega)
  have ad2 := fun W : World => run_string_add_sum (P := Try.prog) (w := W) (FX (192 + bi) 1 ++ FX ve 4 ++ (FX d.size 1 ++ d)) (FX s.size 1 ++ s) (by simp only [ByteArray.size_append, FX_size]; omega)
  have ad3 := fun W : World => run_string_add_sum (P := Try.prog) (w := W) (VB t.size) (t) (by omega)
  have ad4 := fun W : World => run_string_add_sum (P := Try.prog) (w := W) (FX (192 + bi) 1 ++ FX ve 4 ++ (FX d.size 1 ++ d) ++ (FX s.size 1 ++ s)) (VB t.size ++ t) (by simp only [ByteArray.size_append, FX_size]; omega)
  have ad5 := fun W : World => run_string_add_sum (P := Try.prog) (w := W) (FX (192 + bi) 1 ++ FX ve 4 ++ (FX d.size 1 ++ d) ++ (FX s.size 1 ++ s) ++ (VB t.size ++ t)) (FX ((p.size : Int) + 16384) 2) (by simp only [ByteArray.size_append, FX_size]; omega)
  have ad6 := fun W : World => run_string_add_sum (P := Try.prog) (w := W) (FX (192 + bi) 1 ++ FX ve 4 ++ (FX d.size 1 ++ d) ++ (FX s.size 1 ++ s) ++ (VB t.size ++ t) ++ FX ((p.size : Int) + 16384) 2) (p) (by simp only [ByteArray.size_append, FX_size]; omega)
  have e0 : bits .or .i64 192 (IntKind.i64.wrap 0) = 192 := by decide +kernel
  have e1 := or_m 192 bi b0 b1 (by omega) (by omega) (by omega)
  have e2 : bits .or .i64 (p.size : Int) 16384 = (p.size : Int) + 16384 := or_two _ (by omega) (by omega)
  have HA := hide (fun W => fix1 (192 + bi) W (by omega))
  have HD := hide (fun W => id_any d W (by omega))
  have HE := hide (fun W => id_any s W (by omega))
  have HV := hide (fun W => fix4 ve W (by omega))
  have HP := hide (fun W => fix2 ((p.size : Int) + 16384) W (by omega))
  have HT := hide (fun W => var_VB (t.size : Int) W (by omega) (by omega))
  have X0 := hide (bh_first (w := w) (f := 0) (bi := bi) (ve := ve) (d := d) (s := s) (t := t) (p := p) (ra := ra) (n := n) (cap := cap) 49)
  obtain ⟨c0, c1, c2, c3, c4, c5, c6, c7, c8, c9⟩ := unhide X0
  clear c9
  go_enter Try.func109, Try.ntmps109
  go_wp2_with fail
  go_region_held3 (fun W => Bh w 0 bi ve d s t p ra n cap W) (first | assumption | exact bh_step hb1 (by assumption) | exact bh_drew (unhide X0) | exact unhide X0) (first | (go_at_call 118; with_reducible refine (unhide HA _).mono ?_; rintro e w1 ⟨rfl, hb1⟩) | (go_at_call 119; with_reducible refine (unhide HD _).mono ?_; rintro e w1 ⟨rfl, hb1⟩) | (go_at_call 119; with_reducible refine (unhide HE _).mono ?_; rintro e w1 ⟨rfl, hb1⟩) | (go_at_call 118; with_reducible refine (unhide HV _).mono ?_; rintro e w1 ⟨rfl, hb1⟩) | (go_at_call 118; with_reducible refine (unhide HP _).mono ?_; rintro e w1 ⟨rfl, hb1⟩) | (go_at_call 120; with_reducible refine (unhide HT _).mono ?_; rintro e w1 ⟨rfl, hb1⟩))
  all_goals
    rename_i hHeld
    have X1 := hide hHeld
    obtain ⟨d0, d1, d2, d3, d4, d5, d6, d7, d8, d9⟩ := hHeld
    clear X0 d9
    clear c0 c1 c2 c3 c4 c5 c6 c7 c8
    go_wp2_with fail
    go_region_held3 (fun W => Bh w 0 bi ve d s t p ra n cap W) (first | assumption | exact bh_step hb1 (by assumption) | exact bh_drew (unhide X1) | exact unhide X1) (first | (go_at_call 118; with_reducible refine (unhide HA _).mono ?_; rintro e w1 ⟨rfl, hb1⟩) | (go_at_call 119; with_reducible refine (unhide HD _).mono ?_; rintro e w1 ⟨rfl, hb1⟩) | (go_at_call 119; with_reducible refine (unhide HE _).mono ?_; rintro e w1 ⟨rfl, hb1⟩) | (go_at_call 118; with_reducible refine (unhide HV _).mono ?_; rintro e w1 ⟨rfl, hb1⟩) | (go_at_call 118; with_reducible refine (unhide HP _).mono ?_; rintro e w1 ⟨rfl, hb1⟩) | (go_at_call 120; with_reducible refine (unhide HT _).mono ?_; rintro e w1 ⟨rfl, hb1⟩))
    all_goals
      rename_i hHeld
      have X2 := hide hHeld
      obtain ⟨f0, f1, f2, f3, f4, f5, f6, f7, f8, f9⟩ := hHeld
      clear X1 f9
      clear d0 d1 d2 d3 d4 d5 d6 d7 d8
      go_wp2_with (go_at_call 118; with_reducible refine (unhide HP _).mono ?_; rintro e w2 ⟨rfl, hb2⟩; have X3 := hide (bh_step hb2 (unhide X2)); obtain ⟨g0, g1, g2, g3, g4, g5, g6, g7, g8, g9⟩ := unhide X3; clear g9)
      go_ret
      exact ⟨rfl, (unhide X3).2.2.2.2.2.2.2.2.2⟩

end Go.Proofs.Ytbabipaipbjlbaa
