/-
  Contract: an acknowledgement's bytes, as the model writes them.
-/
import Derived.Test.YtcnpbcigndcheaaDoorLby
namespace Go.Proofs.YtcnpbcigndcheaaDoor
open Go.ChangeShapes Go.WideShapes Go.ChangeAt Go.RowKit
set_option linter.unusedVariables false

/-- the text behind k rounds -/
def ackT (a : Int) (n : Nat) (F T : Nat → Int) : Nat → ByteArray
  | 0 => VB 2 ++ (VB (T 0) ++ VB a ++ VB ((n : Int) - 1) ++ VB (T 0 - F 0))
  | 1 => VB 2 ++ (VB (T 0) ++ VB a ++ VB ((n : Int) - 1) ++ VB (T 0 - F 0))
  | k + 2 => ackT a n F T (k + 1) ++ (VB (F k - T (k + 1) - 2) ++ VB (T (k + 1) - F (k + 1)))
theorem ackT_size (a : Int) (n : Nat) (F T : Nat → Int) : ∀ k, (ackT a n F T k).size ≤ 40 + 16 * k
  | 0 => by
    have h1 := VB_le 2; have h2 := VB_le (T 0); have h3 := VB_le a; have h4 := VB_le ((n : Int) - 1); have h5 := VB_le (T 0 - F 0)
    simp only [ackT, ByteArray.size_append]; omega
  | 1 => by
    have h1 := VB_le 2; have h2 := VB_le (T 0); have h3 := VB_le a; have h4 := VB_le ((n : Int) - 1); have h5 := VB_le (T 0 - F 0)
    simp only [ackT, ByteArray.size_append]; omega
  | k + 2 => by
    have h0 := ackT_size a n F T (k + 1)
    have h1 := VB_le (F k - T (k + 1) - 2); have h2 := VB_le (T (k + 1) - F (k + 1))
    simp only [ackT, ByteArray.size_append]; omega
theorem okR_all {F T : Nat → Int} {n : Nat} (h : allR F T n = true) : ∀ i, i < n → okR F T i = true := by
  unfold allR at h; rw [List.all_eq_true] at h; exact fun i hi => h i (List.mem_range.2 hi)
theorem okR_num {F T : Nat → Int} {k : Nat} (h : okR F T k = true) : 0 ≤ F k ∧ F k ≤ T k ∧ T k ≤ 4611686018427387903 := by
  unfold okR at h; rw [decide_eq_true_eq] at h; omega
theorem okR_gap {F T : Nat → Int} {k : Nat} (h : okR F T (k + 1) = true) : T (k + 1) ≤ F k - 2 := by
  unfold okR at h; rw [decide_eq_true_eq] at h
  rcases h.2.2.2 with h | h
  · omega
  · simpa using h

section
variable {w : World} {k a b c : Int} {fin : Bool} {s : ByteArray} {g off n cap : Nat} {W W' : World} {f t : Int}
theorem y_step (hb : Below W.heap.size W W') (h : Bx w k a b c fin s g off n cap W ∧ (W.cell? ⟨g, off, none⟩ = some (.int .i64 f) ∧ W.cell? ⟨g, off + 1, none⟩ = some (.int .i64 t)) ∧ g < W.heap.size) :
    Bx w k a b c fin s g off n cap W' ∧ (W'.cell? ⟨g, off, none⟩ = some (.int .i64 f) ∧ W'.cell? ⟨g, off + 1, none⟩ = some (.int .i64 t)) ∧ g < W'.heap.size :=
  ⟨bx_step hb h.1, ⟨(hb.cell (p := ⟨g, off, none⟩) h.2.2).trans h.2.1.1, (hb.cell (p := ⟨g, off + 1, none⟩) h.2.2).trans h.2.1.2⟩, Nat.lt_of_lt_of_le h.2.2 hb.size⟩
theorem r_step {p : Nat} {o : Nat} {f' : Int} (hb : Below W.heap.size W W') (h : Bx w k a b c fin s g off n cap W ∧ (W.cell? ⟨g, o, none⟩ = some (.int .i64 f) ∧ W.cell? ⟨p, 0, none⟩ = some (.int .i64 f') ∧ W.cell? ⟨p, 1, none⟩ = some (.int .i64 t)) ∧ (g < W.heap.size ∧ p < W.heap.size)) :
    Bx w k a b c fin s g off n cap W' ∧ (W'.cell? ⟨g, o, none⟩ = some (.int .i64 f) ∧ W'.cell? ⟨p, 0, none⟩ = some (.int .i64 f') ∧ W'.cell? ⟨p, 1, none⟩ = some (.int .i64 t)) ∧ (g < W'.heap.size ∧ p < W'.heap.size) :=
  ⟨bx_step hb h.1, ⟨(hb.cell (p := ⟨g, o, none⟩) h.2.2.1).trans h.2.1.1, (hb.cell (p := ⟨p, 0, none⟩) h.2.2.2).trans h.2.1.2.1, (hb.cell (p := ⟨p, 1, none⟩) h.2.2.2).trans h.2.1.2.2⟩, Nat.lt_of_lt_of_le h.2.2.1 hb.size, Nat.lt_of_lt_of_le h.2.2.2 hb.size⟩
theorem r_drew {p : Nat} {o : Nat} {f' : Int} (h : Bx w k a b c fin s g off n cap W ∧ (W.cell? ⟨g, o, none⟩ = some (.int .i64 f) ∧ W.cell? ⟨p, 0, none⟩ = some (.int .i64 f') ∧ W.cell? ⟨p, 1, none⟩ = some (.int .i64 t)) ∧ (g < W.heap.size ∧ p < W.heap.size)) :
    Bx w k a b c fin s g off n cap W.drew ∧ (W.drew.cell? ⟨g, o, none⟩ = some (.int .i64 f) ∧ W.drew.cell? ⟨p, 0, none⟩ = some (.int .i64 f') ∧ W.drew.cell? ⟨p, 1, none⟩ = some (.int .i64 t)) ∧ (g < W.drew.heap.size ∧ p < W.drew.heap.size) :=
  ⟨bx_drew h.1, h.2.1, h.2.2⟩
theorem y_drew (h : Bx w k a b c fin s g off n cap W ∧ (W.cell? ⟨g, off, none⟩ = some (.int .i64 f) ∧ W.cell? ⟨g, off + 1, none⟩ = some (.int .i64 t)) ∧ g < W.heap.size) :
    Bx w k a b c fin s g off n cap W.drew ∧ (W.drew.cell? ⟨g, off, none⟩ = some (.int .i64 f) ∧ W.drew.cell? ⟨g, off + 1, none⟩ = some (.int .i64 t)) ∧ g < W.drew.heap.size :=
  ⟨bx_drew h.1, h.2.1, h.2.2⟩
end

set_option maxRecDepth 100000 in
set_option maxHeartbeats 4000000 in
theorem l1Bytes_2 (a : Int) (s : ByteArray) (g off n cap : Nat) (F T : Nat → Int) (w : World) (hs : s.size ≤ 1048576) (hn1 : 1 ≤ n) (hn2 : n ≤ 20) (hR : Rr w g off n F T) (hA : allR F T n = true) (ha0 : 0 ≤ a) (ha1 : a ≤ 4611686018427387903) :
    Calls Tryd.prog 11 #[fv 2 a 0 0 false s g off n cap] w fun e w' => e = .returned (.string (ackT a n F T n)) ∧ Below w.heap.size w w' := by
  have hok := okR_all hA
  have h00 := okR_num (hok 0 (by omega))
  have z1 := VB_le 2
  have z2 := VB_le s.size
  have y1 := VB_le (T 0)
  have y2 := VB_le a
  have y3 := VB_le ((n : Int) - 1)
  have y4 := VB_le (T 0 - F 0)
  have ad0 := fun W : World => run_string_add_sum (P := Tryd.prog) (w := W) (VB s.size) s (by omega)
  have ad1 := fun W : World => run_string_add_sum (P := Tryd.prog) (w := W) (VB (T 0)) (VB a) (by omega)
  have ad2 := fun W : World => run_string_add_sum (P := Tryd.prog) (w := W) (VB (T 0) ++ VB a) (VB ((n : Int) - 1)) (by simp only [ByteArray.size_append]; omega)
  have ad3 := fun W : World => run_string_add_sum (P := Tryd.prog) (w := W) (VB (T 0) ++ VB a ++ VB ((n : Int) - 1)) (VB (T 0 - F 0)) (by simp only [ByteArray.size_append]; omega)
  have ad4 := fun W : World => run_string_add_sum (P := Tryd.prog) (w := W) (VB 2) (VB (T 0) ++ VB a ++ VB ((n : Int) - 1) ++ VB (T 0 - F 0)) (by simp only [ByteArray.size_append]; omega)
  have X0 := hide (bx_first (w := w) (k := 2) (a := a) (b := 0) (c := 0) (fin := false) (s := s) (g := g) (off := off) (n := n) (cap := cap) 36)
  have HR := hide hR
  have HO := hide hok
  have hn0 : (0 : Int) < (n : Int) := by omega
  have hnp : 0 < n := by omega
  have wn : IntKind.i64.wrap ((n : Int) - 1) = (n : Int) - 1 := by rw [IntKind.wrap_i64]; omega
  have wt : IntKind.i64.wrap (T 0 - F 0) = T 0 - F 0 := by rw [IntKind.wrap_i64]; omega
  clear hR hok hA
  go_enter Tryd.func11, Tryd.ntmps11
  go_wp2_with fail
  refine (l1Var_VB _ _ (by omega) (by omega)).mono ?_
  rintro e w1 ⟨rfl, hb1⟩
  have X1 := bx_step hb1 (unhide X0)
  clear hb1
  go_wp2_with fail
  go_region_held3 (fun W => Bx w 2 a 0 0 false s g off n cap W) (first | assumption | exact bx_step hb2 (by assumption) | exact bx_drew X1) (first | (go_at_call 21; refine (l1Var_VB _ _ (by omega) (by omega)).mono ?_; rintro e w2 ⟨rfl, hb2⟩))
  have X2 := bx_step hb2 (bx_drew X1)
  clear hb2 X1
  go_wp2_with fail
  have R2 := (unhide HR).below X2.2.2.2.2.2.2.2.2
  have cf2 : w2.cell? ⟨g, off, none⟩ = some (.int .i64 (F 0)) := by simpa using R2.cf 0 (by omega)
  have ct2 : w2.cell? ⟨g, off + 1, none⟩ = some (.int .i64 (T 0)) := by simpa using R2.ct 0 (by omega)
  have Y2 : Bx w 2 a 0 0 false s g off n cap w2 ∧ (w2.cell? ⟨g, off, none⟩ = some (.int .i64 (F 0)) ∧ w2.cell? ⟨g, off + 1, none⟩ = some (.int .i64 (T 0))) ∧ g < w2.heap.size := ⟨X2, ⟨cf2, ct2⟩, by rcases R2.lt with h | h; omega; exact h⟩
  go_region_held3 (fun W => Bx w 2 a 0 0 false s g off n cap W ∧ (W.cell? ⟨g, off, none⟩ = some (.int .i64 (F 0)) ∧ W.cell? ⟨g, off + 1, none⟩ = some (.int .i64 (T 0))) ∧ g < W.heap.size) (first | assumption | exact y_step hb3 (by assumption) | exact y_drew Y2) (first | (go_at_call 21; refine (l1Var_VB _ _ (by omega) (by omega)).mono ?_; rintro e w3 ⟨rfl, hb3⟩))
  rename_i hHeld
  have X3 := hHeld.1
  clear hHeld Y2 X2 R2 cf2 ct2 hb3 ad0 ad1 ad2 ad3 ad4 y1 y2 y3 y4 z1 z2 wt wn
  go_wp2
  go_loopw [3, 104] (fun sv iv wr => ∃ q : Nat, q ≤ n ∧ iv = .int .i64 q ∧ sv = .string (ackT a n F T q) ∧ Bx w 2 a 0 0 false s g off n cap wr) (fun _ iv _ => n - (intOf iv).toNat)
  case atStart => exact ⟨0, Nat.zero_le _, rfl, rfl, X3⟩
  case round =>
    obtain ⟨q, hq, rfl, rfl, XR⟩ := hrel
    clear X3
    by_cases hlt : q < n
    · have RR := (unhide HR).below XR.2.2.2.2.2.2.2.2
      have hcf := RR.cf q hlt
      have hct := RR.ct q hlt
      have hw := XR.2.2.2.2.2.2.2.1
      have hgw : g < wr.heap.size := by rcases RR.lt with h | h; omega; exact h
      have hnq := okR_num (unhide HO q hlt)
      cases q with
      | zero =>
        simp only [Nat.zero_mul, Nat.add_zero] at hcf hct
        have XA := bx_step ((Below.refl _ _).alloc (Nat.le_refl _) (.cells #[.int .i64 (F 0), .int .i64 (T 0)] 51)) XR
        go_wp2
        exact ⟨⟨1, by omega, rfl, rfl, XA⟩, by simp [intOf]; omega⟩
      | succ j =>
        have hj1 := okR_num (unhide HO j (by omega))
        have hgp := okR_gap (unhide HO (j + 1) hlt)
        have hcp := RR.cf j (by omega)
        have y1 := VB_le (F j - T (j + 1) - 2)
        have y2 := VB_le (T (j + 1) - F (j + 1))
        have y3 := ackT_size a n F T (j + 1)
        have wj : IntKind.i64.wrap (j : Int) = j := wraps_i64 _ (by omega) (by omega)
        have wa : IntKind.i64.wrap (F j - T (j + 1)) = F j - T (j + 1) := by rw [IntKind.wrap_i64]; omega
        have wb : IntKind.i64.wrap (F j - T (j + 1) - 2) = F j - T (j + 1) - 2 := by rw [IntKind.wrap_i64]; omega
        have wc : IntKind.i64.wrap (T (j + 1) - F (j + 1)) = T (j + 1) - F (j + 1) := by rw [IntKind.wrap_i64]; omega
        have ad1 := fun W : World => run_string_add_sum (P := Tryd.prog) (w := W) (VB (F j - T (j + 1) - 2)) (VB (T (j + 1) - F (j + 1))) (by omega)
        have ad2 := fun W : World => run_string_add_sum (P := Tryd.prog) (w := W) (ackT a n F T (j + 1)) (VB (F j - T (j + 1) - 2) ++ VB (T (j + 1) - F (j + 1))) (by simp only [ByteArray.size_append]; omega)
        have hj0 : (0 : Int) ≤ (j : Int) := by omega
        have hjn : (j : Int) < (n : Int) := by omega
        have hjN : j < n := by omega
        have HS : Hid (ackT a n F T (j + 1 + 1) = ackT a n F T (j + 1) ++ (VB (F j - T (j + 1) - 2) ++ VB (T (j + 1) - F (j + 1)))) := by show _ = _; rfl
        have Z1 : Bx w 2 a 0 0 false s g off n cap (wr.alloc (.cells #[.int .i64 (F (j + 1)), .int .i64 (T (j + 1))] 51)) ∧ ((wr.alloc (.cells #[.int .i64 (F (j + 1)), .int .i64 (T (j + 1))] 51)).cell? ⟨g, off + j * 2, none⟩ = some (.int .i64 (F j)) ∧ (wr.alloc (.cells #[.int .i64 (F (j + 1)), .int .i64 (T (j + 1))] 51)).cell? ⟨wr.heap.size, 0, none⟩ = some (.int .i64 (F (j + 1))) ∧ (wr.alloc (.cells #[.int .i64 (F (j + 1)), .int .i64 (T (j + 1))] 51)).cell? ⟨wr.heap.size, 1, none⟩ = some (.int .i64 (T (j + 1)))) ∧ (g < (wr.alloc (.cells #[.int .i64 (F (j + 1)), .int .i64 (T (j + 1))] 51)).heap.size ∧ wr.heap.size < (wr.alloc (.cells #[.int .i64 (F (j + 1)), .int .i64 (T (j + 1))] 51)).heap.size) := by
          refine ⟨bx_step ((Below.refl _ _).alloc (Nat.le_refl _) _) XR, ⟨?_, by simp, by simp⟩, by simp; omega, by simp⟩
          rw [World.cell?_alloc_lt _ _ _ (by exact hgw)]; exact hcp
        have HZ := hide Z1
        clear Z1
        go_wp2_with fail
        go_region_held3 (fun W => Bx w 2 a 0 0 false s g off n cap W ∧ (W.cell? ⟨g, off + j * 2, none⟩ = some (.int .i64 (F j)) ∧ W.cell? ⟨wr.heap.size, 0, none⟩ = some (.int .i64 (F (j + 1))) ∧ W.cell? ⟨wr.heap.size, 1, none⟩ = some (.int .i64 (T (j + 1)))) ∧ (g < W.heap.size ∧ wr.heap.size < W.heap.size)) (first | assumption | exact r_step hb4 (by assumption) | exact r_drew (unhide HZ)) (first | (go_at_call 21; refine (l1Var_VB _ _ (by omega) (by omega)).mono ?_; rintro e w4 ⟨rfl, hb4⟩))
        rename_i hHeld
        have X4 := hHeld.1
        clear hHeld hb4
        go_wp2
        exact ⟨⟨j + 2, by omega, by go_num, by rw [unhide HS], X4⟩, by simp [intOf]; omega⟩
    · obtain rfl : q = n := by omega
      go_wp2
      go_ret
      exact ⟨rfl, XR.2.2.2.2.2.2.2.2⟩
end Go.Proofs.YtcnpbcigndcheaaDoor
