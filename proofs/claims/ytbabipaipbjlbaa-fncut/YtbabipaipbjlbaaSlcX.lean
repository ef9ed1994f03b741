/-
  Contract: the bytes of a header of versions, as the model writes them. Contracts: HeaderBytes of the model, whatever header: some text, not long.
-/
import Derived.Test.YtbabipaipbjlbaaSlb
import Derived.Test.YtbabipaipbjlbaaGhqX
namespace Go.Proofs.Ytbabipaipbjlbaa
open Go.ChangeShapes Go.WideShapes Go.ChangeAt Go.RowKit
set_option linter.unusedVariables false

/-- a text with q words behind it -/
def svw (B : ByteArray) (V : Nat → Int) : Nat → ByteArray
  | 0 => B
  | q + 1 => svw B V q ++ FX (V q) 4
theorem svw_size (B : ByteArray) (V : Nat → Int) : ∀ q, (svw B V q).size = B.size + 4 * q
  | 0 => rfl
  | q + 1 => by
    have h := svw_size B V q
    show (svw B V q ++ FX (V q) 4).size = _
    rw [ByteArray.size_append, FX_size]; omega
set_option maxRecDepth 100000 in
set_option maxHeartbeats 4000000 in
theorem l2Bytes_4 (bi ve : Int) (d s t p : ByteArray) (g off n cap : Nat) (w : World) (hd : d.size ≤ 20) (hs : s.size ≤ 20) (ht : t.size ≤ 200) (hp : p.size ≤ 1200) (b0 : 0 ≤ bi) (b1 : bi ≤ 15) (V : Nat → Int) (hn : n ≤ 20) (hR : Ir w g off n V) (hN : ∀ i, i < n → 0 ≤ V i ∧ V i ≤ 4294967295) :
    Calls Try.prog 109 #[hv 4 bi ve d s t p (some ⟨g, off, none⟩) n cap] w fun e w' => e = .returned (.string (svw (FX (192 + bi) 1 ++ FX 0 4 ++ (FX d.size 1 ++ d) ++ (FX s.size 1 ++ s)) V n)) ∧ Below w.heap.size w w' := by
  have ad0 := fun W : World => run_string_add_sum (P := Try.prog) (w := W) (FX (192 + bi) 1) (FX 0 4) (by simp only [FX_size]; omega)
  have ad1 := fun W : World => run_string_add_sum (P := Try.prog) (w := W) (FX (192 + bi) 1 ++ FX 0 4) (FX d.size 1 ++ d) (by simp only [ByteArray.size_append, FX_size]; omega)
  have ad2 := fun W : World => run_string_add_sum (P := Try.prog) (w := W) (FX (192 + bi) 1 ++ FX 0 4 ++ (FX d.size 1 ++ d)) (FX s.size 1 ++ s) (by simp only [ByteArray.size_append, FX_size]; omega)
  have e0 : bits .or .i64 192 (IntKind.i64.wrap 0) = 192 := by decide +kernel
  have e1 := or_m 192 bi b0 b1 (by omega) (by omega) (by omega)
  have HA := hide (fun W => fix1 (192 + bi) W (by omega))
  have HD := hide (fun W => id_any d W (by omega))
  have HE := hide (fun W => id_any s W (by omega))
  have HV := hide (fun W => fix4 0 W (by omega))
  have X0 := hide (bh_first (w := w) (f := 4) (bi := bi) (ve := ve) (d := d) (s := s) (t := t) (p := p) (ra := some ⟨g, off, none⟩) (n := n) (cap := cap) 49)
  obtain ⟨c0, c1, c2, c3, c4, c5, c6, c7, c8, c9⟩ := unhide X0
  clear c9
  go_enter Try.func109, Try.ntmps109
  go_wp2_with fail
  go_region_held3 (fun W => Bh w 4 bi ve d s t p (some ⟨g, off, none⟩) n cap W) (first | assumption | exact bh_step hb1 (by assumption) | exact bh_drew (unhide X0) | exact unhide X0) (first | (go_at_call 118; with_reducible refine (unhide HA _).mono ?_; rintro e w1 ⟨rfl, hb1⟩) | (go_at_call 119; with_reducible refine (unhide HD _).mono ?_; rintro e w1 ⟨rfl, hb1⟩) | (go_at_call 119; with_reducible refine (unhide HE _).mono ?_; rintro e w1 ⟨rfl, hb1⟩) | (go_at_call 118; with_reducible refine (unhide HV _).mono ?_; rintro e w1 ⟨rfl, hb1⟩))
  all_goals
    rename_i hHeld
    have X1 := hide hHeld
    obtain ⟨d0, d1, d2, d3, d4, d5, d6, d7, d8, d9⟩ := hHeld
    clear X0 d9
    clear c0 c1 c2 c3 c4 c5 c6 c7 c8
    have hB : (FX (192 + bi) 1 ++ FX 0 4 ++ (FX d.size 1 ++ d) ++ (FX s.size 1 ++ s)).size = 7 + d.size + s.size := by simp only [ByteArray.size_append, FX_size]; omega
    generalize hBe : FX (192 + bi) 1 ++ FX 0 4 ++ (FX d.size 1 ++ d) ++ (FX s.size 1 ++ s) = B at *
    have HBe := hide hBe
    clear hBe
    go_wp2_with fail
    have HR := hide hR
    have HN := hide hN
    have B1 := (unhide X1).2.2.2.2.2.2.2.2.2
    clear hR hN X1 d0 d1 d2 d3 d4 d5 d6 d7 d8
    go_loopw [3, 40] (fun u i wr => ∃ q : Nat, q ≤ n ∧ i = .int .i64 q ∧ u = .string (svw B V q) ∧ Below w.heap.size w wr) (fun _ i _ => n - (intOf i).toNat)
    case atStart => exact ⟨0, Nat.zero_le _, rfl, rfl, B1⟩
    case round =>
      obtain ⟨q, hq, rfl, rfl, hbl⟩ := hrel
      by_cases hlt : q < n
      · have hR := (unhide HR).below hbl
        have hcv := hR.cv q hlt
        have hnn := unhide HN q hlt
        have hsz := svw_size B V q
        have ad := fun W : World => run_string_add_sum (P := Try.prog) (w := W) (svw B V q) (FX (V q) 4) (by rw [FX_size]; omega)
        have HF := hide (fun W => fix4 (V q) W (by omega))
        clear hR
        go_wp2_with (go_at_call 118; with_reducible refine (unhide HF _).mono ?_; rintro e w2 ⟨rfl, hb2⟩)
        exact ⟨⟨q + 1, by omega, by go_num, rfl, hbl.trans (hb2.mono hbl.size)⟩, by simp [intOf]; omega⟩
      · obtain rfl : q = n := by omega
        go_wp2
        go_ret
        exact ⟨by rw [unhide HBe]; rfl, hbl⟩

end Go.Proofs.Ytbabipaipbjlbaa
namespace Go.Proofs.Ytbabipaipbjlbaa
open Go.ChangeShapes Go.WideShapes Go.ChangeAt Go.RowKit
set_option linter.unusedVariables false
set_option linter.unusedSectionVars false

theorem Ia.alloc {w : World} {a : Option Addr} {n cap : Nat} {V : Nat → Int} (h : Ia w a n cap V) (o : Obj) : Ia (w.alloc o) a n cap V := h.below ((Below.refl _ _).alloc (Nat.le_refl _) _)
section
variable (f bi ve : Int) (d s t p : ByteArray) (n : Nat) (V : Nat → Int) (hd : d.size ≤ 1048576) (hs : s.size ≤ 1048576) (ht : t.size ≤ 1048576) (hp : p.size ≤ 1048576) (hn : n ≤ 1048576)
include hd hs ht hp hn

set_option maxHeartbeats 1000000 in
theorem specHB_no (ra : Option Addr) (cap : Nat) (w : World) (hR : Ia w ra n cap V) (h : gh f bi ve d.size s.size t.size p.size n V = false) :
    Calls Try.prog 90 #[hv f bi ve d s t p ra n cap] w fun e w' => e = .returned (.tuple #[.string ⟨#[]⟩, .bool false]) ∧ Below w.heap.size w w' := by
  have HG := hide (fun W (hr : Ia W ra n cap V) => specGood_ra f bi ve d s t p ra n cap V W hd hs ht hp hn hr)
  rw [h] at HG
  clear h
  have HR := hide hR
  clear hR
  go_enter Try.func90, Try.ntmps90
  go_wp2_with fail
  refine (unhide HG _ ((unhide HR).alloc _)).mono ?_
  rintro e w1 ⟨rfl, hb1⟩
  go_wp2
  go_ret2
  exact ⟨rfl, ((Below.refl _ _).alloc (Nat.le_refl _) _).trans (hb1.mono (by simp))⟩

set_option maxHeartbeats 1000000 in
theorem specHB_yes (B : ByteArray) (ra : Option Addr) (cap : Nat) (w : World) (hR : Ia w ra n cap V) (h : gh f bi ve d.size s.size t.size p.size n V = true)
    (hL : ∀ W, Ia W ra n cap V → Calls Try.prog 109 #[hv f bi ve d s t p ra n cap] W fun e w' => e = .returned (.string B) ∧ Below W.heap.size W w') :
    Calls Try.prog 90 #[hv f bi ve d s t p ra n cap] w fun e w' => e = .returned (.tuple #[.string B, .bool true]) ∧ Below w.heap.size w w' := by
  have HG := hide (fun W (hr : Ia W ra n cap V) => specGood_ra f bi ve d s t p ra n cap V W hd hs ht hp hn hr)
  rw [h] at HG
  clear h
  have HL := hide hL
  have HR := hide hR
  clear hR hL
  go_enter Try.func90, Try.ntmps90
  go_wp2_with fail
  refine (unhide HG _ ((unhide HR).alloc _)).mono ?_
  rintro e w1 ⟨rfl, hb1⟩
  obtain ⟨hc1, hf1⟩ := bcell hb1
  have R1 := hide (((unhide HR).alloc _).below hb1)
  have B1 : Below w.heap.size w w1 := ((Below.refl _ _).alloc (Nat.le_refl _) _).trans (hb1.mono (by simp))
  go_wp2_with fail
  refine (unhide HL _ (unhide R1)).mono ?_
  rintro e w2 ⟨rfl, hb2⟩
  go_wp2
  go_ret2
  exact ⟨rfl, B1.trans (hb2.mono B1.size)⟩

theorem specHB_w (ra : Option Addr) (cap : Nat) (w : World) (hr : Ia w ra n cap V) :
    ∃ (B : ByteArray) (r : Bool), B.size ≤ 2000 ∧ Calls Try.prog 90 #[hv f bi ve d s t p ra n cap] w fun e w' => e = .returned (.tuple #[.string B, .bool r]) ∧ Below w.heap.size w w' := by
  cases h : gh f bi ve d.size s.size t.size p.size n V with
  | false => exact ⟨_, _, by show 0 ≤ _; omega, specHB_no f bi ve d s t p n V hd hs ht hp hn ra cap w hr h⟩
  | true =>
    obtain ⟨d2, s2, b0, b1, hg⟩ := of_decide_eq_true h
    obtain ⟨p2, t2, _, n0, k⟩ := gpB_lim hg
    rcases k with rfl | rfl | rfl | rfl | rfl | rfl
    · rw [gpB_0] at hg
      have hq := of_decide_eq_true hg
      have hy := of_decide_eq_true hq.2.1
      refine ⟨_, true, ?_, specHB_yes 0 bi ve d s t p n V hd hs ht hp hn _ ra cap w hr h (fun W _ => l2Bytes_0 bi ve d s t p ra n cap W d2 s2 t2 p2 b0 b1 (by omega) hy.2)⟩
      have v8 := VB_le (t.size : Int)
      simp only [ByteArray.size_append, FX_size]
      omega
    · rw [gpB_1] at hg
      have hq := of_decide_eq_true hg
      have hy := of_decide_eq_true hq.2.1
      refine ⟨_, true, ?_, specHB_yes 1 bi ve d s t p n V hd hs ht hp hn _ ra cap w hr h (fun W _ => l2Bytes_1 bi ve d s t p ra n cap W d2 s2 t2 p2 b0 b1 (by omega) hy.2)⟩
      have v8 := VB_le (t.size : Int)
      simp only [ByteArray.size_append, FX_size]
      omega
    · rw [gpB_2] at hg
      have hq := of_decide_eq_true hg
      have hy := of_decide_eq_true hq.2.1
      refine ⟨_, true, ?_, specHB_yes 2 bi ve d s t p n V hd hs ht hp hn _ ra cap w hr h (fun W _ => l2Bytes_2 bi ve d s t p ra n cap W d2 s2 t2 p2 b0 b1 (by omega) hy.2)⟩
      have v8 := VB_le (t.size : Int)
      simp only [ByteArray.size_append, FX_size]
      omega
    · rw [gpB_3] at hg
      have hq := of_decide_eq_true hg
      have hy := of_decide_eq_true hq.2.1
      refine ⟨_, true, ?_, specHB_yes 3 bi ve d s t p n V hd hs ht hp hn _ ra cap w hr h (fun W _ => l2Bytes_3 bi ve d s t p ra n cap W d2 s2 t2 p2 b0 b1 (by omega) hy.2)⟩
      have v8 := VB_le (t.size : Int)
      simp only [ByteArray.size_append, FX_size]
      omega
    · rw [gpB_4] at hg
      have hq := of_decide_eq_true hg
      obtain rfl : ve = 0 := hq.2.1
      have hy := of_decide_eq_true hq.2.2.2.2
      have hN : ∀ i, i < n → 0 ≤ V i ∧ V i ≤ 4294967295 := fun i hi => of_decide_eq_true (List.all_eq_true.1 hy.2.2 i (List.mem_range.2 hi))
      rcases hr with h9 | ⟨g, off, rfl, hr⟩
      · omega
      obtain ⟨B, hB, HL⟩ : ∃ B : ByteArray, B.size ≤ 2000 ∧ ∀ W, Ir W g off n V → Calls Try.prog 109 #[hv 4 bi 0 d s t p (some ⟨g, off, none⟩) n cap] W fun e w' => e = .returned (.string B) ∧ Below W.heap.size W w' := by
        refine ⟨_, ?_, fun W hW => l2Bytes_4 bi 0 d s t p g off n cap W d2 s2 t2 p2 b0 b1 V hy.2.1 hW hN⟩
        rw [svw_size]
        simp only [ByteArray.size_append, FX_size]
        omega
      exact ⟨B, true, hB, specHB_yes 4 bi 0 d s t p n V hd hs ht hp hn B (some ⟨g, off, none⟩) cap w (Or.inr ⟨g, off, rfl, hr⟩) h (fun W hW => by
        rcases hW with h9 | ⟨g', off', h9, hW⟩
        · omega
        · cases h9
          exact HL W hW)⟩
    · rw [gpB_5] at hg
      have hq := of_decide_eq_true hg
      obtain rfl : ve = 0 := hq.2.1
      refine ⟨_, true, ?_, specHB_yes 5 bi 0 d s t p n V hd hs ht hp hn _ ra cap w hr h (fun W _ => l2Bytes_5 bi 0 d s t p ra n cap W d2 s2 t2 p2 b0 b1)⟩
      simp only [ByteArray.size_append, FX_size]
      omega
end
end Go.Proofs.Ytbabipaipbjlbaa
