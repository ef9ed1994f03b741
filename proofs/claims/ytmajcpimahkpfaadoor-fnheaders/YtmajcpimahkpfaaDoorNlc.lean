/-
  Contract: the bytes of a header of versions, as the model writes them.
-/
import Derived.Test.YtmajcpimahkpfaaDoorNlb
namespace Go.Proofs.YtmajcpimahkpfaaDoor
open Go.ChangeShapes Go.WideShapes Go.ChangeAt Go.RowKit
set_option linter.unusedVariables false

/-- a text with q words behind it -/
def sv (B : ByteArray) (V : Nat → Int) : Nat → ByteArray
  | 0 => B
  | q + 1 => sv B V q ++ FX (V q) 4
theorem sv_size (B : ByteArray) (V : Nat → Int) : ∀ q, (sv B V q).size = B.size + 4 * q
  | 0 => rfl
  | q + 1 => by
    have h := sv_size B V q
    show (sv B V q ++ FX (V q) 4).size = _
    rw [ByteArray.size_append, FX_size]; omega
theorem sv_list (B : ByteArray) (V : Nat → Int) : ∀ q, (sv B V q).data.toList = B.data.toList ++ wds V q
  | 0 => by simp [sv, wds]
  | q + 1 => by
    have h := sv_list B V q
    show (sv B V q ++ FX (V q) 4).data.toList = _
    simp [h, wds, FX_list, List.append_assoc]

set_option maxRecDepth 100000 in
set_option maxHeartbeats 4000000 in
theorem l2Bytes_4 (bi ve : Int) (d s t p : ByteArray) (g off n cap : Nat) (w : World) (hd : d.size ≤ 20) (hs : s.size ≤ 20) (ht : t.size ≤ 200) (hp : p.size ≤ 1200) (b0 : 0 ≤ bi) (b1 : bi ≤ 15) (V : Nat → Int) (hn : n ≤ 20) (hR : Ir w g off n V) (hN : ∀ i, i < n → 0 ≤ V i ∧ V i ≤ 4294967295) :
    Calls Tryd.prog 15 #[hv 4 bi ve d s t p (some ⟨g, off, none⟩) n cap] w fun e w' => e = .returned (.string (sv (FX (192 + bi) 1 ++ FX 0 4 ++ (FX d.size 1 ++ d) ++ (FX s.size 1 ++ s)) V n)) ∧ Below w.heap.size w w' := by
  have ad0 := fun W : World => run_string_add_sum (P := Tryd.prog) (w := W) (FX (192 + bi) 1) (FX 0 4) (by simp only [FX_size]; omega)
  have ad1 := fun W : World => run_string_add_sum (P := Tryd.prog) (w := W) (FX (192 + bi) 1 ++ FX 0 4) (FX d.size 1 ++ d) (by simp only [ByteArray.size_append, FX_size]; omega)
  have ad2 := fun W : World => run_string_add_sum (P := Tryd.prog) (w := W) (FX (192 + bi) 1 ++ FX 0 4 ++ (FX d.size 1 ++ d)) (FX s.size 1 ++ s) (by simp only [ByteArray.size_append, FX_size]; omega)
  have e0 : bits .or .i64 192 (IntKind.i64.wrap 0) = 192 := by decide +kernel
  have e1 := or_m 192 bi b0 b1 (by omega) (by omega) (by omega)
  have HA := hide (fun W => fix1 (192 + bi) W (by omega))
  have HD := hide (fun W => id_any d W (by omega))
  have HE := hide (fun W => id_any s W (by omega))
  have HV := hide (fun W => fix4 0 W (by omega))
  have X0 := hide (bh_first (w := w) (f := 4) (bi := bi) (ve := ve) (d := d) (s := s) (t := t) (p := p) (ra := some ⟨g, off, none⟩) (n := n) (cap := cap) 25)
  obtain ⟨c0, c1, c2, c3, c4, c5, c6, c7, c8, c9⟩ := unhide X0
  clear c9
  go_enter Tryd.func15, Tryd.ntmps15
  go_wp2_with fail
  go_region_held3 (fun W => Bh w 4 bi ve d s t p (some ⟨g, off, none⟩) n cap W) (first | assumption | exact bh_step hb1 (by assumption) | exact bh_drew (unhide X0) | exact unhide X0) (first | (go_at_call 31; with_reducible refine (unhide HA _).mono ?_; rintro e w1 ⟨rfl, hb1⟩) | (go_at_call 32; with_reducible refine (unhide HD _).mono ?_; rintro e w1 ⟨rfl, hb1⟩) | (go_at_call 32; with_reducible refine (unhide HE _).mono ?_; rintro e w1 ⟨rfl, hb1⟩) | (go_at_call 31; with_reducible refine (unhide HV _).mono ?_; rintro e w1 ⟨rfl, hb1⟩))
  all_goals
    rename_i hHeld
    have X1 := hide hHeld
    obtain ⟨d0, d1, d2, d3, d4, d5, d6, d7, d8, d9⟩ := hHeld
    clear X0 d9
    clear c0 c1 c2 c3 c4 c5 c6 c7 c8
    have hB : (FX (192 + bi) 1 ++ FX 0 4 ++ (FX d.size 1 ++ d) ++ (FX s.size 1 ++ s)).size = 7 + d.size + s.size := by simp only [ByteArray.size_append, FX_size]; omega
    generalize hBe : FX (192 + bi) 1 ++ FX 0 4 ++ (FX d.size 1 ++ d) ++ (FX s.size 1 ++ s) = B at *
    have HBe := hide hBe
    clear hBe
    go_wp2_with fail
    have HR := hide hR
    have HN := hide hN
    have B1 := (unhide X1).2.2.2.2.2.2.2.2.2
    clear hR hN X1 d0 d1 d2 d3 d4 d5 d6 d7 d8
    go_loopw [3, 40] (fun u i wr => ∃ q : Nat, q ≤ n ∧ i = .int .i64 q ∧ u = .string (sv B V q) ∧ Below w.heap.size w wr) (fun _ i _ => n - (intOf i).toNat)
    case atStart => exact ⟨0, Nat.zero_le _, rfl, rfl, B1⟩
    case round =>
      obtain ⟨q, hq, rfl, rfl, hbl⟩ := hrel
      by_cases hlt : q < n
      · have hR := (unhide HR).below hbl
        have hcv := hR.cv q hlt
        have hnn := unhide HN q hlt
        have hsz := sv_size B V q
        have ad := fun W : World => run_string_add_sum (P := Tryd.prog) (w := W) (sv B V q) (FX (V q) 4) (by rw [FX_size]; omega)
        have HF := hide (fun W => fix4 (V q) W (by omega))
        clear hR
        go_wp2_with (go_at_call 31; with_reducible refine (unhide HF _).mono ?_; rintro e w2 ⟨rfl, hb2⟩)
        exact ⟨⟨q + 1, by omega, by go_num, rfl, hbl.trans (hb2.mono hbl.size)⟩, by simp [intOf]; omega⟩
      · obtain rfl : q = n := by omega
        go_wp2
        go_ret
        exact ⟨by rw [unhide HBe]; rfl, hbl⟩

end Go.Proofs.YtmajcpimahkpfaaDoor
