/-
  Contracts: HeaderBytes as the program makes it, form by form.
-/
import Derived.Test.YtmajcpimahkpfaaDoorNmk
namespace Go.Proofs.YtmajcpimahkpfaaDoor
open Go.ChangeShapes Go.WideShapes Go.ChangeAt Go.RowKit
set_option linter.unusedVariables false

set_option maxRecDepth 100000 in
set_option maxHeartbeats 4000000 in
theorem implHB_0 (bi ve : Int) (d s t p : ByteArray) (ra : Option Addr) (n cap : Nat) (V : Nat → Int) (w : World) (htz : Tz w) (hR : Ia w ra n cap V) (h : gh 0 bi ve d.size s.size t.size p.size n V = true) (b0 : 0 ≤ bi) (b1 : bi ≤ 15) (hd : d.size ≤ 20) (hs : s.size ≤ 20) (ht : t.size ≤ 200) (hp : p.size ≤ 1200) (hv0 : 0 ≤ ve) (hv1 : ve ≤ 4294967295) (hn : n ≤ 20) (hN : ∀ i, i < n → 0 ≤ V i ∧ V i ≤ 4294967295) :
    Calls Tryd.prog 5 #[hv 0 bi ve d s t p ra n cap] w fun e w' => e = .returned (.tuple #[.string ⟨(fx (192 + bi) 1 1 ++ (AD ve d s ++ (vb t.size ++ (t.data.toList ++ (fx ((p.size : Int) + 16384) 2 2 ++ p.data.toList))))).toArray⟩, .bool true]) ∧ Below w.heap.size w w' := by
  have HG := hide (fun W (hr : Ia W ra n cap V) => implGood_any 0 bi ve d s t p ra n cap V W (by omega) (by omega) (by omega) (by omega) (by omega) hr)
  rw [h] at HG
  clear h
  have HM := hide (fun W => mark_0 W)
  have mm := meth_0
  have HF := hide (fun W => formOf_0 W)
  have HR := hide hR
  have HT := hide htz
  have HNn := hide hN
  have hg1 := tz_lt htz
  have e1 : bits .or .i64 192 bi = 192 + bi := or_m 192 bi b0 b1 (by omega) (by omega) (by omega)
  have wb : IntKind.u8.wrap (192 + bi) = 192 + bi := by rw [IntKind.wrap_u8]; omega
  clear hR htz hN
  go_enter Tryd.func5, Tryd.ntmps5
  go_wp2_with fail
  refine (unhide HG _ ((unhide HR).alloc _)).mono ?_
  rintro e w1 ⟨rfl, hb1⟩
  have X1 := hide (bh_step hb1 (bh_first (w := w) (f := 0) (bi := bi) (ve := ve) (d := d) (s := s) (t := t) (p := p) (ra := ra) (n := n) (cap := cap) 25))
  obtain ⟨c0, c1, c2, c3, c4, c5, c6, c7, c8, c9⟩ := unhide X1
  clear c9 hb1 HG
  have HW := hide (fun (w2 : World) (hb2 : Below w1.drew.heap.size w1.drew w2) => (bh_step hb2 (bh_drew (unhide X1))))
  go_wp2_with (go_at_call 12; refine (unhide HF _).mono ?_; rintro e wf ⟨rfl, rfl⟩)
  have HP := hide (fun (w2 : World) (B2 : Below w.heap.size w w2) => ap_0 (.slice (some ⟨w2.heap.size, 0, none⟩) 1 1) (fx (192 + bi) 1 1) bi ve d s t p ra n cap (w2.alloc (.cells #[.int .u8 (192 + bi)] 5)) w2.heap.size (ow_lit w2 w2.heap.size (192 + bi) (by omega) (by omega) (Nat.le_refl _)) (by simp) ((unhide HT).below (B2.alloc B2.size _)) (Nat.lt_of_lt_of_le hg1 B2.size) (by rw [fx_length]; omega) hd hs ht hp hv0 hv1)
  go_region_with (first | (go_at_call 81; with_reducible refine (unhide HM _).mono ?_; rintro e w2 ⟨rfl, hb2⟩; obtain ⟨f0, f1, f2, f3, f4, f5, f6, f7, f8, f9⟩ := unhide HW w2 hb2) | (go_at_call 13; have hyy := unhide HP w2 f9; refine hyy.mono ?_; clear hyy; rintro e w3 ⟨v3, rfl, o3, b3⟩; simp only [List.append_assoc] at o3; have hb3 : Below w2.heap.size w2 w3 := ((Below.refl w2.heap.size w2).alloc (Nat.le_refl _) _).trans b3; have hcv := own_string Tryd.prog w3 w2.heap.size 22 9 5 _ _ _ Tryd.underlying22 Tryd.underlying5 Tryd.underlying9 o3))
  all_goals
    have Z := (unhide HW w2 hb2).2.2.2.2.2.2.2.2.2
    have Z3 := Z.trans (hb3.mono Z.size)
    clear Z o3 b3 hb3 hcv HP HW HM X1
    go_wp2
    go_ret2
    exact ⟨rfl, Z3⟩

set_option maxRecDepth 100000 in
set_option maxHeartbeats 4000000 in
theorem implHB_1 (bi ve : Int) (d s t p : ByteArray) (ra : Option Addr) (n cap : Nat) (V : Nat → Int) (w : World) (htz : Tz w) (hR : Ia w ra n cap V) (h : gh 1 bi ve d.size s.size t.size p.size n V = true) (b0 : 0 ≤ bi) (b1 : bi ≤ 15) (hd : d.size ≤ 20) (hs : s.size ≤ 20) (ht : t.size ≤ 200) (hp : p.size ≤ 1200) (hv0 : 0 ≤ ve) (hv1 : ve ≤ 4294967295) (hn : n ≤ 20) (hN : ∀ i, i < n → 0 ≤ V i ∧ V i ≤ 4294967295) :
    Calls Tryd.prog 5 #[hv 1 bi ve d s t p ra n cap] w fun e w' => e = .returned (.tuple #[.string ⟨(fx (208 + bi) 1 1 ++ (AD ve d s ++ (fx ((p.size : Int) + 16384) 2 2 ++ p.data.toList))).toArray⟩, .bool true]) ∧ Below w.heap.size w w' := by
  have HG := hide (fun W (hr : Ia W ra n cap V) => implGood_any 1 bi ve d s t p ra n cap V W (by omega) (by omega) (by omega) (by omega) (by omega) hr)
  rw [h] at HG
  clear h
  have HM := hide (fun W => mark_1 W)
  have mm := meth_1
  have HF := hide (fun W => formOf_1 W)
  have HR := hide hR
  have HT := hide htz
  have HNn := hide hN
  have hg1 := tz_lt htz
  have e1 : bits .or .i64 208 bi = 208 + bi := or_m 208 bi b0 b1 (by omega) (by omega) (by omega)
  have wb : IntKind.u8.wrap (208 + bi) = 208 + bi := by rw [IntKind.wrap_u8]; omega
  clear hR htz hN
  go_enter Tryd.func5, Tryd.ntmps5
  go_wp2_with fail
  refine (unhide HG _ ((unhide HR).alloc _)).mono ?_
  rintro e w1 ⟨rfl, hb1⟩
  have X1 := hide (bh_step hb1 (bh_first (w := w) (f := 1) (bi := bi) (ve := ve) (d := d) (s := s) (t := t) (p := p) (ra := ra) (n := n) (cap := cap) 25))
  obtain ⟨c0, c1, c2, c3, c4, c5, c6, c7, c8, c9⟩ := unhide X1
  clear c9 hb1 HG
  have HW := hide (fun (w2 : World) (hb2 : Below w1.drew.heap.size w1.drew w2) => (bh_step hb2 (bh_drew (unhide X1))))
  go_wp2_with (go_at_call 12; refine (unhide HF _).mono ?_; rintro e wf ⟨rfl, rfl⟩)
  have HP := hide (fun (w2 : World) (B2 : Below w.heap.size w w2) => ap_1 (.slice (some ⟨w2.heap.size, 0, none⟩) 1 1) (fx (208 + bi) 1 1) bi ve d s t p ra n cap (w2.alloc (.cells #[.int .u8 (208 + bi)] 5)) w2.heap.size (ow_lit w2 w2.heap.size (208 + bi) (by omega) (by omega) (Nat.le_refl _)) (by simp) ((unhide HT).below (B2.alloc B2.size _)) (Nat.lt_of_lt_of_le hg1 B2.size) (by rw [fx_length]; omega) hd hs ht hp hv0 hv1)
  go_region_with (first | (go_at_call 82; with_reducible refine (unhide HM _).mono ?_; rintro e w2 ⟨rfl, hb2⟩; obtain ⟨f0, f1, f2, f3, f4, f5, f6, f7, f8, f9⟩ := unhide HW w2 hb2) | (go_at_call 13; have hyy := unhide HP w2 f9; refine hyy.mono ?_; clear hyy; rintro e w3 ⟨v3, rfl, o3, b3⟩; have hb3 : Below w2.heap.size w2 w3 := ((Below.refl w2.heap.size w2).alloc (Nat.le_refl _) _).trans b3; have hcv := own_string Tryd.prog w3 w2.heap.size 22 9 5 _ _ _ Tryd.underlying22 Tryd.underlying5 Tryd.underlying9 o3))
  all_goals
    have Z := (unhide HW w2 hb2).2.2.2.2.2.2.2.2.2
    have Z3 := Z.trans (hb3.mono Z.size)
    clear Z o3 b3 hb3 hcv HP HW HM X1
    go_wp2
    go_ret2
    exact ⟨rfl, Z3⟩

end Go.Proofs.YtmajcpimahkpfaaDoor
