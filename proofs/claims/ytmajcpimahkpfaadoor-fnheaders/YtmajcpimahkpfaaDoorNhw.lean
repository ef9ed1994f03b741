/-
  Contracts: HeaderBytes: the model's answer and the program's are one.
-/
import Derived.Test.YtmajcpimahkpfaaDoorNhA
import Derived.Test.YtmajcpimahkpfaaDoorNhB
import Derived.Test.YtmajcpimahkpfaaDoorNhC
import Derived.Test.YtmajcpimahkpfaaDoorGhr
namespace Go.Proofs.YtmajcpimahkpfaaDoor
open Go.ChangeShapes Go.WideShapes Go.ChangeAt Go.RowKit
set_option linter.unusedVariables false
set_option linter.unusedSectionVars false

theorem ba_list {B : ByteArray} {L : List UInt8} (h : B.data.toList = L) : B = ⟨L.toArray⟩ := by subst h; rfl
theorem hb_conv {P : Program} {F : Nat} {vs : Array Value} {w : World} {B C : ByteArray} (e : B = C) (h : Calls P F vs w fun e w' => e = .returned (.tuple #[.string B, .bool true]) ∧ Below w.heap.size w w') : Calls P F vs w fun e w' => e = .returned (.tuple #[.string C, .bool true]) ∧ Below w.heap.size w w' := e ▸ h
/-- a good header's bytes -/
def HBL (f bi ve : Int) (d s t p : ByteArray) (n : Nat) (V : Nat → Int) : List UInt8 :=
  if f = 0 then fx (192 + bi) 1 1 ++ (AD ve d s ++ (vb t.size ++ (t.data.toList ++ (fx ((p.size : Int) + 16384) 2 2 ++ p.data.toList))))
  else if f = 1 then fx (208 + bi) 1 1 ++ (AD ve d s ++ (fx ((p.size : Int) + 16384) 2 2 ++ p.data.toList))
  else if f = 2 then fx (224 + bi) 1 1 ++ (AD ve d s ++ (fx ((p.size : Int) + 16384) 2 2 ++ p.data.toList))
  else if f = 3 then fx (240 + bi) 1 1 ++ (AD ve d s ++ p.data.toList)
  else if f = 4 then fx (192 + bi) 1 1 ++ (AD ve d s ++ wds V n)
  else fx (64 + bi) 1 1 ++ (d.data.toList ++ p.data.toList)
def HBW (f bi ve : Int) (d s t p : ByteArray) (n : Nat) (V : Nat → Int) : ByteArray := ⟨(HBL f bi ve d s t p n V).toArray⟩
section
variable (f bi ve : Int) (d s t p : ByteArray) (n : Nat) (V : Nat → Int) (hd : d.size ≤ 1048576) (hs : s.size ≤ 1048576) (ht : t.size ≤ 1048576) (hp : p.size ≤ 1048576) (hn : n ≤ 1048576)
include hd hs ht hp hn

set_option maxHeartbeats 1000000 in
theorem specHB_no (ra : Option Addr) (cap : Nat) (w : World) (hR : Ia w ra n cap V) (h : gh f bi ve d.size s.size t.size p.size n V = false) :
    Calls Tryd.prog 6 #[hv f bi ve d s t p ra n cap] w fun e w' => e = .returned (.tuple #[.string ⟨#[]⟩, .bool false]) ∧ Below w.heap.size w w' := by
  have HG := hide (fun W (hr : Ia W ra n cap V) => specGood_ra f bi ve d s t p ra n cap V W hd hs ht hp hn hr)
  rw [h] at HG
  clear h
  have HR := hide hR
  clear hR
  go_enter Tryd.func6, Tryd.ntmps6
  go_wp2_with fail
  refine (unhide HG _ ((unhide HR).alloc _)).mono ?_
  rintro e w1 ⟨rfl, hb1⟩
  go_wp2
  go_ret2
  exact ⟨rfl, ((Below.refl _ _).alloc (Nat.le_refl _) _).trans (hb1.mono (by simp))⟩

set_option maxHeartbeats 1000000 in
theorem specHB_yes (B : ByteArray) (ra : Option Addr) (cap : Nat) (w : World) (hR : Ia w ra n cap V) (h : gh f bi ve d.size s.size t.size p.size n V = true)
    (hL : ∀ W, Ia W ra n cap V → Calls Tryd.prog 15 #[hv f bi ve d s t p ra n cap] W fun e w' => e = .returned (.string B) ∧ Below W.heap.size W w') :
    Calls Tryd.prog 6 #[hv f bi ve d s t p ra n cap] w fun e w' => e = .returned (.tuple #[.string B, .bool true]) ∧ Below w.heap.size w w' := by
  have HG := hide (fun W (hr : Ia W ra n cap V) => specGood_ra f bi ve d s t p ra n cap V W hd hs ht hp hn hr)
  rw [h] at HG
  clear h
  have HL := hide hL
  have HR := hide hR
  clear hR hL
  go_enter Tryd.func6, Tryd.ntmps6
  go_wp2_with fail
  refine (unhide HG _ ((unhide HR).alloc _)).mono ?_
  rintro e w1 ⟨rfl, hb1⟩
  obtain ⟨hc1, hf1⟩ := bcell hb1
  have R1 := hide (((unhide HR).alloc _).below hb1)
  have B1 : Below w.heap.size w w1 := ((Below.refl _ _).alloc (Nat.le_refl _) _).trans (hb1.mono (by simp))
  go_wp2_with fail
  refine (unhide HL _ (unhide R1)).mono ?_
  rintro e w2 ⟨rfl, hb2⟩
  go_wp2
  go_ret2
  exact ⟨rfl, B1.trans (hb2.mono B1.size)⟩

set_option maxHeartbeats 1000000 in
theorem implHB_no (ra : Option Addr) (cap : Nat) (w : World) (hR : Ia w ra n cap V) (h : gh f bi ve d.size s.size t.size p.size n V = false) :
    Calls Tryd.prog 5 #[hv f bi ve d s t p ra n cap] w fun e w' => e = .returned (.tuple #[.string ⟨#[]⟩, .bool false]) ∧ Below w.heap.size w w' := by
  have HG := hide (fun W (hr : Ia W ra n cap V) => implGood_any f bi ve d s t p ra n cap V W hd hs ht hp hn hr)
  rw [h] at HG
  clear h
  have HR := hide hR
  clear hR
  go_enter Tryd.func5, Tryd.ntmps5
  go_wp2_with fail
  refine (unhide HG _ ((unhide HR).alloc _)).mono ?_
  rintro e w1 ⟨rfl, hb1⟩
  go_wp2
  go_ret2
  exact ⟨rfl, ((Below.refl _ _).alloc (Nat.le_refl _) _).trans (hb1.mono (by simp))⟩

set_option maxHeartbeats 1000000 in
theorem hbI (ra : Option Addr) (cap : Nat) (w : World) (htz : Tz w) (hr : Ia w ra n cap V) (h : gh f bi ve d.size s.size t.size p.size n V = true) :
    Calls Tryd.prog 5 #[hv f bi ve d s t p ra n cap] w fun e w' => e = .returned (.tuple #[.string (HBW f bi ve d s t p n V), .bool true]) ∧ Below w.heap.size w w' := by
  obtain ⟨d2, s2, b0, b1, hg⟩ := of_decide_eq_true h
  obtain ⟨p2, t2, _, n0, k⟩ := gpB_lim hg
  rcases k with rfl | rfl | rfl | rfl | rfl | rfl
  · rw [gpB_0] at hg
    have hq := of_decide_eq_true hg
    have hy := of_decide_eq_true hq.2.1
    have hz : n = 0 := n0 (by omega)
    exact implHB_0 bi ve d s t p ra n cap V w htz hr h b0 b1 d2 s2 t2 p2 (by omega) hy.2 (by omega) (fun i hi => by omega)
  · rw [gpB_1] at hg
    have hq := of_decide_eq_true hg
    have hy := of_decide_eq_true hq.2.1
    have hz : n = 0 := n0 (by omega)
    exact implHB_1 bi ve d s t p ra n cap V w htz hr h b0 b1 d2 s2 t2 p2 (by omega) hy.2 (by omega) (fun i hi => by omega)
  · rw [gpB_2] at hg
    have hq := of_decide_eq_true hg
    have hy := of_decide_eq_true hq.2.1
    have hz : n = 0 := n0 (by omega)
    exact implHB_2 bi ve d s t p ra n cap V w htz hr h b0 b1 d2 s2 t2 p2 (by omega) hy.2 (by omega) (fun i hi => by omega)
  · rw [gpB_3] at hg
    have hq := of_decide_eq_true hg
    have hy := of_decide_eq_true hq.2.1
    have hz : n = 0 := n0 (by omega)
    exact implHB_3 bi ve d s t p ra n cap V w htz hr h b0 b1 d2 s2 t2 p2 (by omega) hy.2 (by omega) (fun i hi => by omega)
  · rw [gpB_4] at hg
    have hq := of_decide_eq_true hg
    obtain rfl : ve = 0 := hq.2.1
    have hy := of_decide_eq_true hq.2.2.2.2
    have hN : ∀ i, i < n → 0 ≤ V i ∧ V i ≤ 4294967295 := fun i hi => of_decide_eq_true (List.all_eq_true.1 hy.2.2 i (List.mem_range.2 hi))
    rcases hr with h9 | ⟨g, off, rfl, hr⟩
    · omega
    exact implHB_4 bi 0 d s t p g off n cap V w htz hr h b0 b1 d2 s2 t2 p2 (by omega) (by omega) hy.2.1 hN
  · rw [gpB_5] at hg
    have hq := of_decide_eq_true hg
    obtain rfl : ve = 0 := hq.2.1
    have hz : n = 0 := n0 (by omega)
    exact implHB_5 bi 0 d s t p ra n cap V w htz hr h b0 b1 d2 s2 t2 p2 (by omega) (by omega) (by omega) (fun i hi => by omega)
set_option maxHeartbeats 1000000 in
theorem hbS (ra : Option Addr) (cap : Nat) (w : World) (hr : Ia w ra n cap V) (h : gh f bi ve d.size s.size t.size p.size n V = true) :
    Calls Tryd.prog 6 #[hv f bi ve d s t p ra n cap] w fun e w' => e = .returned (.tuple #[.string (HBW f bi ve d s t p n V), .bool true]) ∧ Below w.heap.size w w' := by
  obtain ⟨d2, s2, b0, b1, hg⟩ := of_decide_eq_true h
  obtain ⟨p2, t2, _, n0, k⟩ := gpB_lim hg
  rcases k with rfl | rfl | rfl | rfl | rfl | rfl
  · rw [gpB_0] at hg
    have hq := of_decide_eq_true hg
    have hy := of_decide_eq_true hq.2.1
    have hz : n = 0 := n0 (by omega)
    refine hb_conv (ba_list (L := HBL 0 bi ve d s t p n V) (by show _ = _; unfold HBL; simp [AD, FX_list, VB_list, List.append_assoc])) (specHB_yes 0 bi ve d s t p n V hd hs ht hp hn _ ra cap w hr h (fun W _ => l2Bytes_0 bi ve d s t p ra n cap W d2 s2 t2 p2 b0 b1 (by omega) hy.2))
  · rw [gpB_1] at hg
    have hq := of_decide_eq_true hg
    have hy := of_decide_eq_true hq.2.1
    have hz : n = 0 := n0 (by omega)
    refine hb_conv (ba_list (L := HBL 1 bi ve d s t p n V) (by show _ = _; unfold HBL; simp [AD, FX_list, List.append_assoc])) (specHB_yes 1 bi ve d s t p n V hd hs ht hp hn _ ra cap w hr h (fun W _ => l2Bytes_1 bi ve d s t p ra n cap W d2 s2 t2 p2 b0 b1 (by omega) hy.2))
  · rw [gpB_2] at hg
    have hq := of_decide_eq_true hg
    have hy := of_decide_eq_true hq.2.1
    have hz : n = 0 := n0 (by omega)
    refine hb_conv (ba_list (L := HBL 2 bi ve d s t p n V) (by show _ = _; unfold HBL; simp [AD, FX_list, List.append_assoc])) (specHB_yes 2 bi ve d s t p n V hd hs ht hp hn _ ra cap w hr h (fun W _ => l2Bytes_2 bi ve d s t p ra n cap W d2 s2 t2 p2 b0 b1 (by omega) hy.2))
  · rw [gpB_3] at hg
    have hq := of_decide_eq_true hg
    have hy := of_decide_eq_true hq.2.1
    have hz : n = 0 := n0 (by omega)
    refine hb_conv (ba_list (L := HBL 3 bi ve d s t p n V) (by show _ = _; unfold HBL; simp [AD, FX_list, List.append_assoc])) (specHB_yes 3 bi ve d s t p n V hd hs ht hp hn _ ra cap w hr h (fun W _ => l2Bytes_3 bi ve d s t p ra n cap W d2 s2 t2 p2 b0 b1 (by omega) hy.2))
  · rw [gpB_4] at hg
    have hq := of_decide_eq_true hg
    obtain rfl : ve = 0 := hq.2.1
    have hy := of_decide_eq_true hq.2.2.2.2
    have hN : ∀ i, i < n → 0 ≤ V i ∧ V i ≤ 4294967295 := fun i hi => of_decide_eq_true (List.all_eq_true.1 hy.2.2 i (List.mem_range.2 hi))
    rcases hr with h9 | ⟨g, off, rfl, hr⟩
    · omega
    obtain ⟨B, hB, HL⟩ : ∃ B : ByteArray, B.data.toList = HBL 4 bi 0 d s t p n V ∧ ∀ W, Ir W g off n V → Calls Tryd.prog 15 #[hv 4 bi 0 d s t p (some ⟨g, off, none⟩) n cap] W fun e w' => e = .returned (.string B) ∧ Below W.heap.size W w' := by
      refine ⟨_, ?_, fun W hW => l2Bytes_4 bi 0 d s t p g off n cap W d2 s2 t2 p2 b0 b1 V hy.2.1 hW hN⟩
      rw [sv_list]
      unfold HBL
      simp [AD, FX_list, List.append_assoc]
    refine hb_conv (ba_list hB) (specHB_yes 4 bi 0 d s t p n V hd hs ht hp hn B (some ⟨g, off, none⟩) cap w (Or.inr ⟨g, off, rfl, hr⟩) h (fun W hW => by
      rcases hW with h9 | ⟨g', off', h9, hW⟩
      · omega
      · cases h9
        exact HL W hW))
  · rw [gpB_5] at hg
    have hq := of_decide_eq_true hg
    obtain rfl : ve = 0 := hq.2.1
    have hz : n = 0 := n0 (by omega)
    refine hb_conv (ba_list (L := HBL 5 bi 0 d s t p n V) (by show _ = _; unfold HBL; simp [FX_list])) (specHB_yes 5 bi 0 d s t p n V hd hs ht hp hn _ ra cap w hr h (fun W _ => l2Bytes_5 bi 0 d s t p ra n cap W d2 s2 t2 p2 b0 b1))
end
end Go.Proofs.YtmajcpimahkpfaaDoor
