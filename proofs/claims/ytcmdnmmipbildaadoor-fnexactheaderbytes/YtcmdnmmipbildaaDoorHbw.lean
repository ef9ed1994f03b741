/-
  Contracts: HeaderBytes: the model's answer and the program's are one.
-/
import Derived.Test.YtcmdnmmipbildaaDoorHbA
import Derived.Test.YtcmdnmmipbildaaDoorHbB
import Derived.Test.YtcmdnmmipbildaaDoorHbC
namespace Go.Proofs.YtcmdnmmipbildaaDoor
open Go.ChangeShapes Go.WideShapes Go.ChangeAt Go.RowKit
set_option linter.unusedVariables false

theorem ba_list {B : ByteArray} {L : List UInt8} (h : B.data.toList = L) : B = ⟨L.toArray⟩ := by subst h; rfl
section
variable (f bi ve : Int) (d s t p : ByteArray) (n : Nat) (V : Nat → Int) (hd : d.size ≤ 1048576) (hs : s.size ≤ 1048576) (ht : t.size ≤ 1048576) (hp : p.size ≤ 1048576) (hn : n ≤ 1048576)
include hd hs ht hp hn

set_option maxHeartbeats 1000000 in
theorem specHB_no (g off cap : Nat) (w : World) (hR : Ir w g off n V) (h : gh f bi ve d.size s.size t.size p.size n V = false) :
    Calls Tryd.prog 5 #[hv f bi ve d s t p (some ⟨g, off, none⟩) n cap] w fun e w' => e = .returned (.tuple #[.string ⟨#[]⟩, .bool false]) ∧ Below w.heap.size w w' := by
  have HG := hide (fun W (hr : Ir W g off n V) => specGood_any f bi ve d s t p g off n cap V W hd hs ht hp hn hr)
  rw [h] at HG
  clear h
  have HR := hide hR
  clear hR
  go_enter Tryd.func5, Tryd.ntmps5
  go_wp2_with fail
  refine (unhide HG _ ((unhide HR).alloc _)).mono ?_
  rintro e w1 ⟨rfl, hb1⟩
  go_wp2
  go_ret2
  exact ⟨rfl, ((Below.refl _ _).alloc (Nat.le_refl _) _).trans (hb1.mono (by simp))⟩

set_option maxHeartbeats 1000000 in
theorem specHB_yes (B : ByteArray) (g off cap : Nat) (w : World) (hR : Ir w g off n V) (h : gh f bi ve d.size s.size t.size p.size n V = true)
    (hL : ∀ W, Ir W g off n V → Calls Tryd.prog 11 #[hv f bi ve d s t p (some ⟨g, off, none⟩) n cap] W fun e w' => e = .returned (.string B) ∧ Below W.heap.size W w') :
    Calls Tryd.prog 5 #[hv f bi ve d s t p (some ⟨g, off, none⟩) n cap] w fun e w' => e = .returned (.tuple #[.string B, .bool true]) ∧ Below w.heap.size w w' := by
  have HG := hide (fun W (hr : Ir W g off n V) => specGood_any f bi ve d s t p g off n cap V W hd hs ht hp hn hr)
  rw [h] at HG
  clear h
  have HL := hide hL
  have HR := hide hR
  clear hR hL
  go_enter Tryd.func5, Tryd.ntmps5
  go_wp2_with fail
  refine (unhide HG _ ((unhide HR).alloc _)).mono ?_
  rintro e w1 ⟨rfl, hb1⟩
  obtain ⟨hc1, hf1⟩ := bcell hb1
  have R1 := hide (((unhide HR).alloc _).below hb1)
  have B1 : Below w.heap.size w w1 := ((Below.refl _ _).alloc (Nat.le_refl _) _).trans (hb1.mono (by simp))
  go_wp2_with fail
  refine (unhide HL _ (unhide R1)).mono ?_
  rintro e w2 ⟨rfl, hb2⟩
  go_wp2
  go_ret2
  exact ⟨rfl, B1.trans (hb2.mono B1.size)⟩

set_option maxHeartbeats 1000000 in
theorem implHB_no (g off cap : Nat) (w : World) (hR : Ir w g off n V) (h : gh f bi ve d.size s.size t.size p.size n V = false) :
    Calls Tryd.prog 7 #[hv f bi ve d s t p (some ⟨g, off, none⟩) n cap] w fun e w' => e = .returned (.tuple #[.string ⟨#[]⟩, .bool false]) ∧ Below w.heap.size w w' := by
  have HG := hide (fun W (hr : Ir W g off n V) => implGood_any f bi ve d s t p (some ⟨g, off, none⟩) n cap V W hd hs ht hp hn (Or.inr ⟨g, off, rfl, hr⟩))
  rw [h] at HG
  clear h
  have HR := hide hR
  clear hR
  go_enter Tryd.func7, Tryd.ntmps7
  go_wp2_with fail
  refine (unhide HG _ ((unhide HR).alloc _)).mono ?_
  rintro e w1 ⟨rfl, hb1⟩
  go_wp2
  go_ret2
  exact ⟨rfl, ((Below.refl _ _).alloc (Nat.le_refl _) _).trans (hb1.mono (by simp))⟩

theorem hb_both : ∃ (B : ByteArray) (r : Bool),
    (∀ (g off cap : Nat) (w : World), Ir w g off n V → Calls Tryd.prog 5 #[hv f bi ve d s t p (some ⟨g, off, none⟩) n cap] w fun e w' => e = .returned (.tuple #[.string B, .bool r]) ∧ Below w.heap.size w w') ∧
    (∀ (g off cap : Nat) (w : World), Ir w g off n V → Tz w → Calls Tryd.prog 7 #[hv f bi ve d s t p (some ⟨g, off, none⟩) n cap] w fun e w' => e = .returned (.tuple #[.string B, .bool r]) ∧ Below w.heap.size w w') := by
  cases h : gh f bi ve d.size s.size t.size p.size n V with
  | false => exact ⟨_, _, fun g off cap w hr => specHB_no f bi ve d s t p n V hd hs ht hp hn g off cap w hr h, fun g off cap w hr _ => implHB_no f bi ve d s t p n V hd hs ht hp hn g off cap w hr h⟩
  | true =>
    obtain ⟨d2, s2, b0, b1, hg⟩ := of_decide_eq_true h
    obtain ⟨p2, t2, _, n0, k⟩ := gpB_lim hg
    rcases k with rfl | rfl | rfl | rfl | rfl | rfl
    · rw [gpB_0] at hg
      have hq := of_decide_eq_true hg
      have hv := of_decide_eq_true hq.2.1
      have hz : n = 0 := n0 (by omega)
      refine ⟨_, true, fun g off cap w hr => specHB_yes 0 bi ve d s t p n V hd hs ht hp hn _ g off cap w hr h (fun W _ => l2Bytes_0 bi ve d s t p g off n cap W d2 s2 t2 p2 b0 b1 (by omega) hv.2), fun g off cap w hr htz => ?_⟩
      refine (implHB_0 bi ve d s t p g off n cap V w htz hr h b0 b1 d2 s2 t2 p2 (by omega) hv.2 (by omega) (fun i hi => by omega)).mono ?_
      rintro e w' ⟨rfl, hb⟩
      exact ⟨congrArg (fun x => Ending.returned (Value.tuple #[.string x, .bool true])) (ba_list (by simp [AD, FX_list, VB_list, List.append_assoc])).symm, hb⟩
    · rw [gpB_1] at hg
      have hq := of_decide_eq_true hg
      have hv := of_decide_eq_true hq.2.1
      have hz : n = 0 := n0 (by omega)
      refine ⟨_, true, fun g off cap w hr => specHB_yes 1 bi ve d s t p n V hd hs ht hp hn _ g off cap w hr h (fun W _ => l2Bytes_1 bi ve d s t p g off n cap W d2 s2 t2 p2 b0 b1 (by omega) hv.2), fun g off cap w hr htz => ?_⟩
      refine (implHB_1 bi ve d s t p g off n cap V w htz hr h b0 b1 d2 s2 t2 p2 (by omega) hv.2 (by omega) (fun i hi => by omega)).mono ?_
      rintro e w' ⟨rfl, hb⟩
      exact ⟨congrArg (fun x => Ending.returned (Value.tuple #[.string x, .bool true])) (ba_list (by simp [AD, FX_list, List.append_assoc])).symm, hb⟩
    · rw [gpB_2] at hg
      have hq := of_decide_eq_true hg
      have hv := of_decide_eq_true hq.2.1
      have hz : n = 0 := n0 (by omega)
      refine ⟨_, true, fun g off cap w hr => specHB_yes 2 bi ve d s t p n V hd hs ht hp hn _ g off cap w hr h (fun W _ => l2Bytes_2 bi ve d s t p g off n cap W d2 s2 t2 p2 b0 b1 (by omega) hv.2), fun g off cap w hr htz => ?_⟩
      refine (implHB_2 bi ve d s t p g off n cap V w htz hr h b0 b1 d2 s2 t2 p2 (by omega) hv.2 (by omega) (fun i hi => by omega)).mono ?_
      rintro e w' ⟨rfl, hb⟩
      exact ⟨congrArg (fun x => Ending.returned (Value.tuple #[.string x, .bool true])) (ba_list (by simp [AD, FX_list, List.append_assoc])).symm, hb⟩
    · rw [gpB_3] at hg
      have hq := of_decide_eq_true hg
      have hv := of_decide_eq_true hq.2.1
      have hz : n = 0 := n0 (by omega)
      refine ⟨_, true, fun g off cap w hr => specHB_yes 3 bi ve d s t p n V hd hs ht hp hn _ g off cap w hr h (fun W _ => l2Bytes_3 bi ve d s t p g off n cap W d2 s2 t2 p2 b0 b1 (by omega) hv.2), fun g off cap w hr htz => ?_⟩
      refine (implHB_3 bi ve d s t p g off n cap V w htz hr h b0 b1 d2 s2 t2 p2 (by omega) hv.2 (by omega) (fun i hi => by omega)).mono ?_
      rintro e w' ⟨rfl, hb⟩
      exact ⟨congrArg (fun x => Ending.returned (Value.tuple #[.string x, .bool true])) (ba_list (by simp [AD, FX_list, List.append_assoc])).symm, hb⟩
    · rw [gpB_4] at hg
      have hq := of_decide_eq_true hg
      obtain rfl : ve = 0 := hq.2.1
      have hv := of_decide_eq_true hq.2.2.2.2
      have hN : ∀ i, i < n → 0 ≤ V i ∧ V i ≤ 4294967295 := fun i hi => of_decide_eq_true (List.all_eq_true.1 hv.2.2 i (List.mem_range.2 hi))
      refine ⟨_, true, fun g off cap w hr => specHB_yes 4 bi 0 d s t p n V hd hs ht hp hn _ g off cap w hr h (fun W hW => l2Bytes_4 bi 0 d s t p g off n cap W d2 s2 t2 p2 b0 b1 V hv.2.1 hW hN), fun g off cap w hr htz => ?_⟩
      refine (implHB_4 bi 0 d s t p g off n cap V w htz hr h b0 b1 d2 s2 t2 p2 (by omega) (by omega) hv.2.1 hN).mono ?_
      rintro e w' ⟨rfl, hb⟩
      exact ⟨congrArg (fun x => Ending.returned (Value.tuple #[.string x, .bool true])) (ba_list (by rw [sv_list]; simp [AD, FX_list, List.append_assoc])).symm, hb⟩
    · rw [gpB_5] at hg
      have hq := of_decide_eq_true hg
      obtain rfl : ve = 0 := hq.2.1
      have hz : n = 0 := n0 (by omega)
      refine ⟨_, true, fun g off cap w hr => specHB_yes 5 bi 0 d s t p n V hd hs ht hp hn _ g off cap w hr h (fun W _ => l2Bytes_5 bi 0 d s t p g off n cap W d2 s2 t2 p2 b0 b1), fun g off cap w hr htz => ?_⟩
      refine (implHB_5 bi 0 d s t p g off n cap V w htz hr h b0 b1 d2 s2 t2 p2 (by omega) (by omega) (by omega) (fun i hi => by omega)).mono ?_
      rintro e w' ⟨rfl, hb⟩
      exact ⟨congrArg (fun x => Ending.returned (Value.tuple #[.string x, .bool true])) (ba_list (by simp [FX_list])).symm, hb⟩
end
end Go.Proofs.YtcmdnmmipbildaaDoor
