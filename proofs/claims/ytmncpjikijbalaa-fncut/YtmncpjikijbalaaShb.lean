/-
  Contracts: HeaderBytes of the model, whatever header: some text, not long.
-/
import Derived.Test.YtmncpjikijbalaaSlbX
import Derived.Test.YtmncpjikijbalaaGhr
namespace Go.Proofs.Ytmncpjikijbalaa
open Go.ChangeShapes Go.WideShapes Go.ChangeAt Go.RowKit
set_option linter.unusedVariables false
set_option linter.unusedSectionVars false

theorem Ia.alloc {w : World} {a : Option Addr} {n cap : Nat} {V : Nat → Int} (h : Ia w a n cap V) (o : Obj) : Ia (w.alloc o) a n cap V := h.below ((Below.refl _ _).alloc (Nat.le_refl _) _)
section
variable (f bi ve : Int) (d s t p : ByteArray) (n : Nat) (V : Nat → Int) (hd : d.size ≤ 1048576) (hs : s.size ≤ 1048576) (ht : t.size ≤ 1048576) (hp : p.size ≤ 1048576) (hn : n ≤ 1048576)
include hd hs ht hp hn

set_option maxHeartbeats 1000000 in
theorem specHB_no (ra : Option Addr) (cap : Nat) (w : World) (hR : Ia w ra n cap V) (h : gh f bi ve d.size s.size t.size p.size n V = false) :
    Calls Try.prog 48 #[hv f bi ve d s t p ra n cap] w fun e w' => e = .returned (.tuple #[.string ⟨#[]⟩, .bool false]) ∧ Below w.heap.size w w' := by
  have HG := hide (fun W (hr : Ia W ra n cap V) => specGood_ra f bi ve d s t p ra n cap V W hd hs ht hp hn hr)
  rw [h] at HG
  clear h
  have HR := hide hR
  clear hR
  go_enter Try.func48, Try.ntmps48
  go_wp2_with fail
  refine (unhide HG _ ((unhide HR).alloc _)).mono ?_
  rintro e w1 ⟨rfl, hb1⟩
  go_wp2
  go_ret2
  exact ⟨rfl, ((Below.refl _ _).alloc (Nat.le_refl _) _).trans (hb1.mono (by simp))⟩

set_option maxHeartbeats 1000000 in
theorem specHB_yes (B : ByteArray) (ra : Option Addr) (cap : Nat) (w : World) (hR : Ia w ra n cap V) (h : gh f bi ve d.size s.size t.size p.size n V = true)
    (hL : ∀ W, Ia W ra n cap V → Calls Try.prog 58 #[hv f bi ve d s t p ra n cap] W fun e w' => e = .returned (.string B) ∧ Below W.heap.size W w') :
    Calls Try.prog 48 #[hv f bi ve d s t p ra n cap] w fun e w' => e = .returned (.tuple #[.string B, .bool true]) ∧ Below w.heap.size w w' := by
  have HG := hide (fun W (hr : Ia W ra n cap V) => specGood_ra f bi ve d s t p ra n cap V W hd hs ht hp hn hr)
  rw [h] at HG
  clear h
  have HL := hide hL
  have HR := hide hR
  clear hR hL
  go_enter Try.func48, Try.ntmps48
  go_wp2_with fail
  refine (unhide HG _ ((unhide HR).alloc _)).mono ?_
  rintro e w1 ⟨rfl, hb1⟩
  obtain ⟨hc1, hf1⟩ := bcell hb1
  have R1 := hide (((unhide HR).alloc _).below hb1)
  have B1 : Below w.heap.size w w1 := ((Below.refl _ _).alloc (Nat.le_refl _) _).trans (hb1.mono (by simp))
  go_wp2_with fail
  refine (unhide HL _ (unhide R1)).mono ?_
  rintro e w2 ⟨rfl, hb2⟩
  go_wp2
  go_ret2
  exact ⟨rfl, B1.trans (hb2.mono B1.size)⟩

theorem specHB_w (ra : Option Addr) (cap : Nat) (w : World) (hr : Ia w ra n cap V) :
    ∃ (B : ByteArray) (r : Bool), B.size ≤ 2000 ∧ Calls Try.prog 48 #[hv f bi ve d s t p ra n cap] w fun e w' => e = .returned (.tuple #[.string B, .bool r]) ∧ Below w.heap.size w w' := by
  cases h : gh f bi ve d.size s.size t.size p.size n V with
  | false => exact ⟨_, _, by show 0 ≤ _; omega, specHB_no f bi ve d s t p n V hd hs ht hp hn ra cap w hr h⟩
  | true =>
    obtain ⟨d2, s2, b0, b1, hg⟩ := of_decide_eq_true h
    obtain ⟨p2, t2, _, n0, k⟩ := gpB_lim hg
    rcases k with rfl | rfl | rfl | rfl | rfl | rfl
    · rw [gpB_0] at hg
      have hq := of_decide_eq_true hg
      have hy := of_decide_eq_true hq.2.1
      refine ⟨_, true, ?_, specHB_yes 0 bi ve d s t p n V hd hs ht hp hn _ ra cap w hr h (fun W _ => l2Bytes_0 bi ve d s t p ra n cap W d2 s2 t2 p2 b0 b1 (by omega) hy.2)⟩
      have v8 := VB_le (t.size : Int)
      simp only [ByteArray.size_append, FX_size]
      omega
    · rw [gpB_1] at hg
      have hq := of_decide_eq_true hg
      have hy := of_decide_eq_true hq.2.1
      refine ⟨_, true, ?_, specHB_yes 1 bi ve d s t p n V hd hs ht hp hn _ ra cap w hr h (fun W _ => l2Bytes_1 bi ve d s t p ra n cap W d2 s2 t2 p2 b0 b1 (by omega) hy.2)⟩
      have v8 := VB_le (t.size : Int)
      simp only [ByteArray.size_append, FX_size]
      omega
    · rw [gpB_2] at hg
      have hq := of_decide_eq_true hg
      have hy := of_decide_eq_true hq.2.1
      refine ⟨_, true, ?_, specHB_yes 2 bi ve d s t p n V hd hs ht hp hn _ ra cap w hr h (fun W _ => l2Bytes_2 bi ve d s t p ra n cap W d2 s2 t2 p2 b0 b1 (by omega) hy.2)⟩
      have v8 := VB_le (t.size : Int)
      simp only [ByteArray.size_append, FX_size]
      omega
    · rw [gpB_3] at hg
      have hq := of_decide_eq_true hg
      have hy := of_decide_eq_true hq.2.1
      refine ⟨_, true, ?_, specHB_yes 3 bi ve d s t p n V hd hs ht hp hn _ ra cap w hr h (fun W _ => l2Bytes_3 bi ve d s t p ra n cap W d2 s2 t2 p2 b0 b1 (by omega) hy.2)⟩
      have v8 := VB_le (t.size : Int)
      simp only [ByteArray.size_append, FX_size]
      omega
    · rw [gpB_4] at hg
      have hq := of_decide_eq_true hg
      obtain rfl : ve = 0 := hq.2.1
      have hy := of_decide_eq_true hq.2.2.2.2
      have hN : ∀ i, i < n → 0 ≤ V i ∧ V i ≤ 4294967295 := fun i hi => of_decide_eq_true (List.all_eq_true.1 hy.2.2 i (List.mem_range.2 hi))
      rcases hr with h9 | ⟨g, off, rfl, hr⟩
      · omega
      obtain ⟨B, hB, HL⟩ : ∃ B : ByteArray, B.size ≤ 2000 ∧ ∀ W, Ir W g off n V → Calls Try.prog 58 #[hv 4 bi 0 d s t p (some ⟨g, off, none⟩) n cap] W fun e w' => e = .returned (.string B) ∧ Below W.heap.size W w' := by
        refine ⟨_, ?_, fun W hW => l2Bytes_4 bi 0 d s t p g off n cap W d2 s2 t2 p2 b0 b1 V hy.2.1 hW hN⟩
        rw [svw_size]
        simp only [ByteArray.size_append, FX_size]
        omega
      exact ⟨B, true, hB, specHB_yes 4 bi 0 d s t p n V hd hs ht hp hn B (some ⟨g, off, none⟩) cap w (Or.inr ⟨g, off, rfl, hr⟩) h (fun W hW => by
        rcases hW with h9 | ⟨g', off', h9, hW⟩
        · omega
        · cases h9
          exact HL W hW)⟩
    · rw [gpB_5] at hg
      have hq := of_decide_eq_true hg
      obtain rfl : ve = 0 := hq.2.1
      refine ⟨_, true, ?_, specHB_yes 5 bi 0 d s t p n V hd hs ht hp hn _ ra cap w hr h (fun W _ => l2Bytes_5 bi 0 d s t p ra n cap W d2 s2 t2 p2 b0 b1)⟩
      simp only [ByteArray.size_append, FX_size]
      omega
end
end Go.Proofs.Ytmncpjikijbalaa
