/-
  Contracts: FrameBytes, the model's and the program's; the law on it, walked.
-/
import Derived.Test.YtoopficopkkbpasDoorFby
import Derived.Test.YtoopficopkkbpasDoorCpy
namespace Go.Proofs.YtoopficopkkbpasDoor
open Go.ChangeShapes Go.WideShapes Go.ChangeAt Go.RowKit
set_option linter.unusedVariables false
theorem tz_lt {W : World} (h : Tz W) : 1 < W.heap.size := World.block_lt_of_cell? W _ h.c0

set_option maxHeartbeats 1000000 in
theorem specFB_no (k a b c : Int) (fin : Bool) (s : ByteArray) (g off n cap : Nat) (F T : Nat → Int) (w : World) (hs : s.size ≤ 1048576) (hn : n ≤ 1048576) (hR : Rr w g off n F T) (h : gf k a b c fin s.size n F T = false) :
    Calls Tryd.prog 8 #[fv k a b c fin s g off n cap] w fun e w' => e = .returned (.tuple #[.string ⟨#[]⟩, .bool false]) ∧ Below w.heap.size w w' := by
  have HG := hide (fun W (hr : Rr W g off n F T) => specGood_any k a b c fin s g off n cap F T W hs hn hr)
  rw [h] at HG
  clear h
  have HR := hide hR
  clear hR
  go_enter Tryd.func8, Tryd.ntmps8
  go_wp2_with fail
  refine (unhide HG _ ((unhide HR).alloc _)).mono ?_
  rintro e w1 ⟨rfl, hb1⟩
  go_wp2
  go_ret2
  exact ⟨rfl, ((Below.refl _ _).alloc (Nat.le_refl _) _).trans (hb1.mono (by simp))⟩

set_option maxHeartbeats 1000000 in
theorem specFB_yes (k a b c : Int) (fin : Bool) (s : ByteArray) (g off n cap : Nat) (F T : Nat → Int) (w : World) (L : List UInt8) (hs : s.size ≤ 1048576) (hn : n ≤ 1048576) (hR : Rr w g off n F T) (h : gf k a b c fin s.size n F T = true) (hL : FB k a b c fin s n F T L) :
    Calls Tryd.prog 8 #[fv k a b c fin s g off n cap] w fun e w' => e = .returned (.tuple #[.string ⟨L.toArray⟩, .bool true]) ∧ Below w.heap.size w w' := by
  have HG := hide (fun W (hr : Rr W g off n F T) => specGood_any k a b c fin s g off n cap F T W hs hn hr)
  rw [h] at HG
  clear h
  have HL := hide hL
  have HR := hide hR
  clear hR hL
  go_enter Tryd.func8, Tryd.ntmps8
  go_wp2_with fail
  refine (unhide HG _ ((unhide HR).alloc _)).mono ?_
  rintro e w1 ⟨rfl, hb1⟩
  obtain ⟨hc1, hf1⟩ := bcell hb1
  have R1 := hide (((unhide HR).alloc _).below hb1)
  have B1 : Below w.heap.size w w1 := ((Below.refl _ _).alloc (Nat.le_refl _) _).trans (hb1.mono (by simp))
  go_wp2_with fail
  refine ((unhide HL).spec g off cap _ (unhide R1)).mono ?_
  rintro e w2 ⟨rfl, hb2⟩
  go_wp2
  go_ret2
  exact ⟨rfl, B1.trans (hb2.mono B1.size)⟩

set_option maxHeartbeats 1000000 in
theorem implFB_no (k a b c : Int) (fin : Bool) (s : ByteArray) (g off n cap : Nat) (F T : Nat → Int) (w : World) (hs : s.size ≤ 1048576) (hn : n ≤ 1048576) (hR : Rr w g off n F T) (h : gf k a b c fin s.size n F T = false) :
    Calls Tryd.prog 10 #[fv k a b c fin s g off n cap] w fun e w' => e = .returned (.tuple #[.string ⟨#[]⟩, .bool false]) ∧ Below w.heap.size w w' := by
  have HG := hide (fun W (hr : Rr W g off n F T) => implGood_any k a b c fin s g off n cap F T W hs hn hr)
  rw [h] at HG
  clear h
  have HR := hide hR
  clear hR
  go_enter Tryd.func10, Tryd.ntmps10
  go_wp2_with fail
  refine (unhide HG _ ((unhide HR).alloc _)).mono ?_
  rintro e w1 ⟨rfl, hb1⟩
  go_wp2
  go_ret2
  exact ⟨rfl, ((Below.refl _ _).alloc (Nat.le_refl _) _).trans (hb1.mono (by simp))⟩

set_option maxHeartbeats 1000000 in
theorem implFB_yes (k a b c : Int) (fin : Bool) (s : ByteArray) (g off n cap : Nat) (F T : Nat → Int) (w : World) (L : List UInt8) (hs : s.size ≤ 1048576) (hn : n ≤ 1048576) (hR : Rr w g off n F T) (hcap : n ≤ cap) (htz : Tz w) (h : gf k a b c fin s.size n F T = true) (hL : FB k a b c fin s n F T L) :
    Calls Tryd.prog 10 #[fv k a b c fin s g off n cap] w fun e w' => e = .returned (.tuple #[.string ⟨L.toArray⟩, .bool true]) ∧ Below w.heap.size w w' := by
  have HG := hide (fun W (hr : Rr W g off n F T) => implGood_any k a b c fin s g off n cap F T W hs hn hr)
  rw [h] at HG
  clear h
  have HL := hide hL
  have HR := hide hR
  have HT := hide htz
  have hg1 := tz_lt htz
  clear hR hL htz
  go_enter Tryd.func10, Tryd.ntmps10
  go_wp2_with fail
  refine (unhide HG _ ((unhide HR).alloc _)).mono ?_
  rintro e w1 ⟨rfl, hb1⟩
  obtain ⟨hc1, hf1⟩ := bcell hb1
  have R1 := hide (((unhide HR).alloc _).below hb1)
  have B1 : Below w.heap.size w w1 := ((Below.refl _ _).alloc (Nat.le_refl _) _).trans (hb1.mono (by simp))
  have T1 := hide ((unhide HT).below B1)
  go_wp2_with fail
  refine ((unhide HL).impl (.slice none 0 0) [] g off cap _ w.heap.size (World.ownsRow_nil _ _ _ _) B1.size (unhide T1) hg1 (by simp) (unhide R1) (unhide HR).lt hcap).mono ?_
  rintro e w2 ⟨v2, rfl, o2, hb2⟩
  have hcv := own_string Tryd.prog w2 w.heap.size 39 9 5 _ _ _ Tryd.underlying39 Tryd.underlying5 Tryd.underlying9 o2
  rw [List.nil_append] at hcv
  clear o2
  go_wp2
  go_ret2
  exact ⟨rfl, B1.trans hb2⟩

theorem fb_both (k a b c : Int) (fin : Bool) (s : ByteArray) (n : Nat) (F T : Nat → Int) (hs : s.size ≤ 1048576) (hn : n ≤ 1048576) : ∃ (B : ByteArray) (r : Bool),
    (∀ (g off cap : Nat) (w : World), Rr w g off n F T → Calls Tryd.prog 8 #[fv k a b c fin s g off n cap] w fun e w' => e = .returned (.tuple #[.string B, .bool r]) ∧ Below w.heap.size w w') ∧
    (∀ (g off cap : Nat) (w : World), Rr w g off n F T → n ≤ cap → Tz w → Calls Tryd.prog 10 #[fv k a b c fin s g off n cap] w fun e w' => e = .returned (.tuple #[.string B, .bool r]) ∧ Below w.heap.size w w') := by
  cases h : gf k a b c fin s.size n F T with
  | false => exact ⟨_, _, fun g off cap w hr => specFB_no k a b c fin s g off n cap F T w hs hn hr h, fun g off cap w hr _ _ => implFB_no k a b c fin s g off n cap F T w hs hn hr h⟩
  | true =>
    obtain ⟨L, hL⟩ := frame_bytes k a b c fin s n F T h
    exact ⟨_, _, fun g off cap w hr => specFB_yes k a b c fin s g off n cap F T w L hs hn hr h hL, fun g off cap w hr hcap htz => implFB_yes k a b c fin s g off n cap F T w L hs hn hr hcap htz h hL⟩
end Go.Proofs.YtoopficopkkbpasDoor
namespace Go.Proofs.YtoopficopkkbpasDoor.fnExactFrameBytes
open Go.ChangeShapes Go.WideShapes Go.ChangeAt Go.RowKit

set_option maxHeartbeats 2000000 in
theorem walk_small (k a b c : Int) (fin : Bool) (s : ByteArray) (ra : Option Addr) (n cap : Nat) (F T : Nat → Int) (w : World) (hs : s.size ≤ maxLen) (hn : n ≤ maxLen) (h : Ra w ra n cap F T) (htz : Tz w) (hl : ¬ (1048576 : Int) < s.size + n) :
    Calls Tryd.prog 4 #[.agg #[.int .i64 k, .int .i64 a, .int .i64 b, .int .i64 c, .bool fin, .string s, .slice ra n cap]] w fun e w' => e = .returned (.bool true) ∧ Below w.heap.size w w' := by
  have HZ := hide (fun w => szFrame_any k a b c fin s ra n cap 1048576 w (by omega) (by omega) hs hn)
  rw [if_neg hl] at HZ
  have hs2 : s.size ≤ 1048576 := by omega
  have hn2 : n ≤ 1048576 := by omega
  have HR := hide h
  have HT := hide htz
  obtain ⟨B, r, hsp, him⟩ := fb_both k a b c fin s n F T hs2 hn2
  have HS := hide hsp
  have HI := hide him
  clear hs hn h htz hsp him
  go_enter Tryd.func4, Tryd.ntmps4
  go_wp2_with fail
  refine (unhide HZ _).mono ?_
  rintro e w1 ⟨rfl, hb1⟩
  obtain ⟨hc1, hf1⟩ := bcell hb1
  have B1 : Below w.heap.size w w1 := ((Below.refl _ _).alloc (Nat.le_refl _) _).trans (hb1.mono (by simp))
  go_wp2_with fail
  refine (toFrame_any k a b c fin s ra n cap F T _ hn2 ((unhide HR).below B1)).mono ?_
  rintro e w2 ⟨g2, rfl, r2, hb2⟩
  have D2 := hb1.trans (hb2.mono hb1.size)
  have B2 := B1.trans (hb2.mono B1.size)
  go_wp2_with fail
  refine (unhide HS g2 0 n _ r2).mono ?_
  rintro e w3 ⟨rfl, hb3⟩
  have D3 := D2.trans (hb3.mono D2.size)
  have B3 := B2.trans (hb3.mono B2.size)
  clear hc1 hf1 hb1 hb2 D2 B1
  obtain ⟨hc3, hf3⟩ := bcell D3
  go_wp2_with fail
  refine (toFrame_any k a b c fin s ra n cap F T _ hn2 ((unhide HR).below B3)).mono ?_
  rintro e w4 ⟨g4, rfl, r4, hb4⟩
  have D4 := D3.trans (hb4.mono D3.size)
  have B4 := B3.trans (hb4.mono B3.size)
  clear hc3 hf3 r2
  obtain ⟨hc4, hf4⟩ := bcell D4
  have T4 := hide ((unhide HT).below ((B4.alloc B4.size (.cells #[.int .i64 k, .int .i64 a, .int .i64 b, .int .i64 c, .bool fin, .string s, .slice (some ⟨g4, 0, none⟩) n n] 32))))
  go_wp2_with fail
  refine (unhide HI g4 0 n _ (r4.alloc _) (Nat.le_refl _) (unhide T4)).mono ?_
  rintro e w5 ⟨rfl, hb5⟩
  have D5 := (D4.alloc D4.size _).trans (hb5.mono (by have := D4.size; simp at *; omega))
  have B5 := (B4.alloc B4.size _).trans (hb5.mono (by have := B4.size; simp; omega))
  have r5 := (r4.alloc _).below hb5
  clear hc4 hf4 r4
  obtain ⟨hc5, hf5⟩ := bcell D5
  obtain ⟨hx5, hy5⟩ := bcell hb5
  have hz5 : w4.heap.size < w5.heap.size := by have := hb5.size; simp at this; omega
  have B5d : Below w.heap.size w w5.drew := B5.drew
  have r5d : Rr w5.drew g4 0 n F T := r5.below ((Below.refl _ _).drew)
  have p5 : ∀ o, w5.cell? ⟨w.heap.size, o, none⟩ = _ := fun o => hc5 w.heap.size o (by simp)
  have q5 : ∀ o, w5.cell? ⟨w4.heap.size, o, none⟩ = _ := fun o => hx5 w4.heap.size o (by simp)
  have HQ := hide q5
  clear B5 r5 hc5 hx5 hf5 hy5
  go_wp2_with fail
  go_region_with (first | (go_at_call 9; refine (toFrame_any k a b c fin s ra n cap F T _ hn2 ((unhide HR).below B5d)).mono ?_; rintro e w6 ⟨g6, rfl, r6, hb6⟩; have q6 : ∀ o, w6.cell? ⟨w4.heap.size, o, none⟩ = _ := (fun o => (hb6.cell (p := ⟨w4.heap.size, o, none⟩) hz5).trans (unhide HQ o))) | (go_at_call 11; refine (eqFrame_same k a b c fin s g4 0 n n g6 0 n F T _ hn2 (r5d.below hb6) r6).mono ?_; rintro e w7 ⟨rfl, hb7⟩))
  all_goals
    go_wp2
    go_ret
    exact ⟨rfl, (B5d.trans (hb6.mono B5d.size)).trans (hb7.mono (Nat.le_trans B5d.size hb6.size))⟩

theorem walk_big (k a b c : Int) (fin : Bool) (s : ByteArray) (ra : Option Addr) (n cap : Nat) (w : World) (hs : s.size ≤ maxLen) (hn : n ≤ maxLen) (hl : (1048576 : Int) < s.size + n) :
    Calls Tryd.prog 4 #[.agg #[.int .i64 k, .int .i64 a, .int .i64 b, .int .i64 c, .bool fin, .string s, .slice ra n cap]] w fun e w' => e = .returned (.bool true) ∧ Below w.heap.size w w' := by
  have HZ := hide (fun w => szFrame_any k a b c fin s ra n cap 1048576 w (by omega) (by omega) hs hn)
  rw [if_pos hl] at HZ
  clear hs hn hl
  go_enter Tryd.func4, Tryd.ntmps4
  go_wp2_with fail
  refine (unhide HZ _).mono ?_
  rintro e w1 ⟨rfl, hb1⟩
  go_wp2
  go_ret
  exact ⟨rfl, ((Below.refl _ _).alloc (Nat.le_refl _) _).trans (hb1.mono (by simp))⟩

theorem walk (k a b c : Int) (fin : Bool) (s : ByteArray) (ra : Option Addr) (n cap : Nat) (F T : Nat → Int) (w : World) (hs : s.size ≤ maxLen) (hn : n ≤ maxLen) (h : Ra w ra n cap F T) (htz : Tz w) :
    Calls Tryd.prog 4 #[.agg #[.int .i64 k, .int .i64 a, .int .i64 b, .int .i64 c, .bool fin, .string s, .slice ra n cap]] w fun e w' => e = .returned (.bool true) ∧ Below w.heap.size w w' := by
  by_cases hl : (1048576 : Int) < s.size + n
  · exact walk_big k a b c fin s ra n cap w hs hn hl
  · exact walk_small k a b c fin s ra n cap F T w hs hn h htz hl
end Go.Proofs.YtoopficopkkbpasDoor.fnExactFrameBytes
