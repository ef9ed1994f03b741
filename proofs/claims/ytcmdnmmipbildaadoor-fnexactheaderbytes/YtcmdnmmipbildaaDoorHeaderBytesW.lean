/-
  The law on HeaderBytes, walked.
-/
import Derived.Test.YtcmdnmmipbildaaDoorHbw
set_option linter.unusedVariables false
namespace Go.Proofs.YtcmdnmmipbildaaDoor.fnExactHeaderBytes
open Go.ChangeShapes Go.WideShapes Go.ChangeAt Go.RowKit

set_option maxHeartbeats 2000000 in
theorem walk_small (f bi ve : Int) (d s t p : ByteArray) (ra : Option Addr) (n cap : Nat) (V : Nat → Int) (w : World) (hd : d.size ≤ maxLen) (hs : s.size ≤ maxLen) (ht : t.size ≤ maxLen) (hp : p.size ≤ maxLen) (hn : n ≤ maxLen) (h : Ia w ra n cap V) (htz : Tz w) (hl : ¬ (1048576 : Int) < d.size + s.size + t.size + p.size + n) :
    Calls Tryd.prog 3 #[hv f bi ve d s t p ra n cap] w fun e w' => e = .returned (.bool true) ∧ Below w.heap.size w w' := by
  have HZ := hide (fun w => szHeader_any f bi ve d s t p ra n cap 1048576 w (by omega) (by omega) hd hs ht hp hn)
  unfold szH at HZ
  rw [if_neg hl] at HZ
  have hd2 : d.size ≤ 1048576 := by omega
  have hs2 : s.size ≤ 1048576 := by omega
  have ht2 : t.size ≤ 1048576 := by omega
  have hp2 : p.size ≤ 1048576 := by omega
  have hn2 : n ≤ 1048576 := by omega
  have HR := hide h
  have HT := hide htz
  obtain ⟨B, r, hsp, him⟩ := hb_both f bi ve d s t p n V hd2 hs2 ht2 hp2 hn2
  have HS := hide hsp
  have HI := hide him
  clear hd hs ht hp hn h htz hsp him
  go_enter Tryd.func3, Tryd.ntmps3
  go_wp2_with fail
  refine (unhide HZ _).mono ?_
  rintro e w1 ⟨rfl, hb1⟩
  obtain ⟨hc1, hf1⟩ := bcell hb1
  have B1 : Below w.heap.size w w1 := ((Below.refl _ _).alloc (Nat.le_refl _) _).trans (hb1.mono (by simp))
  go_wp2_with fail
  refine (toHeader_any f bi ve d s t p ra n cap V _ hn2 ((unhide HR).below B1)).mono ?_
  rintro e w2 ⟨g2, rfl, r2, hb2⟩
  have D2 := hb1.trans (hb2.mono hb1.size)
  have B2 := B1.trans (hb2.mono B1.size)
  go_wp2_with fail
  refine (unhide HS g2 0 n _ r2).mono ?_
  rintro e w3 ⟨rfl, hb3⟩
  have D3 := D2.trans (hb3.mono D2.size)
  have B3 := B2.trans (hb3.mono B2.size)
  clear hc1 hf1 hb1 hb2 D2 B1
  obtain ⟨hc3, hf3⟩ := bcell D3
  go_wp2_with fail
  refine (toHeader_any f bi ve d s t p ra n cap V _ hn2 ((unhide HR).below B3)).mono ?_
  rintro e w4 ⟨g4, rfl, r4, hb4⟩
  have D4 := D3.trans (hb4.mono D3.size)
  have B4 := B3.trans (hb4.mono B3.size)
  clear hc3 hf3 r2
  obtain ⟨hc4, hf4⟩ := bcell D4
  have T4 := hide ((unhide HT).below ((B4.alloc B4.size (.cells #[.int .i64 f, .int .i64 bi, .int .i64 ve, .string d, .string s, .string t, .string p, .slice (some ⟨g4, 0, none⟩) n n] 28))))
  go_wp2_with fail
  refine (unhide HI g4 0 n _ (r4.alloc _) (unhide T4)).mono ?_
  rintro e w5 ⟨rfl, hb5⟩
  have D5 := (D4.alloc D4.size _).trans (hb5.mono (by have := D4.size; simp at *; omega))
  have B5 := (B4.alloc B4.size _).trans (hb5.mono (by have := B4.size; simp; omega))
  have r5 := (r4.alloc _).below hb5
  clear hc4 hf4 r4
  obtain ⟨hc5, hf5⟩ := bcell D5
  obtain ⟨hx5, hy5⟩ := bcell hb5
  have hz5 : w4.heap.size < w5.heap.size := by have := hb5.size; simp at this; omega
  have B5d : Below w.heap.size w w5.drew := B5.drew
  have r5d : Ir w5.drew g4 0 n V := r5.below ((Below.refl _ _).drew)
  have p5 : ∀ o, w5.cell? ⟨w.heap.size, o, none⟩ = _ := fun o => hc5 w.heap.size o (by simp)
  have q5 : ∀ o, w5.cell? ⟨w4.heap.size, o, none⟩ = _ := fun o => hx5 w4.heap.size o (by simp)
  have HQ := hide q5
  clear B5 r5 hc5 hx5 hf5 hy5
  go_wp2_with fail
  go_region_with (first | (go_at_call 6; refine (toHeader_any f bi ve d s t p ra n cap V _ hn2 ((unhide HR).below B5d)).mono ?_; rintro e w6 ⟨g6, rfl, r6, hb6⟩; have q6 : ∀ o, w6.cell? ⟨w4.heap.size, o, none⟩ = _ := (fun o => (hb6.cell (p := ⟨w4.heap.size, o, none⟩) hz5).trans (unhide HQ o))) | (go_at_call 8; refine (eqHeader_same f bi ve d s t p g4 0 n n g6 0 n V _ hn2 (r5d.below hb6) r6).mono ?_; rintro e w7 ⟨rfl, hb7⟩))
  all_goals
    go_wp2
    go_ret
    exact ⟨rfl, (B5d.trans (hb6.mono B5d.size)).trans (hb7.mono (Nat.le_trans B5d.size hb6.size))⟩

theorem walk_big (f bi ve : Int) (d s t p : ByteArray) (ra : Option Addr) (n cap : Nat) (w : World) (hd : d.size ≤ maxLen) (hs : s.size ≤ maxLen) (ht : t.size ≤ maxLen) (hp : p.size ≤ maxLen) (hn : n ≤ maxLen) (hl : (1048576 : Int) < d.size + s.size + t.size + p.size + n) :
    Calls Tryd.prog 3 #[hv f bi ve d s t p ra n cap] w fun e w' => e = .returned (.bool true) ∧ Below w.heap.size w w' := by
  have HZ := hide (fun w => szHeader_any f bi ve d s t p ra n cap 1048576 w (by omega) (by omega) hd hs ht hp hn)
  unfold szH at HZ
  rw [if_pos hl] at HZ
  clear hd hs ht hp hn hl
  go_enter Tryd.func3, Tryd.ntmps3
  go_wp2_with fail
  refine (unhide HZ _).mono ?_
  rintro e w1 ⟨rfl, hb1⟩
  go_wp2
  go_ret
  exact ⟨rfl, ((Below.refl _ _).alloc (Nat.le_refl _) _).trans (hb1.mono (by simp))⟩

theorem walk (f bi ve : Int) (d s t p : ByteArray) (ra : Option Addr) (n cap : Nat) (V : Nat → Int) (w : World) (hd : d.size ≤ maxLen) (hs : s.size ≤ maxLen) (ht : t.size ≤ maxLen) (hp : p.size ≤ maxLen) (hn : n ≤ maxLen) (h : Ia w ra n cap V) (htz : Tz w) :
    Calls Tryd.prog 3 #[hv f bi ve d s t p ra n cap] w fun e w' => e = .returned (.bool true) ∧ Below w.heap.size w w' := by
  by_cases hl : (1048576 : Int) < d.size + s.size + t.size + p.size + n
  · exact walk_big f bi ve d s t p ra n cap w hd hs ht hp hn hl
  · exact walk_small f bi ve d s t p ra n cap V w hd hs ht hp hn h htz hl
end Go.Proofs.YtcmdnmmipbildaaDoor.fnExactHeaderBytes
