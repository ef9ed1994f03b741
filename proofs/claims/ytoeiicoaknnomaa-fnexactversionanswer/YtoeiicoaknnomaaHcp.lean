/-
  Contracts: the laws' own copies of headers, and how they are held against each other.
-/
import Derived.Test.YtoeiicoaknnomaaInts
namespace Go.Proofs.Ytoeiicoaknnomaa
open Go.ChangeShapes Go.WideShapes Go.ChangeAt Go.RowKit
set_option linter.unusedVariables false

/-- a header, as a value -/
abbrev hv (f bi ve : Int) (d s t p : ByteArray) (ra : Option Addr) (n cap : Nat) : Value := .agg #[.int .i64 f, .int .i64 bi, .int .i64 ve, .string d, .string s, .string t, .string p, .slice ra n cap]

set_option maxHeartbeats 1000000 in
theorem toHeader_any (f bi ve : Int) (d s t p : ByteArray) (ra : Option Addr) (n cap : Nat) (V : Nat → Int) (w : World) (hn : n ≤ 1048576) (h : Ia w ra n cap V) :
    Calls Try.prog 6 #[hv f bi ve d s t p ra n cap] w fun e w' =>
      ∃ g, e = .returned (hv f bi ve d s t p (some ⟨g, 0, none⟩) n n) ∧ Ir w' g 0 n V ∧ Below w.heap.size w w' := by
  have HR := hide h
  clear h
  go_enter Try.func6, Try.ntmps6
  go_wp2_with fail
  refine (toIntS_arg ra n cap V _ hn ((unhide HR).below ((((Below.refl _ _).alloc (Nat.le_refl _) _).alloc (by simp) _).alloc (by simp; omega) _))).mono ?_
  rintro e w2 ⟨rfl, hr2, hb2⟩
  obtain ⟨hc2, hf2⟩ := bcell hb2
  have hz2 : w.heap.size + 1 + 1 < w2.heap.size := by have := hb2.size; simp at this; omega
  have hr3 : Ir w2 (w.heap.size + 1 + 1 + 1) 0 n V := by simpa using hr2
  have hb3 : Below w.heap.size w w2 := ((((Below.refl _ _).alloc (Nat.le_refl _) _).alloc (by simp) _).alloc (by simp; omega) _).trans (hb2.mono (by simp; omega))
  go_wp2
  refine bodyPost_ret (v := hv f bi ve d s t p (some ⟨w.heap.size + 1 + 1 + 1, 0, none⟩) n n) (by simp [results, Try.results6, go_sem, hc2]) rfl ⟨w.heap.size + 1 + 1 + 1, rfl, ?_, ?_⟩
  · iterate 9 refine Ir.setOther ?_ (by simp)
    exact hr3
  · iterate 9 refine Below.setCell ?_ (by simp <;> omega) _
    exact hb3

set_option maxHeartbeats 1000000 in
theorem eqHeader_same (f bi ve : Int) (d s t p : ByteArray) (g off n cap g' off' cap' : Nat) (V : Nat → Int) (w : World) (hn : n ≤ 1048576) (h : Ir w g off n V) (h' : Ir w g' off' n V) :
    Calls Try.prog 9 #[hv f bi ve d s t p (some ⟨g, off, none⟩) n cap, hv f bi ve d s t p (some ⟨g', off', none⟩) n cap'] w fun e w' => e = .returned (.bool true) ∧ Below w.heap.size w w' := by
  have HB := hide (fun W => fun hb : Below w.heap.size w W => eqIntS_same g off n cap g' off' cap' V W hn (h.below hb) (h'.below hb))
  clear h h'
  go_enter Try.func9, Try.ntmps9
  go_wp2_with (go_at_call 10; refine (unhide HB _ (((Below.refl _ _).alloc (Nat.le_refl _) _).alloc (by simp) _)).mono ?_; rintro e w2 ⟨rfl, hb2⟩)
  go_ret
  exact ⟨rfl, (((Below.refl _ _).alloc (Nat.le_refl _) _).alloc (by simp) _).trans (hb2.mono (by simp; omega))⟩

def szH (left : Int) (d s t p n : Nat) : Int := if left < d + s + t + p + n then -1 else left - d - s - t - p - n
set_option maxHeartbeats 1000000 in
theorem szHeader_any (f bi ve : Int) (d s t p : ByteArray) (ra : Option Addr) (n cap : Nat) (left : Int) (w : World) (h0 : 0 ≤ left) (h1 : left ≤ 1048576)
    (hd : d.size ≤ maxLen) (hs : s.size ≤ maxLen) (ht : t.size ≤ maxLen) (hp : p.size ≤ maxLen) (hn : n ≤ maxLen) :
    Calls Try.prog 4 #[hv f bi ve d s t p ra n cap, .int .i64 left] w fun e w' => e = .returned (.int .i64 (szH left d.size s.size t.size p.size n)) ∧ Below w.heap.size w w' := by
  unfold maxLen at hd hs ht hp hn
  unfold szH
  by_cases c1 : left < d.size
  · rw [if_pos (by omega)]
    go_enter Try.func4, Try.ntmps4
    go_wp2
    go_ret
    exact ⟨rfl, (Below.refl _ _).alloc (Nat.le_refl _) _⟩
  by_cases c2 : left - d.size < s.size
  · rw [if_pos (by omega)]
    go_enter Try.func4, Try.ntmps4
    go_wp2
    go_ret
    exact ⟨rfl, (Below.refl _ _).alloc (Nat.le_refl _) _⟩
  by_cases c3 : left - d.size - s.size < t.size
  · rw [if_pos (by omega)]
    go_enter Try.func4, Try.ntmps4
    go_wp2
    go_ret
    exact ⟨rfl, (Below.refl _ _).alloc (Nat.le_refl _) _⟩
  by_cases c4 : left - d.size - s.size - t.size < p.size
  · rw [if_pos (by omega)]
    go_enter Try.func4, Try.ntmps4
    go_wp2
    go_ret
    exact ⟨rfl, (Below.refl _ _).alloc (Nat.le_refl _) _⟩
  have HZ := hide (fun w => szIntS_any ra n cap (left - d.size - s.size - t.size - p.size) w (by omega) (by omega) hn)
  by_cases c5 : left - d.size - s.size - t.size - p.size < n
  · rw [if_pos (by omega)]
    rw [if_pos c5] at HZ
    go_enter Try.func4, Try.ntmps4
    go_wp2_with (go_at_call 14; refine (unhide HZ _).mono ?_; rintro e w2 ⟨rfl, rfl⟩)
    go_ret
    exact ⟨rfl, (Below.refl _ _).alloc (Nat.le_refl _) _⟩
  · rw [if_neg (by omega)]
    rw [if_neg c5] at HZ
    go_enter Try.func4, Try.ntmps4
    go_wp2_with (go_at_call 14; refine (unhide HZ _).mono ?_; rintro e w2 ⟨rfl, rfl⟩)
    go_ret
    exact ⟨rfl, (Below.refl _ _).alloc (Nat.le_refl _) _⟩
end Go.Proofs.Ytoeiicoaknnomaa
