/-
  The law on MintToken, walked.
-/
import Derived.Test.YtidkbnbnnhbbiaaL6fX
namespace Go.Proofs.Ytidkbnbnnhbbiaa.fnExactMintToken
open Go.ChangeShapes Go.WideShapes Go.ChangeAt Go.RowKit
set_option linter.unusedVariables false
set_option maxRecDepth 100000

set_option maxHeartbeats 2000000 in
theorem walk_same (k n a d : ByteArray) (t : Int) (b : Bool) (r : ByteArray) (ok : Bool) (l0 : k.size ≤ 1048576) (l1 : n.size ≤ 1048576) (l2 : a.size ≤ 1048576) (hl : ¬ (1048576 : Int) < d.size) (w : World)
    (HS : ∀ W, Calls Try.prog 9 #[.string k, .string n, .string a, mnV d t b] W fun e w' => e = .returned (.tuple #[.string r, .bool ok]) ∧ Below W.heap.size W w')
    (HI : ∀ W, Calls Try.prog 10 #[.string k, .string n, .string a, mnV d t b] W fun e w' => e = .returned (.tuple #[.string r, .bool ok]) ∧ Below W.heap.size W w') :
    Calls Try.prog 4 #[.string k, .string n, .string a, mnV d t b] w fun e w' => e = .returned (.bool true) ∧ Below w.heap.size w w' := by
  have HZ := hide (szMn d t b (by unfold maxLen; omega))
  rw [if_neg hl] at HZ
  have hl2 : (0 : Int) ≤ 1048576 - d.size := by omega
  have H1 := hide (toMn d t b)
  have H2 := hide HS
  have H3 := hide HI
  clear HS HI
  have h0 : ¬ (1048576 : Int) < k.size := by omega
  have h1 : ¬ (1048576 : Int) < n.size := by omega
  have h2 : ¬ (1048576 : Int) < a.size := by omega
  go_enter Try.func4, Try.ntmps4
  go_wp2_with fail
  refine (unhide HZ _).mono ?_
  rintro e w1 ⟨rfl, hb1⟩
  have D1 := hide hb1
  have B1 : Hid (Below w.heap.size w w1) := ((Below.refl _ _).alloc (Nat.le_refl _) _).trans (hb1.mono (by simp))
  obtain ⟨hc1, hf1⟩ := bcell hb1
  have p1 : ∀ o, w1.cell? ⟨w.heap.size, o, none⟩ = _ := fun o => hc1 w.heap.size o (by simp)
  clear hb1 hc1 hf1
  go_wp2_with fail
  refine (unhide H1 _).mono ?_
  rintro e w2 ⟨rfl, hb2⟩
  have D2 := hide ((unhide D1).trans (hb2.mono (unhide D1).size))
  have B2 := hide ((unhide B1).trans (hb2.mono (unhide B1).size))
  clear hb2 p1 D1 B1
  go_wp2_with fail
  refine (unhide H2 _).mono ?_
  rintro e w3 ⟨rfl, hb3⟩
  have D3 := hide ((unhide D2).trans (hb3.mono (unhide D2).size))
  have B3 := hide ((unhide B2).trans (hb3.mono (unhide B2).size))
  clear hb3 D2 B2
  obtain ⟨hc3, hf3⟩ := bcell (unhide D3)
  have p3 : ∀ o, w3.cell? ⟨w.heap.size, o, none⟩ = _ := fun o => hc3 w.heap.size o (by simp)
  clear hc3 hf3
  go_wp2_with fail
  refine (unhide H1 _).mono ?_
  rintro e w4 ⟨rfl, hb4⟩
  have B4 := hide ((unhide B3).trans (hb4.mono (unhide B3).size))
  clear hb4 p3 D3 B3
  go_wp2_with fail
  refine (unhide H3 _).mono ?_
  rintro e w5 ⟨rfl, hb5⟩
  have B5 := hide ((unhide B4).trans (hb5.mono (unhide B4).size))
  clear hb5 B4
  go_wp2
  go_ret
  exact ⟨rfl, unhide B5⟩
theorem walk_big (k n a d : ByteArray) (t : Int) (b : Bool) (l0 : k.size ≤ 1048576) (l1 : n.size ≤ 1048576) (l2 : a.size ≤ 1048576) (hk : d.size ≤ maxLen) (hl : (1048576 : Int) < d.size) (w : World) :
    Calls Try.prog 4 #[.string k, .string n, .string a, mnV d t b] w fun e w' => e = .returned (.bool true) ∧ Below w.heap.size w w' := by
  have HZ := hide (szMn d t b hk)
  rw [if_pos hl] at HZ
  have h0 : ¬ (1048576 : Int) < k.size := by omega
  have h1 : ¬ (1048576 : Int) < n.size := by omega
  have h2 : ¬ (1048576 : Int) < a.size := by omega
  clear hk hl
  go_enter Try.func4, Try.ntmps4
  go_wp2_with fail
  refine (unhide HZ _).mono ?_
  rintro e w1 ⟨rfl, hb1⟩
  go_wp2
  go_ret
  exact ⟨rfl, ((Below.refl _ _).alloc (Nat.le_refl _) _).trans (hb1.mono (by simp))⟩
theorem walk (a0 : ByteArray) (k0 : a0.size ≤ maxLen) (a1 : ByteArray) (k1 : a1.size ≤ maxLen) (a2 : ByteArray) (k2 : a2.size ≤ maxLen) (d : ByteArray) (t : Int) (b : Bool) (hk : d.size ≤ maxLen) (w : World) :
    Calls Try.prog 4 #[.string a0, .string a1, .string a2, mnV d t b] w fun e w' => e = .returned (.bool true) ∧ Below w.heap.size w w' := by
  unfold maxLen at k0 k1 k2
  by_cases l0 : (1048576 : Int) < a0.size
  · go_enter Try.func4, Try.ntmps4
    go_wp2
    go_ret
    exact ⟨rfl, (Below.refl _ _).alloc (Nat.le_refl _) _⟩
  by_cases l1 : (1048576 : Int) < a1.size
  · go_enter Try.func4, Try.ntmps4
    go_wp2
    go_ret
    exact ⟨rfl, (Below.refl _ _).alloc (Nat.le_refl _) _⟩
  by_cases l2 : (1048576 : Int) < a2.size
  · go_enter Try.func4, Try.ntmps4
    go_wp2
    go_ret
    exact ⟨rfl, (Below.refl _ _).alloc (Nat.le_refl _) _⟩
  by_cases l3 : (1048576 : Int) < d.size
  · exact walk_big a0 a1 a2 d t b (by omega) (by omega) (by omega) hk l3 w
  by_cases h : mtB a0.size a1.size a2.size d.size t
  · obtain ⟨m, rfl⟩ : ∃ m : Nat, t = (m : Int) := ⟨t.toNat, by have := h.2.2.2.2.1; omega⟩
    exact walk_same a0 a1 a2 d m b _ true (by omega) (by omega) (by omega) l3 w (specMT_ok a0 a1 a2 d m b h) (implMT_ok a0 a1 a2 d m b h)
  · exact walk_same a0 a1 a2 d t b _ false (by omega) (by omega) (by omega) l3 w (specMT_no a0 a1 a2 d t b h (by omega) (by omega) (by omega) (by omega)) (implMT_no a0 a1 a2 d t b h (by omega) (by omega) (by omega) (by omega))
end Go.Proofs.Ytidkbnbnnhbbiaa.fnExactMintToken
