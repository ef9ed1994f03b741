/-
  Contracts: the bytes of a list of frames, by the program.
-/
import Derived.Test.YtcnpbcigndcheaaDoorApn
import Derived.Test.YtcnpbcigndcheaaDoorFss
namespace Go.Proofs.YtcnpbcigndcheaaDoor
open Go.ChangeShapes Go.WideShapes Go.ChangeAt Go.RowKit
set_option linter.unusedVariables false
theorem Ow.kept {base : Nat} {w w' : World} {v : Value} {xs : List UInt8} (h : Ow base w v xs) (hb : Below w.heap.size w w') : Ow base w' v xs := by
  refine ⟨h.1, ?_⟩
  rcases h.2 with h1 | ⟨g, cap, cur, e, hg, hh, r⟩
  · exact Or.inl h1
  · refine Or.inr ⟨g, cap, cur, e, hg, (hb.block g ?_).trans hh, r⟩
    rcases Nat.lt_or_ge g w.heap.size with h' | h'
    · exact h'
    · rw [Array.getElem?_eq_none h'] at hh; cases hh
theorem Tz.keep {w w' : World} (h : Tz w) (hb : Below w.heap.size w w') : Tz w' := h.kept hb (World.block_lt_of_cell? w _ h.c0)

set_option maxHeartbeats 1000000 in
theorem implFs (b off N cap m : Nat) (G : Nat → FrD) (Ls : Nat → List UInt8) (w : World) (hN : N ≤ 40) (hG : ∀ i, i < N → (G i).s.size ≤ 1048576 ∧ (G i).n ≤ 1048576) (h : Fs w b off N G) (hm : m ≤ N) (htz : Tz w)
    (hg : ∀ i, i < m → gfD (G i) = true) (hb : m < N → gfD (G m) = false) (hL : ∀ i, (Ls i).length ≤ 1000)
    (hS : ∀ i, i < m → ∀ (v : Value) (xs : List UInt8) (g off cap : Nat) (w : World) (base : Nat), Ow base w v xs → base ≤ w.heap.size → Tz w → 1 < base → xs.length ≤ 900000 → Rr w g off (G i).n (G i).F (G i).T → ((G i).n = 0 ∨ g < base) → (G i).n ≤ cap →
      Calls Tryd.prog 14 #[v, fv (G i).k (G i).a (G i).b (G i).c (G i).fin (G i).s g off (G i).n cap] w fun e w' => ∃ v', e = .returned v' ∧ Ow base w' v' (xs ++ Ls i) ∧ Below base w w') :
    Calls Tryd.prog 7 #[.slice (some ⟨b, off, none⟩) N cap] w fun e w' => e = .returned (.tuple #[.string (fsB Ls m N), .bool (fsR Ls m N)]) ∧ Below w.heap.size w w' := by
  have HR := hide h
  have HN := hide hG
  have HG := hide hg
  have HB := hide hb
  have HS := hide hS
  have HL := hide hL
  have HT := hide htz
  have hg1 : 1 < w.heap.size := World.block_lt_of_cell? w _ htz.c0
  clear h hG hg hb hS hL htz
  go_enter Tryd.func7, Tryd.ntmps7
  go_wp2
  go_loopw [4, 12] (fun sv iv wr => ∃ k : Nat, k ≤ m ∧ iv = .int .i64 k ∧ Ow w.heap.size wr sv (catL Ls k) ∧ Below w.heap.size w wr) (fun _ iv _ => N - (intOf iv).toNat)
  case atStart => exact ⟨0, Nat.zero_le _, rfl, World.ownsRow_nil _ _ _ _, Below.refl _ _⟩
  case round =>
    obtain ⟨k, hk, rfl, ho, hbel⟩ := hrel
    by_cases hlt : k < N
    · obtain ⟨g, hc, hr⟩ := unhide HR k hlt
      obtain ⟨hs, hn⟩ := unhide HN k hlt
      have hgb := hr.lt
      have HA := hide ((hr.below hbel).below ((Below.refl _ _).alloc (Nat.le_refl _) (.cells #[.int .i64 (G k).k, .int .i64 (G k).a, .int .i64 (G k).b, .int .i64 (G k).c, .bool (G k).fin, .string (G k).s, .slice (some ⟨g, 0, none⟩) (G k).n (G k).n] 36)))
      have HQ := hide (fun W (hr : Rr W g 0 (G k).n (G k).F (G k).T) => implGood_any (G k).k (G k).a (G k).b (G k).c (G k).fin (G k).s g 0 (G k).n (G k).n (G k).F (G k).T W hs hn hr)
      have hbs := hbel.size
      clear hr hs hn
      obtain ⟨c0, c1, c2, c3, c4, c5, c6⟩ := hc.below hbel
      clear hc
      have HO := hide (ho.alloc (.cells #[.int .i64 (G k).k, .int .i64 (G k).a, .int .i64 (G k).b, .int .i64 (G k).c, .bool (G k).fin, .string (G k).s, .slice (some ⟨g, 0, none⟩) (G k).n (G k).n] 36))
      have HGB := hide hgb
      clear ho hgb
      by_cases hkm : k < m
      · rw [show gf (G k).k (G k).a (G k).b (G k).c (G k).fin (G k).s.size (G k).n (G k).F (G k).T = true from unhide HG k hkm] at HQ
        have z1 := catL_le Ls (unhide HL) k
        go_wp2_with fail
        refine (unhide HQ _ (unhide HA)).mono ?_
        rintro e w1 ⟨rfl, hb1⟩
        obtain ⟨hc1, hf1⟩ := bcell hb1
        have HA1 := hide ((unhide HA).below hb1)
        have HO1 := hide ((unhide HO).kept hb1)
        have B1 : Below w.heap.size w w1 := (hbel.alloc hbs _).trans (hb1.mono (by simp; omega))
        have HT1 := hide ((unhide HT).keep B1)
        go_wp2_with fail
        refine (unhide HS k hkm _ _ g 0 (G k).n _ w.heap.size (unhide HO1) B1.size (unhide HT1) hg1 (by omega) (unhide HA1) (unhide HGB) (Nat.le_refl _)).mono ?_
        rintro e w2 ⟨v2, rfl, ho2, hb2⟩
        have HO2 := hide ho2
        clear ho2
        go_wp2
        exact ⟨⟨k + 1, by omega, by go_num, unhide HO2, B1.trans hb2⟩, by simp [intOf]; omega⟩
      · obtain rfl : k = m := by omega
        rw [show gf (G k).k (G k).a (G k).b (G k).c (G k).fin (G k).s.size (G k).n (G k).F (G k).T = false from unhide HB hlt] at HQ
        have HE : Hid (fsB Ls k N = ⟨#[]⟩) := if_pos (Or.inl hlt)
        have HF : Hid (fsR Ls k N = false) := if_pos (Or.inl hlt)
        go_wp2_with fail
        refine (unhide HQ _ (unhide HA)).mono ?_
        rintro e w1 ⟨rfl, hb1⟩
        go_wp2
        go_ret2
        exact ⟨by rw [unhide HE, unhide HF]; rfl, (hbel.alloc hbs _).trans (hb1.mono (by simp; omega))⟩
    · obtain rfl : k = N := by omega
      obtain rfl : k = m := by omega
      have z1 := catL_le Ls (unhide HL) k
      obtain ⟨sa, sc, rfl⟩ := ho.shape
      have hcv := own_string Tryd.prog wr w.heap.size 40 9 5 _ _ _ Tryd.underlying40 Tryd.underlying5 Tryd.underlying9 ho
      clear ho
      by_cases hlen : 1500 < (catL Ls k).length
      · have HE : Hid (fsB Ls k k = ⟨#[]⟩) := if_pos (Or.inr hlen)
        have HF : Hid (fsR Ls k k = false) := if_pos (Or.inr hlen)
        go_wp2
        go_ret2
        exact ⟨by rw [unhide HE, unhide HF]; rfl, hbel⟩
      · have HE : Hid (fsB Ls k k = ⟨(catL Ls k).toArray⟩) := if_neg (by omega)
        have HF : Hid (fsR Ls k k = true) := if_neg (by omega)
        go_wp2
        go_ret2
        exact ⟨by rw [unhide HE, unhide HF]; rfl, hbel⟩
theorem implFs_many (b off N cap : Nat) (w : World) (hN : 40 < N) (hN2 : N ≤ 1048576) :
    Calls Tryd.prog 7 #[.slice (some ⟨b, off, none⟩) N cap] w fun e w' => e = .returned (.tuple #[.string ⟨#[]⟩, .bool false]) ∧ Below w.heap.size w w' := by
  go_enter Tryd.func7, Tryd.ntmps7
  go_wp2
  go_ret2
  exact ⟨rfl, Below.refl _ _⟩
end Go.Proofs.YtcnpbcigndcheaaDoor
