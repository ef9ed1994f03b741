/-
  Contracts: the bytes of a list of frames, by the model.
-/
import Derived.Test.YtcnpbcigndcheaaDoorFsl
import Derived.Test.YtcnpbcigndcheaaDoorGfj
namespace Go.Proofs.YtcnpbcigndcheaaDoor
open Go.ChangeShapes Go.WideShapes Go.ChangeAt Go.RowKit
set_option linter.unusedVariables false
def gfD (D : FrD) : Bool := gf D.k D.a D.b D.c D.fin D.s.size D.n D.F D.T
/-- The first m of N frames are good; the next one, if there is one, is not. -/
theorem first_bad (p : Nat → Bool) : ∀ N, ∃ m, m ≤ N ∧ (∀ i, i < m → p i = true) ∧ (m < N → p m = false)
  | 0 => ⟨0, Nat.le_refl _, fun i hi => by omega, fun h => by omega⟩
  | N + 1 => by
    obtain ⟨m, h1, h2, h3⟩ := first_bad p N
    by_cases e : m = N
    · subst e
      cases h : p m with
      | false => exact ⟨m, by omega, h2, fun _ => h⟩
      | true => exact ⟨m + 1, by omega, fun i hi => by by_cases e : i = m
                                                       · rw [e]; exact h
                                                       · exact h2 i (by omega), fun h => by omega⟩
    · exact ⟨m, by omega, h2, fun _ => h3 (by omega)⟩
def catL (Ls : Nat → List UInt8) : Nat → List UInt8
  | 0 => []
  | k + 1 => catL Ls k ++ Ls k
theorem catL_le (Ls : Nat → List UInt8) (h : ∀ i, (Ls i).length ≤ 1000) : ∀ k, (catL Ls k).length ≤ 1000 * k
  | 0 => by simp [catL]
  | k + 1 => by have := catL_le Ls h k; have := h k; simp only [catL, List.length_append]; omega
def catB (Ls : Nat → List UInt8) : Nat → ByteArray
  | 0 => ⟨#[]⟩
  | k + 1 => catB Ls k ++ ⟨(Ls k).toArray⟩
theorem catB_list (Ls : Nat → List UInt8) : ∀ k, (catB Ls k).data.toList = catL Ls k
  | 0 => rfl
  | k + 1 => by simp [catB, catL, catB_list Ls k]
theorem catB_eq (Ls : Nat → List UInt8) (k : Nat) : catB Ls k = ⟨(catL Ls k).toArray⟩ := by rw [← catB_list]
theorem catB_size (Ls : Nat → List UInt8) (k : Nat) : (catB Ls k).size = (catL Ls k).length := by rw [← catB_list]; simp
/-- what both answer -/
def fsB (Ls : Nat → List UInt8) (m N : Nat) : ByteArray := if m < N ∨ 1500 < (catL Ls m).length then ⟨#[]⟩ else ⟨(catL Ls m).toArray⟩
def fsR (Ls : Nat → List UInt8) (m N : Nat) : Bool := if m < N ∨ 1500 < (catL Ls m).length then false else true

set_option maxHeartbeats 1000000 in
theorem specFs (b off N cap m : Nat) (G : Nat → FrD) (Ls : Nat → List UInt8) (w : World) (hN : N ≤ 40) (hG : ∀ i, i < N → (G i).s.size ≤ 1048576 ∧ (G i).n ≤ 1048576) (h : Fs w b off N G) (hm : m ≤ N)
    (hg : ∀ i, i < m → gfD (G i) = true) (hb : m < N → gfD (G m) = false) (hL : ∀ i, (Ls i).length ≤ 1000)
    (hS : ∀ i, i < m → ∀ (g off cap : Nat) (w : World), Rr w g off (G i).n (G i).F (G i).T → Calls Tryd.prog 11 #[fv (G i).k (G i).a (G i).b (G i).c (G i).fin (G i).s g off (G i).n cap] w fun e w' => e = .returned (.string ⟨(Ls i).toArray⟩) ∧ Below w.heap.size w w') :
    Calls Tryd.prog 5 #[.slice (some ⟨b, off, none⟩) N cap] w fun e w' => e = .returned (.tuple #[.string (fsB Ls m N), .bool (fsR Ls m N)]) ∧ Below w.heap.size w w' := by
  have HR := hide h
  have HN := hide hG
  have HG := hide hg
  have HB := hide hb
  have HS := hide hS
  have HL := hide hL
  clear h hG hg hb hS hL
  go_enter Tryd.func5, Tryd.ntmps5
  go_wp2
  go_loopw [4, 12] (fun sv iv wr => ∃ k : Nat, k ≤ m ∧ iv = .int .i64 k ∧ sv = .string (catB Ls k) ∧ Below w.heap.size w wr) (fun _ iv _ => N - (intOf iv).toNat)
  case atStart => exact ⟨0, Nat.zero_le _, rfl, rfl, Below.refl _ _⟩
  case round =>
    obtain ⟨k, hk, rfl, rfl, hbel⟩ := hrel
    by_cases hlt : k < N
    · obtain ⟨g, hc, hr⟩ := (unhide HR).below hbel k hlt
      obtain ⟨hs, hn⟩ := unhide HN k hlt
      have HA := hide (hr.below ((Below.refl _ _).alloc (Nat.le_refl _) (.cells #[.int .i64 (G k).k, .int .i64 (G k).a, .int .i64 (G k).b, .int .i64 (G k).c, .bool (G k).fin, .string (G k).s, .slice (some ⟨g, 0, none⟩) (G k).n (G k).n] 36)))
      have HQ := hide (fun W (hr : Rr W g 0 (G k).n (G k).F (G k).T) => specGood_any (G k).k (G k).a (G k).b (G k).c (G k).fin (G k).s g 0 (G k).n (G k).n (G k).F (G k).T W hs hn hr)
      have hbs := hbel.size
      clear hr hs hn
      obtain ⟨c0, c1, c2, c3, c4, c5, c6⟩ := hc
      by_cases hkm : k < m
      · rw [show gf (G k).k (G k).a (G k).b (G k).c (G k).fin (G k).s.size (G k).n (G k).F (G k).T = true from unhide HG k hkm] at HQ
        have z0 := catB_size Ls k
        have z1 := catL_le Ls (unhide HL) k
        have z2 := unhide HL k
        have z3 : (⟨(Ls k).toArray⟩ : ByteArray).size = (Ls k).length := by show (Ls k).toArray.size = _; simp
        have ad := fun W : World => run_string_add_sum (P := Tryd.prog) (w := W) (catB Ls k) ⟨(Ls k).toArray⟩ (by omega)
        clear z0 z1 z2 z3
        go_wp2_with fail
        refine (unhide HQ _ (unhide HA)).mono ?_
        rintro e w1 ⟨rfl, hb1⟩
        obtain ⟨hc1, hf1⟩ := bcell hb1
        have HA1 := hide ((unhide HA).below hb1)
        go_wp2_with fail
        refine (unhide HS k hkm g 0 (G k).n _ (unhide HA1)).mono ?_
        rintro e w2 ⟨rfl, hb2⟩
        go_wp2
        exact ⟨⟨k + 1, by omega, by go_num, rfl, ((hbel.alloc hbs _).trans (hb1.mono (by simp; omega))).trans (hb2.mono (by have := hb1.size; simp at this; omega))⟩, by simp [intOf]; omega⟩
      · obtain rfl : k = m := by omega
        rw [show gf (G k).k (G k).a (G k).b (G k).c (G k).fin (G k).s.size (G k).n (G k).F (G k).T = false from unhide HB hlt] at HQ
        have HE : Hid (fsB Ls k N = ⟨#[]⟩) := if_pos (Or.inl hlt)
        have HF : Hid (fsR Ls k N = false) := if_pos (Or.inl hlt)
        go_wp2_with fail
        refine (unhide HQ _ (unhide HA)).mono ?_
        rintro e w1 ⟨rfl, hb1⟩
        go_wp2
        go_ret2
        exact ⟨by rw [unhide HE, unhide HF]; rfl, (hbel.alloc hbs _).trans (hb1.mono (by simp; omega))⟩
    · obtain rfl : k = N := by omega
      obtain rfl : k = m := by omega
      have z0 := catB_size Ls k
      by_cases hlen : 1500 < (catL Ls k).length
      · have HE : Hid (fsB Ls k k = ⟨#[]⟩) := if_pos (Or.inr hlen)
        have HF : Hid (fsR Ls k k = false) := if_pos (Or.inr hlen)
        go_wp2
        go_ret2
        exact ⟨by rw [unhide HE, unhide HF]; rfl, hbel⟩
      · have HE : Hid (fsB Ls k k = catB Ls k) := by rw [Hid, catB_eq]; exact if_neg (by omega)
        have HF : Hid (fsR Ls k k = true) := if_neg (by omega)
        go_wp2
        go_ret2
        exact ⟨by rw [unhide HE, unhide HF]; rfl, hbel⟩
theorem specFs_many (b off N cap : Nat) (w : World) (hN : 40 < N) (hN2 : N ≤ 1048576) :
    Calls Tryd.prog 5 #[.slice (some ⟨b, off, none⟩) N cap] w fun e w' => e = .returned (.tuple #[.string ⟨#[]⟩, .bool false]) ∧ Below w.heap.size w w' := by
  go_enter Tryd.func5, Tryd.ntmps5
  go_wp2
  go_ret2
  exact ⟨rfl, Below.refl _ _⟩
end Go.Proofs.YtcnpbcigndcheaaDoor
