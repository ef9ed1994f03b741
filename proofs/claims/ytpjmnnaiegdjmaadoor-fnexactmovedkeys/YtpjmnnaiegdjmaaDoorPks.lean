/-
  Contracts: the pick, of the model.
-/
import Derived.Test.YtpjmnnaiegdjmaaDoorPko
namespace Go.Proofs.YtpjmnnaiegdjmaaDoor
open Go.ChangeShapes Go.WideShapes Go.ChangeAt Go.RowKit Go.Deep
set_option linter.unusedVariables false
set_option maxRecDepth 100000

set_option maxHeartbeats 1000000 in
theorem specP9 (a : Option Addr) (n cap : Nat) (F : Nat → ByteArray) (key : ByteArray) (w : World) (hN : n ≤ 1000) (hn : 0 < n) (hz : ∀ i, i < n → (F i).size ≤ 1000) (hk : key.size ≤ 1000) (h : Sa w a n F) :
    Calls Tryd.prog 37 #[.slice a n cap, .string key] w fun e w' => e = .returned (.string (pkT F key n)) ∧ Below w.heap.size w w' := by
  have HR := hide h
  have HZ := hide hz
  have HQ : Hid (∀ W p gw cw gf cf, L4 W p gw cw gf cf → ∀ i, i < n → Calls Tryd.prog 31 #[.pointer (some ⟨p, 0, none⟩), .string (F i), .string key] W fun e w' => e = .returned (.int .i64 (scN (F i) key : Nat)) ∧ Below W.heap.size W w') := fun W p gw cw gf cf h4 i hi => specScore (F i) key (hz i hi) hk W p gw cw gf cf h4
  have HE : Hid (pkT F key n = F (pkI F key (n - 1))) := rfl
  have HP0 : Hid (pkI F key 0 = 0) := rfl
  have HPS : Hid (∀ k, pkI F key (k + 1) = if scN (F (pkI F key k)) key < scN (F (k + 1)) key then k + 1 else pkI F key k) := fun k => rfl
  clear h hz
  go_enter Tryd.func37, Tryd.ntmps37
  go_wp2_with fail
  refine (specNew _).mono ?_
  rintro e w1 ⟨p, gw, cw, gf, cf, rfl, h4, b1⟩
  have H4 := hide h4
  have B1 := hide b1
  clear h4 b1
  go_wp2_with fail
  go_loopw [5, 6, 14] (fun bv mv i wr => ∃ (k : Nat) (t : ByteArray) (x : Int), k ≤ n ∧ i = .int .i64 k ∧ bv = .string t ∧ mv = .int .i64 x ∧ -1 ≤ x ∧ x < 72057594037927936 ∧ Hid (k = 0 ∧ x = -1 ∨ 0 < k ∧ t = F (pkI F key (k - 1)) ∧ x = (scN (F (pkI F key (k - 1))) key : Nat)) ∧ L4 wr p gw cw gf cf ∧ Below w.heap.size w wr) (fun _ _ i _ => n - (intOf i).toNat)
  case atStart => exact ⟨0, _, -1, by omega, rfl, rfl, rfl, by omega, by omega, Or.inl ⟨rfl, rfl⟩, unhide H4, unhide B1⟩
  case round =>
    obtain ⟨k, t, x, hkn, rfl, rfl, rfl, hx0, hx1, hP, h4, hbel⟩ := hrel
    by_cases hlt : k < n
    · rcases (unhide HR).kept hbel with h0 | ⟨b, o, rfl, h1⟩
      · omega
      have hcf := h1.c k hlt
      have hnk : (k : Int) < (n : Int) := by omega
      have HC := hide (unhide HQ wr p gw cw gf cf h4 k hlt)
      have hsl := scN_lt (F k) key
      have G4 := hide h4
      have HB := hide hbel
      clear h1 h4 hbel
      by_cases c : x < (scN (F k) key : Nat)
      · have P2 : Hid (k + 1 = 0 ∧ ((scN (F k) key : Nat) : Int) = -1 ∨ 0 < k + 1 ∧ F k = F (pkI F key (k + 1 - 1)) ∧ ((scN (F k) key : Nat) : Int) = (scN (F (pkI F key (k + 1 - 1))) key : Nat)) := by
          refine Or.inr ⟨by omega, ?_⟩
          rw [Nat.add_sub_cancel]
          rcases unhide hP with ⟨rfl, _⟩ | ⟨h0, h2, h3⟩
          · rw [unhide HP0]; exact ⟨rfl, rfl⟩
          · obtain ⟨m, rfl⟩ : ∃ m, k = m + 1 := ⟨k - 1, by omega⟩
            rw [Nat.add_sub_cancel] at h3
            rw [h3] at c
            rw [unhide HPS m, if_pos (by omega)]
            exact ⟨rfl, rfl⟩
        clear hP
        generalize scN (F k) key = y at *
        generalize F k = t1 at *
        go_wp2_with fail
        refine (unhide HC).mono ?_
        rintro e w2 ⟨rfl, b2⟩
        have G5 := hide ((unhide G4).kept b2)
        have B2 := hide ((unhide HB).trans (b2.mono (unhide HB).size))
        clear b2
        go_wp2
        exact ⟨⟨k + 1, t1, y, by omega, by go_num, rfl, rfl, by omega, by omega, unhide P2, unhide G5, unhide B2⟩, by simp [intOf]; omega⟩
      · have P2 : Hid (k + 1 = 0 ∧ x = -1 ∨ 0 < k + 1 ∧ t = F (pkI F key (k + 1 - 1)) ∧ x = (scN (F (pkI F key (k + 1 - 1))) key : Nat)) := by
          refine Or.inr ⟨by omega, ?_⟩
          rw [Nat.add_sub_cancel]
          rcases unhide hP with ⟨rfl, h2⟩ | ⟨h0, h2, h3⟩
          · exfalso; omega
          · obtain ⟨m, rfl⟩ : ∃ m, k = m + 1 := ⟨k - 1, by omega⟩
            rw [Nat.add_sub_cancel] at h2 h3
            rw [h3] at c
            rw [unhide HPS m, if_neg (by omega)]
            exact ⟨h2, h3⟩
        clear hP
        generalize scN (F k) key = y at *
        generalize F k = t1 at *
        go_wp2_with fail
        refine (unhide HC).mono ?_
        rintro e w2 ⟨rfl, b2⟩
        have G5 := hide ((unhide G4).kept b2)
        have B2 := hide ((unhide HB).trans (b2.mono (unhide HB).size))
        clear b2
        go_wp2
        exact ⟨⟨k + 1, t, x, by omega, by go_num, rfl, rfl, by omega, by omega, unhide P2, unhide G5, unhide B2⟩, by simp [intOf]; omega⟩
    · obtain rfl : k = n := by omega
      have HB := hide hbel
      clear hbel h4
      go_wp2
      go_ret
      refine ⟨?_, unhide HB⟩
      rcases unhide hP with ⟨h2, _⟩ | ⟨h0, h2, h3⟩
      · omega
      · rw [unhide HE, ← h2]
        rfl
set_option maxHeartbeats 1000000 in
theorem specPk (a : Option Addr) (n cap : Nat) (F : Nat → ByteArray) (key : ByteArray) (w : World) (hN : n ≤ 1048576) (hz : ∀ i, i < n → (F i).size ≤ 1048576) (hk : key.size ≤ 1048576) (h : Sa w a n F) :
    Calls Tryd.prog 12 #[.slice a n cap, .string key] w fun e w' => e = .returned (pbR F n key) ∧ Below w.heap.size w w' := by
  have HG := hide (specGL a n cap F w hN hz h)
  unfold pbR
  by_cases c : glB F n = true
  case neg =>
    rw [if_neg (fun z => c z.2.1)]
    rw [Bool.eq_false_iff.2 c] at HG
    go_enter Tryd.func12, Tryd.ntmps12
    go_wp2_with fail
    refine (unhide HG).mono ?_
    rintro e w1 ⟨rfl, e1⟩
    subst w1
    go_wp2
    go_ret2
    exact ⟨rfl, Below.refl _ _⟩
  rw [c] at HG
  have h12 := gl_12 c
  by_cases h0 : n = 0
  · subst h0
    rw [if_neg (fun z => absurd z.1 (Nat.lt_irrefl _))]
    clear c h
    go_enter Tryd.func12, Tryd.ntmps12
    go_wp2_with fail
    refine (unhide HG).mono ?_
    rintro e w1 ⟨rfl, e1⟩
    subst w1
    go_wp2
    go_ret2
    exact ⟨rfl, Below.refl _ _⟩
  have hn0 : ((n : Int) == 0) = false := beq_eq_false_iff_ne.2 (by omega)
  by_cases h1 : key.size ≤ 100
  case neg =>
    rw [if_neg (fun z => h1 z.2.2)]
    clear c h hz
    go_enter Tryd.func12, Tryd.ntmps12
    go_wp2_with fail
    refine (unhide HG).mono ?_
    rintro e w1 ⟨rfl, e1⟩
    subst w1
    go_wp2
    go_ret2
    exact ⟨rfl, Below.refl _ _⟩
  rw [if_pos ⟨by omega, c, h1⟩]
  have HP := hide (specP9 a n cap F key w (by omega) (by omega) (fun i hi => by have := bk_size (gl_bk c hi); omega) (by omega) h)
  have hk1 : ¬ (100 : Int) < (key.size : Int) := by omega
  clear c h hz
  generalize pkT F key n = t at *
  go_enter Tryd.func12, Tryd.ntmps12
  go_wp2_with fail
  refine (unhide HG).mono ?_
  rintro e w1 ⟨rfl, e1⟩
  subst w1
  go_wp2_with fail
  refine (unhide HP).mono ?_
  rintro e w2 ⟨rfl, q2⟩
  have B2 := hide q2
  clear q2
  go_wp2
  go_ret2
  exact ⟨rfl, unhide B2⟩
end Go.Proofs.YtpjmnnaiegdjmaaDoor
