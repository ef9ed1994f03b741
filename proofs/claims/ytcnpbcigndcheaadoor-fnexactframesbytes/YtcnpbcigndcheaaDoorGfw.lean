/-
  Contract: the model's look at a frame: it answers 'gf'.
-/
import Derived.Test.YtcnpbcigndcheaaDoorGft
namespace Go.Proofs.YtcnpbcigndcheaaDoor
open Go.ChangeShapes Go.WideShapes Go.ChangeAt Go.RowKit
set_option linter.unusedVariables false

theorem Rr.alloc {w : World} {b off n : Nat} {F T : Nat → Int} (h : Rr w b off n F T) (o : Obj) : Rr (w.alloc o) b off n F T := h.below ((Below.refl _ _).alloc (Nat.le_refl _) _)

theorem specGood_any (k a b c : Int) (fin : Bool) (s : ByteArray) (g off n cap : Nat) (F T : Nat → Int) (w : World) (hs : s.size ≤ 1048576) (hn : n ≤ 1048576) (hR : Rr w g off n F T) :
    Calls Tryd.prog 10 #[fv k a b c fin s g off n cap] w fun e w' => e = .returned (.bool (gf k a b c fin s.size n F T)) ∧ Below w.heap.size w w' := by
  by_cases E : 0 ≤ (shp k).1 ∧ knB a = true ∧ knB b = true ∧ knB c = true ∧ (shp k).2.1 ≤ s.size ∧ s.size ≤ (shp k).2.2 ∧ (fin = true → k = 8)
  · obtain ⟨hm, ha, hb, hc, hl1, hl2, hf⟩ := E
    obtain ⟨ha0, ha1⟩ := knB_yes ha
    obtain ⟨hb0, hb1⟩ := knB_yes hb
    obtain ⟨hc0, hc1⟩ := knB_yes hc
    have HS := hide (fun w => l1Shape_any k w)
    have h8 : fin = true → (k != 8) = false := fun e => by rw [hf e]; rfl
    by_cases c1 : (shp k).1 < 3 ∧ c ≠ 0
    · have e : gf k a b c fin s.size n F T = false := decide_eq_false (fun q => c1.2 (q.2.2.2.2.2.2.2.1 c1.1))
      have hx : (c != 0) = true := by rw [bne_iff_ne]; exact c1.2
      rw [e]
      cases fin
      · exact specGood_cF k a b c s g off n cap w hs hn _ _ _ HS hm ha0 ha1 hb0 hb1 hc0 hc1 hl1 hl2 c1.1 hx
      · exact specGood_cT k a b c s g off n cap w hs hn _ _ _ HS hm ha0 ha1 hb0 hb1 hc0 hc1 hl1 hl2 (h8 rfl) c1.1 hx
    · have c1' : (shp k).1 < 3 → c = 0 := fun h => by by_cases hz : c = 0; exact hz; exact absurd ⟨h, hz⟩ c1
      by_cases c2 : (shp k).1 < 2 ∧ b ≠ 0
      · have e : gf k a b c fin s.size n F T = false := decide_eq_false (fun q => c2.2 (q.2.2.2.2.2.2.2.2.1 c2.1))
        have hx : (b != 0) = true := by rw [bne_iff_ne]; exact c2.2
        rw [e]
        cases fin
        · exact specGood_bF k a b c s g off n cap w hs hn _ _ _ HS hm ha0 ha1 hb0 hb1 hc0 hc1 hl1 hl2 (c1' (by omega)) c2.1 hx
        · exact specGood_bT k a b c s g off n cap w hs hn _ _ _ HS hm ha0 ha1 hb0 hb1 hc0 hc1 hl1 hl2 (h8 rfl) (c1' (by omega)) c2.1 hx
      · have c2' : (shp k).1 < 2 → b = 0 := fun h => by by_cases hz : b = 0; exact hz; exact absurd ⟨h, hz⟩ c2
        by_cases c3 : (shp k).1 < 1 ∧ a ≠ 0
        · have e : gf k a b c fin s.size n F T = false := decide_eq_false (fun q => c3.2 (q.2.2.2.2.2.2.2.2.2.1 c3.1))
          have hx : (a != 0) = true := by rw [bne_iff_ne]; exact c3.2
          rw [e]
          cases fin
          · exact specGood_aF k a b c s g off n cap w hs hn _ _ _ HS hm ha0 ha1 hb0 hb1 hc0 hc1 hl1 hl2 c3.1 (c1' (by omega)) (c2' (by omega)) hx
          · exact specGood_aT k a b c s g off n cap w hs hn _ _ _ HS hm ha0 ha1 hb0 hb1 hc0 hc1 hl1 hl2 (h8 rfl) c3.1 (c1' (by omega)) (c2' (by omega)) hx
        · have c3' : (shp k).1 < 1 → a = 0 := fun h => by by_cases hz : a = 0; exact hz; exact absurd ⟨h, hz⟩ c3
          clear c1 c2 c3
          by_cases k2 : k = 2
          · subst k2
            obtain rfl : c = 0 := c1' (by decide)
            obtain rfl : b = 0 := c2' (by decide)
            have hf' : fin = false := by cases fin; rfl; exact absurd (hf rfl) (by decide)
            subst hf'
            by_cases hn0 : n = 0
            · subst hn0
              have e : gf 2 a 0 0 false s.size 0 F T = false := decide_eq_false (fun q => absurd (q.2.2.2.2.2.2.2.2.2.2.1.1 rfl) (by omega))
              rw [e]
              exact specGood_2z a s g off 0 cap w hs hn ha0 ha1 hl1 hl2
            · have HB := l1Ranges_any g off n cap F T _ hn (hR.alloc (.cells #[.int .i64 2, .int .i64 a, .int .i64 0, .int .i64 0, .bool false, .string s, .slice (some ⟨g, off, none⟩) n cap] 36))
              have sz : (w.alloc (.cells #[.int .i64 2, .int .i64 a, .int .i64 0, .int .i64 0, .bool false, .string s, .slice (some ⟨g, off, none⟩) n cap] 36)).heap.size = w.heap.size + 1 := by simp
              rw [sz] at HB
              by_cases hr : allR F T n = true ∧ n ≤ 20
              · have e : gf 2 a 0 0 false s.size n F T = true := decide_eq_true ⟨hm, ha, hb, hc, hl1, hl2, hf, c1', c2', c3', ⟨fun _ => by omega, fun _ => rfl⟩, fun _ => hr, fun h => absurd h (by decide), fun h => absurd h (by decide), fun h => absurd h (by decide)⟩
                have e2 : (allR F T n && (decide (1 ≤ n) && decide (n ≤ 20))) = true := by rw [hr.1, decide_eq_true (by omega : 1 ≤ n), decide_eq_true hr.2]; rfl
                rw [e]
                rw [e2] at HB
                exact specGood_2t a s g off n cap w hs hn ha0 ha1 hl1 hl2 (by omega) HB
              · have e : gf 2 a 0 0 false s.size n F T = false := decide_eq_false (fun q => hr (q.2.2.2.2.2.2.2.2.2.2.2.1 rfl))
                have e2 : (allR F T n && (decide (1 ≤ n) && decide (n ≤ 20))) = false := by
                  cases hA : allR F T n with
                  | false => rfl
                  | true => rw [decide_eq_false (fun h => hr ⟨hA, h⟩ : ¬ n ≤ 20), Bool.and_false, Bool.and_false]
                rw [e]
                rw [e2] at HB
                exact specGood_2f a s g off n cap w hs hn ha0 ha1 hl1 hl2 (by omega) HB
          · have hk2 : (k == 2) = false := beq_eq_false_iff_ne.2 k2
            by_cases hn0 : n = 0
            · subst hn0
              have iff0 : k = 2 ↔ 0 < 0 := ⟨fun h => absurd h k2, fun h => absurd h (by omega)⟩
              by_cases k6 : k = 6
              · subst k6
                obtain rfl : c = 0 := c1' (by decide)
                obtain rfl : b = 0 := c2' (by decide)
                have hf' : fin = false := by cases fin; rfl; exact absurd (hf rfl) (by decide)
                subst hf'
                have e : gf 6 a 0 0 false s.size 0 F T = decide (a ≤ 4611686018427387903 - s.size) := by
                  unfold gf
                  rw [decide_eq_decide]
                  exact ⟨fun q => q.2.2.2.2.2.2.2.2.2.2.2.2.1 rfl, fun q => ⟨hm, ha, hb, hc, hl1, hl2, hf, c1', c2', c3', iff0, fun h => absurd h (by decide), fun _ => q, fun h => absurd h (by decide), fun h => absurd h (by decide)⟩⟩
                rw [e]
                exact specGood_6 a s g off 0 cap w hs hn ha0 ha1 hl1 hl2
              · by_cases k8 : k = 8
                · subst k8
                  obtain rfl : c = 0 := c1' (by decide)
                  have e : gf 8 a b 0 fin s.size 0 F T = decide (b ≤ 4611686018427387903 - s.size) := by
                    unfold gf
                    rw [decide_eq_decide]
                    exact ⟨fun q => q.2.2.2.2.2.2.2.2.2.2.2.2.2.1 rfl, fun q => ⟨hm, ha, hb, hc, hl1, hl2, hf, c1', c2', c3', iff0, fun h => absurd h (by decide), fun h => absurd h (by decide), fun _ => q, fun h => absurd h (by decide)⟩⟩
                  rw [e]
                  cases fin
                  · exact specGood_8F a b s g off 0 cap w hs hn ha0 ha1 hb0 hb1 hl1 hl2
                  · exact specGood_8T a b s g off 0 cap w hs hn ha0 ha1 hb0 hb1 hl1 hl2
                · have hf' : fin = false := by cases fin; rfl; exact absurd (hf rfl) k8
                  subst hf'
                  by_cases k24 : k = 24
                  · subst k24
                    have e : gf 24 a b c false s.size 0 F T = (decide (b ≤ a) && decide (c ≤ 255)) := by
                      unfold gf
                      rw [← Bool.decide_and, decide_eq_decide]
                      exact ⟨fun q => q.2.2.2.2.2.2.2.2.2.2.2.2.2.2 rfl, fun q => ⟨hm, ha, hb, hc, hl1, hl2, hf, c1', c2', c3', iff0, fun h => absurd h (by decide), fun h => absurd h (by decide), fun h => absurd h (by decide), fun _ => q⟩⟩
                    rw [e]
                    by_cases hba : b ≤ a
                    · rw [decide_eq_true hba, Bool.true_and]
                      exact specGood_24y a b c s g off 0 cap w hs hn ha0 ha1 hb0 hb1 hc0 hc1 hl1 hl2 hba
                    · rw [decide_eq_false hba, Bool.false_and]
                      exact specGood_24n a b c s g off 0 cap w hs hn ha0 ha1 hb0 hb1 hc0 hc1 hl1 hl2 hba
                  · have e : gf k a b c false s.size 0 F T = true := decide_eq_true ⟨hm, ha, hb, hc, hl1, hl2, hf, c1', c2', c3', iff0, fun h => absurd h k2, fun h => absurd h k6, fun h => absurd h k8, fun h => absurd h k24⟩
                    rw [e]
                    exact specGood_oth k a b c s g off 0 cap w hs hn _ _ _ HS hm ha0 ha1 hb0 hb1 hc0 hc1 hl1 hl2 c1' c2' c3' hk2 (beq_eq_false_iff_ne.2 k6) (beq_eq_false_iff_ne.2 k8) (beq_eq_false_iff_ne.2 k24)
            · have e : gf k a b c fin s.size n F T = false := decide_eq_false (fun q => k2 (q.2.2.2.2.2.2.2.2.2.2.1.2 (by omega)))
              rw [e]
              cases fin
              · exact specGood_nF k a b c s g off n cap w hs hn _ _ _ HS hm ha0 ha1 hb0 hb1 hc0 hc1 hl1 hl2 c1' c2' c3' hk2 (by omega)
              · exact specGood_nT k a b c s g off n cap w hs hn _ _ _ HS hm ha0 ha1 hb0 hb1 hc0 hc1 hl1 hl2 (h8 rfl) c1' c2' c3' hk2 (by omega)
  · exact specGood_early k a b c fin s g off n cap F T w hs E
end Go.Proofs.YtcnpbcigndcheaaDoor
