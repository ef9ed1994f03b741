/-
  Contracts: the model's test of a power, and its root.
-/
import Derived.Test.YtpjmnnaiegdjmaaDoorTms
namespace Go.Proofs.YtpjmnnaiegdjmaaDoor
open Go.ChangeShapes Go.WideShapes Go.ChangeAt Go.RowKit
set_option linter.unusedVariables false

theorem V_same (c : Nat) (G H : Nat → Nat) : ∀ L, c ≤ L → (∀ j, c ≤ j → j < L → G j = H j) → V L G + V c H = V L H + V c G
  | 0, h, _ => by
    obtain rfl : c = 0 := by omega
    rfl
  | L + 1, h, hj => by
    by_cases e : c = L + 1
    · subst e; omega
    · have := V_same c G H L (by omega) (fun j h1 h2 => hj j h1 (by omega))
      rw [V, V, hj L (by omega) (by omega)]
      omega
theorem V_less (c : Nat) (G H : Nat → Nat) (hG : ∀ i, i < c → G i < 4294967296) (h : G c < H c) : V (c + 1) G < V (c + 1) H := by
  rw [V, V]
  have h1 := V_lt c G hG
  have h2 : G c * 4294967296 ^ c + 4294967296 ^ c ≤ H c * 4294967296 ^ c := by rw [← Nat.succ_mul]; exact Nat.mul_le_mul_right _ h
  omega
/-- the word p at the place k -/
def bd (k p i : Nat) : Nat := if i = k then p else 0
theorem V_bd (k p : Nat) : ∀ L, k < L → V L (bd k p) = p * 4294967296 ^ k := by
  intro L h
  have h1 := V_pt (fun _ => 0) k p L h
  rw [Nat.zero_mul, Nat.add_zero, V_zero, Nat.zero_add] at h1
  rw [← h1]
  rfl
theorem cmp_less (c L x : Nat) (G H : Nat → Nat) (hG : ∀ i, i < L → G i < 4294967296) (hH : ∀ i, i < L → H i < 4294967296) (hc : c < L) (hj : ∀ j, c + 1 ≤ j → j < L → G j = H j) (hne : G c ≠ H c) : decide (G c < H c) = decide (V L G ≤ V L H) := by
  have h1 := V_same (c + 1) G H L hc hj
  by_cases h : G c < H c
  · have := V_less c G H (fun i hi => hG i (by omega)) h
    rw [decide_eq_true h, decide_eq_true (show V L G ≤ V L H by omega)]
  · have := V_less c H G (fun i hi => hH i (by omega)) (by omega)
    rw [decide_eq_false h, decide_eq_false (show ¬ V L G ≤ V L H by omega)]

set_option maxRecDepth 100000 in
set_option maxHeartbeats 400000 in
theorem specFits (m p q : Nat) (hm : m < 137438953472) (hp : p < 4294967296) (hq : q ≤ 3) (w : World) :
    Calls Tryd.prog 88 #[.int .i64 m, .int .i64 p, .int .i64 q] w fun e w' => e = .returned (.bool (decide (m ^ q ≤ p * 4294967296 ^ q))) ∧ Below w.heap.size w w' := by
  go_enter Tryd.func88, Tryd.ntmps88
  go_wp2_with fail
  have h0 : Aw (w.alloc (.cells #[.int .u32 1] 88)) w.heap.size 0 1 (fun _ => 1) := by
    have h := Aw.new w 1 (fun _ => 1) 88
    rw [uw_def] at h
    exact h
  have h1 := (Below.refl w.heap.size w).alloc (Nat.le_refl _) (.cells #[.int .u32 1] 88)
  generalize w.alloc (.cells #[.int .u32 1] 88) = W1 at h0 h1 ⊢
  go_loopw [8, 7] (fun kv ov wr => ∃ k g cap : Nat, ∃ G, k ≤ q ∧ kv = .int .i64 k ∧ ov = .slice (some ⟨g, 0, none⟩) (2 * k + 1) cap ∧ w.heap.size ≤ g ∧ Aw wr g 0 (2 * k + 1) G ∧ (∀ i, i < 2 * k + 1 → G i < 4294967296) ∧ V (2 * k + 1) G = m ^ k ∧ Below w.heap.size w wr) (fun kv _ _ => q - (intOf kv).toNat)
  case atStart => exact ⟨0, w.heap.size, 1, fun _ => 1, by omega, rfl, rfl, Nat.le_refl _, h0, fun i _ => by show (1 : Nat) < _; omega, by simp [V], h1⟩
  case round =>
    obtain ⟨k, g, cap, G, hk, rfl, rfl, hg, hG, hGb, hV, hB⟩ := hrel
    by_cases hlt : k < q
    · have HT := hide (fun W (hA : Aw W g 0 (2 * k + 1) G) => specTimes g (2 * k + 1) cap m G (by omega) hGb hm W hA)
      have HG := hide hG
      have HB := hide hB
      have HV := hide hV
      have hsz := hB.size
      clear hG hGb hV hB
      go_wp2_with (go_at_call 94; with_reducible refine (unhide HT _ (unhide HG)).mono ?_; rintro e w1 ⟨g1, G1, rfl, hg1, hA1, hb1, hv1, hB1⟩)
      refine ⟨⟨k + 1, g1, _, G1, by omega, by go_num, rfl, by omega, hA1, hb1, ?_, (unhide HB).trans (hB1.mono hsz)⟩, by simp [intOf]; omega⟩
      rw [show 2 * (k + 1) + 1 = 2 * k + 1 + 2 by omega, hv1, unhide HV, Nat.pow_succ]
    · obtain rfl : k = q := by omega
      have hmk := mk_words (k + 1) (by omega) wr
      rw [show (((k + 1 : Nat)) : Int) = (k : Int) + 1 by omega] at hmk
      have hN := Aw.new wr (k + 1) (fun _ => 0) 88
      have hB2 := hB.alloc hB.size (.cells (uw (k + 1) fun _ => 0).toArray 88)
      have hG2 := hG.alloc (.cells (uw (k + 1) fun _ => 0).toArray 88)
      have hne : g ≠ wr.heap.size := by have := hG.lt; omega
      have hsz := hB.size
      generalize wr.alloc (.cells (uw (k + 1) fun _ => 0).toArray 88) = W2 at hN hB2 hG2 hmk
      have hy := hN.c0 k (by omega)
      have hz1 := hN.f0 k (by omega)
      have hP1 := hide (hN.put0 (g := bd k p) (k := k) (x := p) (by omega) (by simp [bd]) (fun j _ hne => by simp [bd, hne]))
      have hP2 := hide (hG2.other (a := ⟨wr.heap.size, k, none⟩) (v := .int .u32 ((p : Nat) : Int)) (by show wr.heap.size ≠ g; omega))
      have hP3 := hide (hB2.setCell (p := ⟨wr.heap.size, k, none⟩) hsz (.int .u32 ((p : Nat) : Int)))
      have HGb := hide hGb
      have HV := hide hV
      clear hN hB2 hG2 hG hGb hV hB h0 h1
      go_wp2_with fail
      generalize W2.setCell ⟨wr.heap.size, k, none⟩ (.int .u32 ((p : Nat) : Int)) = W3 at hP1 hP2 hP3 ⊢
      generalize wr.heap.size = bb at hP1 hne ⊢
      refine wp_loop_rounds 1 ?_
      rw [rounds_succ]
      have hl1 : ¬ (2 * (k : Int) + 1 < (k : Int) + 1) := by omega
      go_wp2_with fail
      go_loopw [10, 11] (fun iv bv wx => ∃ c : Nat, c ≤ 2 * k + 1 ∧ iv = .int .i64 ((c : Int) - 1) ∧ wx = W3 ∧ ∀ j, c ≤ j → j < 2 * k + 1 → G j = bd k p j) (fun iv _ _ => (intOf iv + 1).toNat)
      case atStart => exact ⟨2 * k + 1, by omega, by go_num, rfl, fun j _ _ => by omega⟩
      case round =>
        obtain ⟨c, hc, rfl, rfl, hj⟩ := hrel
        by_cases hl : 0 < c
        · obtain ⟨d, rfl⟩ : ∃ d, c = d + 1 := ⟨c - 1, by omega⟩
          have x1 := (unhide hP2).c0 d (by omega)
          have e1 : (((d + 1 : Nat)) : Int) - 1 = (d : Int) := by omega
          have HJ := hide hj
          have hbl : Hid (∀ i, i < 2 * k + 1 → bd k p i < 4294967296) := fun i _ => by unfold bd; split <;> omega
          have HVb := hide (V_bd k p (2 * k + 1) (by omega))
          rw [e1]
          clear hj
          by_cases hdk : d < k + 1
          · have x2 := (unhide hP1).c0 d (by omega)
            by_cases he : G d = bd k p d
            · rw [he] at x1
              go_wp2_with fail
              exact ⟨⟨d, by omega, rfl, trivial, fun j h1 h2 => by
                by_cases e : j = d
                · subst e; exact he
                · exact unhide HJ j (by omega) h2⟩, by simp [intOf]⟩
            · have hcm := hide (cmp_less d (2 * k + 1) 0 G (bd k p) (unhide HGb) (unhide hbl) (by omega) (fun j h1 h2 => unhide HJ j h1 h2) he)
              rw [unhide HV, unhide HVb] at hcm
              have hne2 : ((G d : Int) != (bd k p d : Int)) = true := by simp; omega
              have hdd : decide ((G d : Int) < (bd k p d : Int)) = decide (G d < bd k p d) := by rw [decide_eq_decide]; omega
              have HDD := hide hdd
              clear hdd
              go_wp2_with fail
              go_ret
              exact ⟨by rw [← unhide hcm, ← unhide HDD]; rfl, unhide hP3⟩
          · have hbz : bd k p d = 0 := by unfold bd; rw [if_neg (by omega)]
            by_cases he : G d = bd k p d
            · rw [hbz] at he
              rw [he] at x1
              clear hbz
              go_wp2_with fail
              exact ⟨⟨d, by omega, rfl, trivial, fun j h1 h2 => by
                by_cases e : j = d
                · subst e; rw [he]; unfold bd; rw [if_neg (by omega)]
                · exact unhide HJ j (by omega) h2⟩, by simp [intOf]⟩
            · have hcm := hide (cmp_less d (2 * k + 1) 0 G (bd k p) (unhide HGb) (unhide hbl) (by omega) (fun j h1 h2 => unhide HJ j h1 h2) he)
              rw [unhide HV, unhide HVb, hbz] at hcm
              have hne2 : ((G d : Int) != 0) = true := by simp; omega
              have hdd : decide ((G d : Int) < 0) = decide (G d < 0) := by rw [decide_eq_decide]; omega
              have HDD := hide hdd
              clear hdd hbz
              go_wp2_with fail
              go_ret
              exact ⟨by rw [← unhide hcm, ← unhide HDD]; rfl, unhide hP3⟩
        · obtain rfl : c = 0 := by omega
          have hVV : Hid (decide (m ^ k ≤ p * 4294967296 ^ k) = true) := by
            have h1 := V_same 0 G (bd k p) (2 * k + 1) (by omega) hj
            rw [unhide HV, V_bd k p (2 * k + 1) (by omega)] at h1
            exact decide_eq_true (by simp only [V] at h1; omega)
          clear hj
          go_wp2_with fail
          go_ret
          exact ⟨by rw [unhide hVV]; rfl, unhide hP3⟩
end Go.Proofs.YtpjmnnaiegdjmaaDoor
