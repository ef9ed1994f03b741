/-
  Marks of tables, held.
-/
import Derived.Test.YtldjenhknejpnaaTmm
import Derived.Deep.RegionHeld3
namespace Go.Proofs.Ytldjenhknejpnaa
open Go.ChangeShapes Go.WideShapes Go.ChangeAt Go.RowKit Go.Deep
set_option linter.unusedVariables false
set_option maxRecDepth 100000

set_option maxHeartbeats 2000000 in
theorem heldAls (a : Option Addr) (n cap k0 : Nat) (w : World) (hn : n ≤ 1048576) (hk1 : 1 ≤ k0) (hk0 : k0 ≤ 100000000) (h : Aa w a (mkA k0 n)) :
    Calls Try.prog 77 #[.slice a n cap, .int .i64 k0] w fun e w' => e = .returned (.int .i64 ((k0 + 2 * n : Nat) : Int)) ∧ Below w.heap.size w w' := by
  have HR := hide h
  clear h
  go_enter Try.func77, Try.ntmps77
  go_wp2
  go_loopw [1, 5] (fun kv iv wr => ∃ i : Nat, i ≤ n ∧ iv = .int .i64 i ∧ kv = .int .i64 ((k0 + 2 * i : Nat) : Int) ∧ Below w.heap.size w wr) (fun _ iv _ => n - (intOf iv).toNat)
  case atStart => exact ⟨0, Nat.zero_le _, rfl, rfl, Below.refl _ _⟩
  case round =>
    obtain ⟨i, hi, rfl, rfl, hB⟩ := hrel
    by_cases hlt : i < n
    · rcases (unhide HR).below hB with h0 | ⟨b, o, rfl, hel⟩
      · have := congrArg List.length h0; rw [mkA_len] at this; simp at this; omega
      have c0 := hel.ci i (by rw [mkA_len]; exact hlt)
      have c1 := hel.cb i (by rw [mkA_len]; exact hlt)
      have hlb := hel.lt
      rw [mkA_at k0 n i hlt] at c0 c1
      have hnk : (i : Int) < (n : Int) := by omega
      have M1 := hide (markText_any (k0 + 2 * i) (by omega) (by omega))
      have M2 := hide (markText_any (k0 + 2 * i + 1) (by omega) (by omega))
      generalize mtT (k0 + 2 * i) = m1 at *
      generalize mtT (k0 + 2 * i + 1) = m2 at *
      obtain ⟨kk, hkk⟩ : ∃ kk : Nat, kk = k0 + 2 * i := ⟨_, rfl⟩
      have hkb : kk ≤ 200000000 := by omega
      rw [← hkk] at M1 M2 ⊢
      have M2 : Hid (∀ W, Calls Try.prog 62 #[.int .i64 ((kk : Int) + 1)] W fun e w' => e = .returned (.string m2) ∧ Below W.heap.size W w') := unhide M2
      have HKK := hide hkk
      have HB := hide hB
      clear hkk hel hB
      dsimp only at c0 c1
      go_upto_region 4 with fail
      refine wp_region_noPanic ?_
      refine wp_region_held_drew (S := fun V => V.cell? ⟨b, o + i * 2, none⟩ = some (.string m1)) (by kernel_rfl) (by simpa using c0) (fun hHeld => ?_)
      refine wpAnyH_take (i := 0) (v := ?_) rfl (by kernel_rfl) (by kernel_rfl) (by kernel_rfl) (fun _ _ _ h => h) (Or.inl ⟨by rfl, ?_⟩) hHeld ?_
      rotate_left
      · intro V hSw; go_simp; rfl
      simp only [Act.put, List.getElem_toArray, List.getElem_cons_zero, List.setIfInBounds_toArray, List.set_cons_zero, List.set_cons_succ]
      refine wpAnyH_take (i := 1) (v := ?_) rfl (by kernel_rfl) (by kernel_rfl) (by kernel_rfl) (fun _ _ _ h => h) (Or.inl ⟨by rfl, ?_⟩) hHeld ?_
      rotate_left
      · intro V hSw; go_simp; rfl
      simp only [Act.put, List.getElem_toArray, List.getElem_cons_succ, List.getElem_cons_zero, List.setIfInBounds_toArray, List.set_cons_zero, List.set_cons_succ]
      refine wpAnyH_take (i := 2) (v := ?_) rfl (by kernel_rfl) (by kernel_rfl) (by kernel_rfl) (fun _ _ _ h => h) (Or.inl ⟨by rfl, ?_⟩) hHeld ?_
      rotate_left
      · intro V hSw; go_simp; rfl
      simp only [Act.put, List.getElem_toArray, List.getElem_cons_succ, List.getElem_cons_zero, List.setIfInBounds_toArray, List.set_cons_zero, List.set_cons_succ]
      refine wpAnyH_take (i := 3) (v := ?_) rfl (by kernel_rfl) (by kernel_rfl) (by kernel_rfl) (fun _ _ _ h => h) (Or.inl ⟨by rfl, ?_⟩) hHeld ?_
      rotate_left
      · intro V hSw; go_simp; rfl
      simp only [Act.put, List.getElem_toArray, List.getElem_cons_succ, List.getElem_cons_zero, List.setIfInBounds_toArray, List.set_cons_zero, List.set_cons_succ]
      refine wpAnyH_take (i := 4) (v := ?_) rfl (by kernel_rfl) (by kernel_rfl) (by kernel_rfl) (fun _ _ _ h => h) (Or.inl ⟨by rfl, ?_⟩) hHeld ?_
      rotate_left
      · intro V hSw; go_simp; rfl
      simp only [Act.put, List.getElem_toArray, List.getElem_cons_succ, List.getElem_cons_zero, List.setIfInBounds_toArray, List.set_cons_zero, List.set_cons_succ]
      refine wpAnyH_take (i := 5) (v := ?_) rfl (by kernel_rfl) (by kernel_rfl) (by kernel_rfl) (fun _ _ _ h => h) (Or.inl ⟨by rfl, ?_⟩) hHeld ?_
      rotate_left
      · intro V hSw; go_simp; rfl
      simp only [Act.put, List.getElem_toArray, List.getElem_cons_succ, List.getElem_cons_zero, List.setIfInBounds_toArray, List.set_cons_zero, List.set_cons_succ]
      refine wpAnyH_ready (rs := [6]) (by kernel_rfl) (by simp) ?_
      refine AllReadyH.cons rfl (fun K hK => ?_) AllReadyH.nil
      go_simp
      go_at_call 62
      with_reducible refine (unhide M1 _).mono ?_
      rintro e w1 ⟨rfl, b1⟩
      refine hK.out _ _ ((b1.cell (p := ⟨b, o + i * 2, none⟩) (by show _ < _; simpa using hlb)).trans hHeld) (fun hHeld => ?_)
      clear hK K
      try simp only [Act.put, List.getElem_toArray, List.getElem_cons_succ, List.getElem_cons_zero, List.setIfInBounds_toArray, List.set_cons_zero, List.set_cons_succ]
      refine wpAnyH_take (i := 7) (v := ?_) rfl (by kernel_rfl) (by kernel_rfl) (by kernel_rfl) (fun _ _ _ h => h) (Or.inl ⟨by rfl, ?_⟩) hHeld ?_
      rotate_left
      · intro V hSw; go_simp; rfl
      simp only [Act.put, List.getElem_toArray, List.getElem_cons_succ, List.getElem_cons_zero, List.setIfInBounds_toArray, List.set_cons_zero, List.set_cons_succ]
      refine wpAnyH_done (by kernel_rfl) ?_ _
      refine NoPanic.normal ?_
      clear hHeld
      have B1 := hide ((unhide HB).trans (((Below.refl wr.heap.size wr).drew.trans b1).mono (unhide HB).size))
      have hlb0 := hlb
      have c2 : w1.cell? ⟨b, o + i * 2 + 1, none⟩ = some (.string m2) := (((Below.refl wr.heap.size wr).drew.trans b1).cell (p := ⟨b, o + i * 2 + 1, none⟩) hlb).trans c1
      have hlb : b < w1.heap.size := Nat.lt_of_lt_of_le hlb (Nat.le_trans (by simp) b1.size)
      clear b1 c0 c1 hlb0 M1 HB
      go_upto_region 7 with fail
      refine wp_region_noPanic ?_
      refine wp_region_held_drew (S := fun V => V.cell? ⟨b, o + i * 2 + 1, none⟩ = some (.string m2)) (by kernel_rfl) (by simpa using c2) (fun hHeld => ?_)
      refine wpAnyH_take (i := 0) (v := ?_) rfl (by kernel_rfl) (by kernel_rfl) (by kernel_rfl) (fun _ _ _ h => h) (Or.inl ⟨by rfl, ?_⟩) hHeld ?_
      rotate_left
      · intro V hSw; go_simp; rfl
      simp only [Act.put, List.getElem_toArray, List.getElem_cons_zero, List.setIfInBounds_toArray, List.set_cons_zero, List.set_cons_succ]
      refine wpAnyH_take (i := 1) (v := ?_) rfl (by kernel_rfl) (by kernel_rfl) (by kernel_rfl) (fun _ _ _ h => h) (Or.inl ⟨by rfl, ?_⟩) hHeld ?_
      rotate_left
      · intro V hSw; go_simp; rfl
      simp only [Act.put, List.getElem_toArray, List.getElem_cons_succ, List.getElem_cons_zero, List.setIfInBounds_toArray, List.set_cons_zero, List.set_cons_succ]
      refine wpAnyH_take (i := 2) (v := ?_) rfl (by kernel_rfl) (by kernel_rfl) (by kernel_rfl) (fun _ _ _ h => h) (Or.inl ⟨by rfl, ?_⟩) hHeld ?_
      rotate_left
      · intro V hSw; go_simp; rfl
      simp only [Act.put, List.getElem_toArray, List.getElem_cons_succ, List.getElem_cons_zero, List.setIfInBounds_toArray, List.set_cons_zero, List.set_cons_succ]
      refine wpAnyH_take (i := 3) (v := ?_) rfl (by kernel_rfl) (by kernel_rfl) (by kernel_rfl) (fun _ _ _ h => h) (Or.inl ⟨by rfl, ?_⟩) hHeld ?_
      rotate_left
      · intro V hSw; go_simp; rfl
      simp only [Act.put, List.getElem_toArray, List.getElem_cons_succ, List.getElem_cons_zero, List.setIfInBounds_toArray, List.set_cons_zero, List.set_cons_succ]
      refine wpAnyH_take (i := 4) (v := ?_) rfl (by kernel_rfl) (by kernel_rfl) (by kernel_rfl) (fun _ _ _ h => h) (Or.inl ⟨by rfl, ?_⟩) hHeld ?_
      rotate_left
      · intro V hSw; go_simp; rfl
      simp only [Act.put, List.getElem_toArray, List.getElem_cons_succ, List.getElem_cons_zero, List.setIfInBounds_toArray, List.set_cons_zero, List.set_cons_succ]
      refine wpAnyH_take (i := 5) (v := ?_) rfl (by kernel_rfl) (by kernel_rfl) (by kernel_rfl) (fun _ _ _ h => h) (Or.inl ⟨by rfl, ?_⟩) hHeld ?_
      rotate_left
      · intro V hSw; go_simp; rfl
      simp only [Act.put, List.getElem_toArray, List.getElem_cons_succ, List.getElem_cons_zero, List.setIfInBounds_toArray, List.set_cons_zero, List.set_cons_succ]
      refine wpAnyH_ready (rs := [6]) (by kernel_rfl) (by simp) ?_
      refine AllReadyH.cons rfl (fun K hK => ?_) AllReadyH.nil
      go_simp
      go_at_call 62
      with_reducible refine (unhide M2 _).mono ?_
      rintro e w2 ⟨rfl, b2⟩
      refine hK.out _ _ ((b2.cell (p := ⟨b, o + i * 2 + 1, none⟩) (by show _ < _; simpa using hlb)).trans hHeld) (fun hHeld => ?_)
      clear hK K
      try simp only [Act.put, List.getElem_toArray, List.getElem_cons_succ, List.getElem_cons_zero, List.setIfInBounds_toArray, List.set_cons_zero, List.set_cons_succ]
      refine wpAnyH_take (i := 7) (v := ?_) rfl (by kernel_rfl) (by kernel_rfl) (by kernel_rfl) (fun _ _ _ h => h) (Or.inl ⟨by rfl, ?_⟩) hHeld ?_
      rotate_left
      · intro V hSw; go_simp; rfl
      simp only [Act.put, List.getElem_toArray, List.getElem_cons_succ, List.getElem_cons_zero, List.setIfInBounds_toArray, List.set_cons_zero, List.set_cons_succ]
      refine wpAnyH_done (by kernel_rfl) ?_ _
      refine NoPanic.normal ?_
      clear hHeld
      have B2 := hide ((unhide B1).trans (((Below.refl w1.heap.size w1).drew.trans b2).mono (unhide B1).size))
      clear b2 c2 M2 B1
      go_wp2
      exact ⟨⟨i + 1, by omega, by go_num, by have := unhide HKK; go_num, unhide B2⟩, by simp [intOf]; omega⟩
    · obtain rfl : i = n := by omega
      have HB := hide hB
      clear hB
      go_wp2
      go_ret
      exact ⟨rfl, unhide HB⟩
set_option maxHeartbeats 4000000 in
theorem heldEns (a : Option Addr) (cap k0 : Nat) (L M : List EnD) (w : World) (hl : M.length = L.length) (hM : ∀ i, i < L.length → eA M i = mE (kA k0 L i) (eA L i)) (hn : L.length ≤ 1048576) (hS : ∀ i, i < L.length → (eA L i).S.length ≤ 1048576) (hk1 : 1 ≤ k0) (hkb : ∀ i, i ≤ L.length → kA k0 L i ≤ 90000000) (h : Ea w a M) :
    Calls Try.prog 63 #[.slice a L.length cap, .int .i64 k0] w fun e w' => e = .returned (.int .i64 (kA k0 L L.length : Int)) ∧ Below w.heap.size w w' := by
  have HR := hide h
  have HM := hide hM
  have HS := hide hS
  have HKB := hide hkb
  have HL := hide hl
  clear h hM hS hkb hl
  go_enter Try.func63, Try.ntmps63
  go_wp2
  go_loopw [1, 5] (fun kv iv wr => ∃ i : Nat, i ≤ L.length ∧ iv = .int .i64 i ∧ kv = .int .i64 (kA k0 L i : Int) ∧ Below w.heap.size w wr) (fun _ iv _ => L.length - (intOf iv).toNat)
  case atStart => exact ⟨0, Nat.zero_le _, rfl, rfl, Below.refl _ _⟩
  case round =>
    obtain ⟨i, hi, rfl, rfl, hB⟩ := hrel
    by_cases hlt : i < L.length
    · rcases (unhide HR).below hB with h0 | ⟨b, o, rfl, hel⟩
      · have := unhide HL; rw [h0] at this; simp at this; omega
      obtain ⟨ra, cp, hc, hcp, hra⟩ := hel i (by rw [unhide HL]; exact hlt)
      rw [unhide HM i hlt] at hc hra
      have hkle := unhide HKB i (by omega)
      have hk1' : 1 ≤ kA k0 L i := Nat.le_trans hk1 (kA_mono k0 L (Nat.zero_le i))
      have KST : Hid (kA k0 L (i + 1) = kA k0 L i + 6 + 2 * (eA L i).S.length) := rfl
      have hSi := unhide HS i hlt
      have hnk : (i : Int) < (L.length : Int) := by omega
      obtain ⟨k, hkk⟩ : ∃ k : Nat, k = kA k0 L i := ⟨_, rfl⟩
      rw [← hkk] at KST hkle hk1' hc hra ⊢
      have HKK := hide hkk
      have hlb := hc.lt
      obtain ⟨c0, c1, c2, c3, c4, c5, c6⟩ := hc
      have HH := hide (fun (W : World) (hW : Below wr.heap.size wr W) => heldAls ra (eA L i).S.length cp (k + 5) W hSi (by omega) (by omega) (hra.below hW))
      have M3 : Hid (∀ W, Calls Try.prog 62 #[.int .i64 ((k : Int) + 1 + 1 + 1)] W fun e w' => e = .returned (.string (mtT (k + 3))) ∧ Below W.heap.size W w') := markText_any (k + 3) (by omega) (by omega)
      have d0 : wr.cell? ⟨b, o + i * 7, none⟩ = some (.int .i64 (k : Int)) := c0
      have d1 : wr.cell? ⟨b, o + i * 7 + 1, none⟩ = some (.int .i64 ((k : Int) + 1)) := c1
      have d2 : wr.cell? ⟨b, o + i * 7 + 2, none⟩ = some (.int .i64 ((k : Int) + 1 + 1)) := c2
      have d3 : wr.cell? ⟨b, o + i * 7 + 3, none⟩ = some (.string (mtT (k + 3))) := c3
      have tv : ((((k : Int) + 1 + 1 + 1 + 1) % 3 == 0) : Bool) = decide ((k + 4) % 3 = 0) := by
        by_cases e9 : (k + 4) % 3 = 0
        · rw [decide_eq_true e9]; exact beq_iff_eq.2 (by omega)
        · rw [decide_eq_false e9]; exact beq_eq_false_iff_ne.2 (by omega)
      have d4 : wr.cell? ⟨b, o + i * 7 + 4, none⟩ = some (.bool (((k : Int) + 1 + 1 + 1 + 1) % 3 == 0)) := by rw [tv]; exact c4
      have d5 : wr.cell? ⟨b, o + i * 7 + 5, none⟩ = some (.slice ra (eA L i).S.length cp) := by rw [c5]; simp [mE, mkA_len]
      have d6 : wr.cell? ⟨b, o + i * 7 + 6, none⟩ = some (.int .i64 ((k + 5 + 2 * (eA L i).S.length : Nat) : Int)) := c6
      have HB := hide hB
      generalize mtT (k + 3) = m3 at *
      clear c0 c1 c2 c3 c4 c5 c6 hel hra hB hkk tv
      go_upto_region 13 with fail
      refine wp_region_noPanic ?_
      refine wp_region_held_drew (S := fun V => V.cell? ⟨b, o + i * 7 + 3, none⟩ = some (.string m3)) (by kernel_rfl) (by simpa using d3) (fun hHeld => ?_)
      refine wpAnyH_take (i := 0) (v := ?_) rfl (by kernel_rfl) (by kernel_rfl) (by kernel_rfl) (fun _ _ _ h => h) (Or.inl ⟨by rfl, ?_⟩) hHeld ?_
      rotate_left
      · intro V hSw; go_simp; rfl
      simp only [Act.put, List.getElem_toArray, List.getElem_cons_zero, List.setIfInBounds_toArray, List.set_cons_zero, List.set_cons_succ]
      refine wpAnyH_take (i := 1) (v := ?_) rfl (by kernel_rfl) (by kernel_rfl) (by kernel_rfl) (fun _ _ _ h => h) (Or.inl ⟨by rfl, ?_⟩) hHeld ?_
      rotate_left
      · intro V hSw; go_simp; rfl
      simp only [Act.put, List.getElem_toArray, List.getElem_cons_succ, List.getElem_cons_zero, List.setIfInBounds_toArray, List.set_cons_zero, List.set_cons_succ]
      refine wpAnyH_take (i := 2) (v := ?_) rfl (by kernel_rfl) (by kernel_rfl) (by kernel_rfl) (fun _ _ _ h => h) (Or.inl ⟨by rfl, ?_⟩) hHeld ?_
      rotate_left
      · intro V hSw; go_simp; rfl
      simp only [Act.put, List.getElem_toArray, List.getElem_cons_succ, List.getElem_cons_zero, List.setIfInBounds_toArray, List.set_cons_zero, List.set_cons_succ]
      refine wpAnyH_take (i := 3) (v := ?_) rfl (by kernel_rfl) (by kernel_rfl) (by kernel_rfl) (fun _ _ _ h => h) (Or.inl ⟨by rfl, ?_⟩) hHeld ?_
      rotate_left
      · intro V hSw; go_simp; rfl
      simp only [Act.put, List.getElem_toArray, List.getElem_cons_succ, List.getElem_cons_zero, List.setIfInBounds_toArray, List.set_cons_zero, List.set_cons_succ]
      refine wpAnyH_take (i := 4) (v := ?_) rfl (by kernel_rfl) (by kernel_rfl) (by kernel_rfl) (fun _ _ _ h => h) (Or.inl ⟨by rfl, ?_⟩) hHeld ?_
      rotate_left
      · intro V hSw; go_simp; rfl
      simp only [Act.put, List.getElem_toArray, List.getElem_cons_succ, List.getElem_cons_zero, List.setIfInBounds_toArray, List.set_cons_zero, List.set_cons_succ]
      refine wpAnyH_take (i := 5) (v := ?_) rfl (by kernel_rfl) (by kernel_rfl) (by kernel_rfl) (fun _ _ _ h => h) (Or.inl ⟨by rfl, ?_⟩) hHeld ?_
      rotate_left
      · intro V hSw; go_simp; rfl
      simp only [Act.put, List.getElem_toArray, List.getElem_cons_succ, List.getElem_cons_zero, List.setIfInBounds_toArray, List.set_cons_zero, List.set_cons_succ]
      refine wpAnyH_take (i := 6) (v := ?_) rfl (by kernel_rfl) (by kernel_rfl) (by kernel_rfl) (fun _ _ _ h => h) (Or.inl ⟨by rfl, ?_⟩) hHeld ?_
      rotate_left
      · intro V hSw; go_simp; rfl
      simp only [Act.put, List.getElem_toArray, List.getElem_cons_succ, List.getElem_cons_zero, List.setIfInBounds_toArray, List.set_cons_zero, List.set_cons_succ]
      refine wpAnyH_ready (rs := [7]) (by kernel_rfl) (by simp) ?_
      refine AllReadyH.cons rfl (fun K hK => ?_) AllReadyH.nil
      go_simp
      go_at_call 62
      with_reducible refine (unhide M3 _).mono ?_
      rintro e w1 ⟨rfl, b1⟩
      refine hK.out _ _ ((b1.cell (p := ⟨b, o + i * 7 + 3, none⟩) (by show _ < _; simpa using hlb)).trans hHeld) (fun hHeld => ?_)
      clear hK K
      try simp only [Act.put, List.getElem_toArray, List.getElem_cons_succ, List.getElem_cons_zero, List.setIfInBounds_toArray, List.set_cons_zero, List.set_cons_succ]
      refine wpAnyH_take (i := 8) (v := ?_) rfl (by kernel_rfl) (by kernel_rfl) (by kernel_rfl) (fun _ _ _ h => h) (Or.inl ⟨by rfl, ?_⟩) hHeld ?_
      rotate_left
      · intro V hSw; go_simp; rfl
      simp only [Act.put, List.getElem_toArray, List.getElem_cons_succ, List.getElem_cons_zero, List.setIfInBounds_toArray, List.set_cons_zero, List.set_cons_succ]
      refine wpAnyH_done (by kernel_rfl) ?_ _
      refine NoPanic.normal ?_
      clear hHeld
      have Z1 := (Below.refl wr.heap.size wr).drew.trans b1
      have e4 := (Z1.cell (p := ⟨b, o + i * 7 + 4, none⟩) hlb).trans d4
      have e5 := (Z1.cell (p := ⟨b, o + i * 7 + 5, none⟩) hlb).trans d5
      have e6 := hide ((Z1.cell (p := ⟨b, o + i * 7 + 6, none⟩) hlb).trans d6)
      have hlb1 : b < w1.heap.size := Nat.lt_of_lt_of_le hlb Z1.size
      have HZ1 := hide Z1
      have B1 := hide ((unhide HB).trans (Z1.mono (unhide HB).size))
      clear b1 d0 d1 d2 d3 d4 d5 d6 Z1 M3 HB
      go_wp2_with fail
      refine (unhide HH _ (unhide HZ1)).mono ?_
      rintro e w2 ⟨rfl, b2⟩
      have f6 := (b2.cell (p := ⟨b, o + i * 7 + 6, none⟩) hlb1).trans (unhide e6)
      have B2 := hide ((unhide B1).trans (b2.mono (unhide B1).size))
      obtain ⟨q, hq⟩ : ∃ q : Nat, q = k + 5 + 2 * (eA L i).S.length := ⟨_, rfl⟩
      have hqb : q ≤ 200000000 := by omega
      rw [← hq] at f6 ⊢
      have HQ := hide hq
      clear b2 e4 e5 hq HH
      have hq0 : (0 : Int) ≤ (q : Int) := by omega
      go_wp2
      exact ⟨⟨i + 1, by omega, by go_num, by rw [unhide KST]; have := unhide HQ; go_num, unhide B2⟩, by simp [intOf]; omega⟩
    · obtain rfl : i = L.length := by omega
      have HB := hide hB
      clear hB
      go_wp2
      go_ret
      exact ⟨rfl, unhide HB⟩
set_option maxHeartbeats 1000000 in
theorem heldTb (a : Option Addr) (cap : Nat) (L M : List EnD) (w : World) (hl : M.length = L.length) (hM : ∀ i, i < L.length → eA M i = mE (kA 1 L i) (eA L i)) (hn : L.length ≤ 1048576) (hS : ∀ i, i < L.length → (eA L i).S.length ≤ 1048576) (hkb : ∀ i, i ≤ L.length → kA 1 L i ≤ 90000000) (h : Ea w a M) :
    Calls Try.prog 40 #[.agg #[.slice a L.length cap], .int .i64 1] w fun e w' => e = .returned (.int .i64 (kA 1 L L.length : Int)) ∧ Below w.heap.size w w' := by
  have H := hide (fun W (b : Below w.heap.size w W) => heldEns a cap 1 L M W hl hM hn hS (Nat.le_refl _) hkb (h.below b))
  clear h hM hS hkb
  obtain ⟨q, hq⟩ : ∃ q : Nat, q = kA 1 L L.length := ⟨_, rfl⟩
  rw [← hq] at H ⊢
  clear hq
  have hq0 : (0 : Int) ≤ (q : Int) := by omega
  go_enter Try.func40, Try.ntmps40
  go_wp2_with fail
  refine (unhide H _ ((Below.refl _ _).alloc (Nat.le_refl _) _)).mono ?_
  rintro e w1 ⟨rfl, b1⟩
  have F := hide (((Below.refl w.heap.size w).alloc (Nat.le_refl _) _).trans (b1.mono (by simp)))
  clear b1
  go_wp2
  go_ret
  exact ⟨rfl, unhide F⟩
end Go.Proofs.Ytldjenhknejpnaa
