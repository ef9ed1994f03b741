/-
  Contracts: the model's texts filled up, its key that seals.
-/
import Derived.Test.YtidkbnbnnhbbiaaL5h
import Derived.Test.YtidkbnbnnhbbiaaLbl
import Derived.Test.YtidkbnbnnhbbiaaLco
import Derived.Test.YtidkbnbnnhbbiaaXot
import Derived.Test.YtidkbnbnnhbbiaaE5k
namespace Go.Proofs.Ytidkbnbnnhbbiaa
open Go.ChangeShapes Go.WideShapes Go.ChangeAt Go.RowKit
set_option linter.unusedVariables false

theorem at8_out (s : ByteArray) (i : Nat) (h : s.size ≤ i) : at8 s i = 0 := by unfold at8; rw [dif_neg (by omega)]
theorem bq_zero (k : Nat) (f : Nat → Nat) (h : f k = 0) : bq k f ++ ⟨#[0]⟩ = bq (k + 1) f := by
  rw [bq_add k 1 f]
  congr 1
  unfold bq
  show (⟨#[0]⟩ : ByteArray) = ⟨#[UInt8.ofNat (f (k + 0))]⟩
  rw [Nat.add_zero, h]
  rfl
set_option maxRecDepth 100000 in
set_option maxHeartbeats 1000000 in
theorem specFull (s : ByteArray) (hs : s.size ≤ 4000) (w : World) :
    Calls Try.prog 45 #[.string s] w fun e w' => e = .returned (.string (bq (flN s.size) (at8 s))) ∧ w' = w := by
  obtain ⟨n, hn⟩ : ∃ n : Nat, n = s.size := ⟨_, rfl⟩
  obtain ⟨hf1, hf2, hf3⟩ := flN_le n
  have HS : Hid (s = bq n (at8 s)) := by rw [hn]; exact (bq_at8 s).symm
  have HZ : Hid (∀ k, n ≤ k → at8 s k = 0) := fun k hk => at8_out s k (by omega)
  rw [← hn]
  rw [← hn] at hs
  generalize flN n = N at *
  have HFN : Hid (∀ k, n ≤ k → k % 16 = 0 → k ≤ N → k = N) := fun k h1 h2 h3 => by omega
  have HN := hide hn
  clear hn
  go_enter Try.func45, Try.ntmps45
  go_wp2_with fail
  go_loopw [0] (fun v wr => ∃ k : Nat, n ≤ k ∧ k ≤ N ∧ v = .string (bq k (at8 s)) ∧ wr = w) (fun v _ => 5000 - (match v with | .string t => t.size | _ => 0))
  case atStart => exact ⟨n, Nat.le_refl _, hf1, by rw [← unhide HS], rfl⟩
  case round =>
    obtain ⟨k, hk1, hk2, rfl, rfl⟩ := hrel
    have hz := bq_size k (at8 s)
    by_cases hm : k % 16 = 0
    · have hkN := unhide HFN k hk1 hm hk2
      have h1 : ((k : Int) % 16 != 0) = false := by simp; omega
      have HK := hide hkN
      clear hm hkN
      generalize hb : bq k (at8 s) = t at *
      have HB := hide hb
      clear hb
      go_wp2
      go_ret
      exact ⟨by rw [← unhide HK, unhide HB]; rfl, rfl⟩
    · have h1 : ((k : Int) % 16 != 0) = true := by simp; omega
      have hkk : k + 1 ≤ N := by omega
      have ad := fun W : World => run_string_add_sum (P := Try.prog) (w := W) (bq k (at8 s)) ⟨#[0]⟩ (by rw [hz]; show k + 1 ≤ _; omega)
      have HB1 := hide (bq_zero k (at8 s) (unhide HZ k hk1))
      have hz2 := bq_size (k + 1) (at8 s)
      rw [← unhide HB1] at hz2
      generalize bq k (at8 s) ++ ⟨#[0]⟩ = t2 at *
      generalize bq k (at8 s) = t at *
      clear hm
      go_wp2
      exact ⟨⟨k + 1, by omega, hkk, by rw [unhide HB1], trivial⟩, by show 5000 - t2.size < 5000 - t.size; omega⟩
/-- the model's key that seals lies in a block -/
structure SM (w : World) (kb gk ok ck gt : Nat) (key : ByteArray) : Prop where
  c0 : w.cell? ⟨kb, 0, none⟩ = some (.slice (some ⟨gk, ok, none⟩) 176 ck)
  c1 : w.cell? ⟨kb, 1, none⟩ = some (.slice (some ⟨gt, 0, none⟩) 256 256)
  c2 : w.cell? ⟨kb, 2, none⟩ = some (.string (bq 16 (hkF key)))
  lt : kb < w.heap.size
  le : 176 ≤ ck
  ks : Ar w gk ok 176 (ks (at8 key))
  tb : Ar w gt 0 256 sub
theorem SM.keep {w w' : World} {kb gk ok ck gt : Nat} {key : ByteArray} (h : SM w kb gk ok ck gt key) (hb : Below w.heap.size w w') : SM w' kb gk ok ck gt key :=
  ⟨by rw [hb.cell (p := ⟨kb, 0, none⟩) h.lt]; exact h.c0, by rw [hb.cell (p := ⟨kb, 1, none⟩) h.lt]; exact h.c1, by rw [hb.cell (p := ⟨kb, 2, none⟩) h.lt]; exact h.c2, Nat.lt_of_lt_of_le h.lt hb.size, h.le, h.ks.below hb h.ks.lt, h.tb.below hb h.tb.lt⟩
set_option maxRecDepth 100000 in
set_option maxHeartbeats 1000000 in
theorem specKey5 (key : ByteArray) (hk : key.size = 16) (w : World) :
    Calls Try.prog 22 #[.string key] w fun e w' => ∃ kb gk ok ck gt, e = .returned (.pointer (some ⟨kb, 0, none⟩)) ∧ SM w' kb gk ok ck gt key ∧ Below w.heap.size w w' := by
  have H1 := hide (fun W => specKeys key hk W)
  have H2 := hide (fun W => specTable W)
  go_enter Try.func22, Try.ntmps22
  go_wp2_with fail
  refine (unhide H1 _).mono ?_
  rintro e w1 ⟨v, rfl, hsp, b1⟩
  obtain ⟨gk, ok, ck, rfl, hgk, hsg⟩ := hsp
  have K1 := hide hsg.ar
  have hkc := hsg.le
  have B1 := hide b1
  clear hsg b1
  go_wp2_with fail
  refine (unhide H2 _).mono ?_
  rintro e w2 ⟨gt, hgt, rfl, hA, b2⟩
  have K2 := hide ((unhide K1).below b2 (unhide K1).lt)
  have T2 := hide hA
  have B2 := hide ((unhide B1).trans (b2.mono (unhide B1).size))
  clear hA b2 K1 B1
  go_wp2_with fail
  have al := (Below.refl w2.heap.size w2).alloc (Nat.le_refl _) (.cells #[.slice (some ⟨gk, ok, none⟩) 176 ck, .slice (some ⟨gt, 0, none⟩) 256 256, .string ⟨#[]⟩] 64)
  have c0 : (w2.alloc (.cells #[.slice (some ⟨gk, ok, none⟩) 176 ck, .slice (some ⟨gt, 0, none⟩) 256 256, .string ⟨#[]⟩] 64)).cell? ⟨w2.heap.size, 0, none⟩ = some (.slice (some ⟨gk, ok, none⟩) 176 ck) := by simp
  have c1 : (w2.alloc (.cells #[.slice (some ⟨gk, ok, none⟩) 176 ck, .slice (some ⟨gt, 0, none⟩) 256 256, .string ⟨#[]⟩] 64)).cell? ⟨w2.heap.size, 1, none⟩ = some (.slice (some ⟨gt, 0, none⟩) 256 256) := by simp
  have c2 : (w2.alloc (.cells #[.slice (some ⟨gk, ok, none⟩) 176 ck, .slice (some ⟨gt, 0, none⟩) 256 256, .string ⟨#[]⟩] 64)).cell? ⟨w2.heap.size, 2, none⟩ = some (.string ⟨#[]⟩) := by simp
  have c3 : (w2.alloc (.cells #[.slice (some ⟨gk, ok, none⟩) 176 ck, .slice (some ⟨gt, 0, none⟩) 256 256, .string ⟨#[]⟩] 64)).frozen? ⟨w2.heap.size, 2, none⟩ = false := by simp
  have hzk : (w2.alloc (.cells #[.slice (some ⟨gk, ok, none⟩) 176 ck, .slice (some ⟨gt, 0, none⟩) 256 256, .string ⟨#[]⟩] 64)).heap.size = w2.heap.size + 1 := by simp
  have K3 := hide (((unhide K2).below al (unhide K2).lt).drew)
  have T3 := hide (((unhide T2).below al (unhide T2).lt).drew)
  have B3 := hide ((unhide B2).trans (al.mono (unhide B2).size)).drew
  have hkb : w.heap.size ≤ w2.heap.size := (unhide B2).size
  have hgk2 : gk < w2.heap.size := (unhide K2).lt
  have hgt2 : gt < w2.heap.size := (unhide T2).lt
  generalize w2.alloc (.cells #[.slice (some ⟨gk, ok, none⟩) 176 ck, .slice (some ⟨gt, 0, none⟩) 256 256, .string ⟨#[]⟩] 64) = W3 at al c0 c1 c2 c3 K3 T3 B3 hzk ⊢
  generalize w2.heap.size = kb at *
  have D0 : W3.drew.cell? ⟨kb, 0, none⟩ = some (.slice (some ⟨gk, ok, none⟩) 176 ck) ∧ W3.drew.cell? ⟨kb, 1, none⟩ = some (.slice (some ⟨gt, 0, none⟩) 256 256) := ⟨c0, c1⟩
  have D2 : W3.drew.cell? ⟨kb, 2, none⟩ = some (.string ⟨#[]⟩) ∧ W3.drew.frozen? ⟨kb, 2, none⟩ = false := ⟨c2, c3⟩
  have hzd : W3.drew.heap.size = kb + 1 := by rw [World.size_drew]; exact hzk
  clear al c0 c1 c2 c3 hzk K2 T2 B2
  refine wp_region_held_drew (S := fun V => V.cell? ⟨kb, 0, none⟩ = some (.slice (some ⟨gk, ok, none⟩) 176 ck) ∧ V.cell? ⟨kb, 1, none⟩ = some (.slice (some ⟨gt, 0, none⟩) 256 256)) (by kernel_rfl) D0 (fun hHeld => ?_)
  generalize W3.drew = V0 at *
  have KS : Hid (∀ V, Below V0.heap.size V0 V → V.cell? ⟨kb, 0, none⟩ = some (.slice (some ⟨gk, ok, none⟩) 176 ck) ∧ V.cell? ⟨kb, 1, none⟩ = some (.slice (some ⟨gt, 0, none⟩) 256 256)) := fun V hV => ⟨(hV.cell (p := ⟨kb, 0, none⟩) (show kb < _ by omega)).trans D0.1, (hV.cell (p := ⟨kb, 1, none⟩) (show kb < _ by omega)).trans D0.2⟩
  have mk0 : (Instr.makeSlice 59 (.int .i64 16) (.int .i64 16)).run Try.prog V0 = .ok (.slice (some ⟨V0.heap.size, 0, none⟩) 16 16) (V0.alloc (.cells (us 16 fun _ => 0).toArray 5)) := mk_bytes 16 (by omega) V0
  have al := (Below.refl V0.heap.size V0).alloc (Nat.le_refl _) (.cells (us 16 fun _ => 0).toArray 5)
  have hst := ar_string (Ar.new V0 16 (fun _ => 0) 5) (fun _ _ => by omega) 16
  rw [hzd] at hst
  refine wpAnyH_take (i := 0) (v := ?_) rfl (by kernel_rfl) (by kernel_rfl) (by kernel_rfl) (fun _ _ _ h => h) (Or.inl ⟨by rfl, ?_⟩) hHeld ?_
  rotate_left
  · intro V hSw; go_simp; rfl
  simp only [Act.put, List.getElem_toArray, List.getElem_cons_zero, List.setIfInBounds_toArray, List.set_cons_zero, List.set_cons_succ]
  refine wpAnyH_take (i := 1) (v := ?_) rfl (by kernel_rfl) (by kernel_rfl) (by kernel_rfl) (fun _ _ _ h => h) (Or.inl ⟨by rfl, ?_⟩) hHeld ?_
  rotate_left
  · intro V hSw; go_simp; rfl
  simp only [Act.put, List.getElem_toArray, List.getElem_cons_succ, List.getElem_cons_zero, List.setIfInBounds_toArray, List.set_cons_zero, List.set_cons_succ]
  refine wpAnyH_take (i := 2) (v := ?_) rfl (by kernel_rfl) (by kernel_rfl) (by kernel_rfl) (fun _ _ _ h => h) (Or.inl ⟨by rfl, ?_⟩) hHeld ?_
  rotate_left
  · intro V hSw; go_simp; rfl
  simp only [Act.put, List.getElem_toArray, List.getElem_cons_succ, List.getElem_cons_zero, List.setIfInBounds_toArray, List.set_cons_zero, List.set_cons_succ]
  refine wpAnyH_take (i := 3) (v := ?_) rfl (by kernel_rfl) (by kernel_rfl) (by kernel_rfl) (fun _ _ _ h => h) (Or.inl ⟨by rfl, ?_⟩) hHeld ?_
  rotate_left
  · intro V hSw; go_simp; rfl
  simp only [Act.put, List.getElem_toArray, List.getElem_cons_succ, List.getElem_cons_zero, List.setIfInBounds_toArray, List.set_cons_zero, List.set_cons_succ]
  refine wpAnyH_take (i := 4) (v := ?_) rfl (by kernel_rfl) (by kernel_rfl) (by kernel_rfl) (fun _ _ _ h => h) (Or.inl ⟨by rfl, ?_⟩) hHeld ?_
  rotate_left
  · intro V hSw; go_simp; rfl
  simp only [Act.put, List.getElem_toArray, List.getElem_cons_succ, List.getElem_cons_zero, List.setIfInBounds_toArray, List.set_cons_zero, List.set_cons_succ]
  refine wpAnyH_take (i := 5) (v := ?_) rfl (by kernel_rfl) (by kernel_rfl) (by kernel_rfl) (fun _ _ _ h => h) (Or.inl ⟨by rfl, ?_⟩) hHeld ?_
  rotate_left
  · intro V hSw; go_simp; rfl
  simp only [Act.put, List.getElem_toArray, List.getElem_cons_succ, List.getElem_cons_zero, List.setIfInBounds_toArray, List.set_cons_zero, List.set_cons_succ]
  refine wpAnyH_take (i := 6) (v := ?_) rfl (by kernel_rfl) (by kernel_rfl) (by kernel_rfl) (fun _ _ _ h => h) (Or.inl ⟨by rfl, ?_⟩) hHeld ?_
  rotate_left
  · intro V hSw; go_simp; rfl
  simp only [Act.put, List.getElem_toArray, List.getElem_cons_succ, List.getElem_cons_zero, List.setIfInBounds_toArray, List.set_cons_zero, List.set_cons_succ]
  refine wpAnyH_take (i := 7) (v := ?_) rfl (by kernel_rfl) (by kernel_rfl) (by kernel_rfl) (fun _ _ _ h => h) (Or.inl ⟨by rfl, ?_⟩) hHeld ?_
  rotate_left
  · intro V hSw; go_simp; rfl
  simp only [Act.put, List.getElem_toArray, List.getElem_cons_succ, List.getElem_cons_zero, List.setIfInBounds_toArray, List.set_cons_zero, List.set_cons_succ]
  refine wpAnyH_take (i := 8) (v := ?_) rfl (by kernel_rfl) (by kernel_rfl) (by kernel_rfl) (fun _ _ _ h => h) (Or.inl ⟨by rfl, ?_⟩) hHeld ?_
  rotate_left
  · intro V hSw; go_simp; rfl
  simp only [Act.put, List.getElem_toArray, List.getElem_cons_succ, List.getElem_cons_zero, List.setIfInBounds_toArray, List.set_cons_zero, List.set_cons_succ]
  refine wpAnyH_ready (rs := [9]) (by kernel_rfl) (by simp) ?_
  refine AllReadyH.cons rfl (fun K hK => ?_) AllReadyH.nil
  go_simp
  refine hK.out _ _ (unhide KS _ al) (fun hHeld => ?_)
  clear hK K
  try simp only [Act.put, List.getElem_toArray, List.getElem_cons_succ, List.getElem_cons_zero, List.setIfInBounds_toArray, List.set_cons_zero, List.set_cons_succ]
  have HW := hide (specWith gk ok ck gt 256 (at8 key) (bq 16 (fun _ => 0)) (at8_lt key) (bq_size _ _) hkc (V0.alloc (.cells (us 16 fun _ => 0).toArray 5)) ((unhide K3).below al (unhide K3).lt) ((unhide T3).below al (unhide T3).lt))
  have AL := hide al
  clear al mk0
  generalize V0.alloc (.cells (us 16 fun _ => 0).toArray 5) = V1 at HW AL hst hHeld ⊢
  refine wpAnyH_ready (rs := [10]) (by kernel_rfl) (by simp) ?_
  refine AllReadyH.cons rfl (fun K hK => ?_) AllReadyH.nil
  go_simp
  refine hK.out _ _ (hHeld) (fun hHeld => ?_)
  clear hK K
  try simp only [Act.put, List.getElem_toArray, List.getElem_cons_succ, List.getElem_cons_zero, List.setIfInBounds_toArray, List.set_cons_zero, List.set_cons_succ]
  refine wpAnyH_ready (rs := [11]) (by kernel_rfl) (by simp) ?_
  refine AllReadyH.cons rfl (fun K hK => ?_) AllReadyH.nil
  go_simp
  go_at_call 31
  refine (unhide HW).mono ?_
  rintro e w4 ⟨rfl, b4⟩
  have B4 := (unhide AL).trans (b4.mono (unhide AL).size)
  refine hK.out _ _ (unhide KS _ B4) (fun hHeld => ?_)
  clear hK K
  try simp only [Act.put, List.getElem_toArray, List.getElem_cons_succ, List.getElem_cons_zero, List.setIfInBounds_toArray, List.set_cons_zero, List.set_cons_succ]
  refine wpAnyH_take (i := 12) (v := ?_) rfl (by kernel_rfl) (by kernel_rfl) (by kernel_rfl) (fun _ _ _ h => h) (Or.inl ⟨by rfl, ?_⟩) hHeld ?_
  rotate_left
  · intro V hSw; go_simp; rfl
  simp only [Act.put, List.getElem_toArray, List.getElem_cons_succ, List.getElem_cons_zero, List.setIfInBounds_toArray, List.set_cons_zero, List.set_cons_succ]
  refine wpAnyH_take (i := 13) (v := ?_) rfl (by kernel_rfl) (by kernel_rfl) (by kernel_rfl) (fun _ _ _ h => h) (Or.inl ⟨by rfl, ?_⟩) hHeld ?_
  rotate_left
  · intro V hSw; go_simp; rfl
  simp only [Act.put, List.getElem_toArray, List.getElem_cons_succ, List.getElem_cons_zero, List.setIfInBounds_toArray, List.set_cons_zero, List.set_cons_succ]
  have k2 := (B4.cell (p := ⟨kb, 2, none⟩) (show kb < _ by omega)).trans D2.1
  have k3 := (B4.frozen (p := ⟨kb, 2, none⟩) (show kb < _ by omega)).trans D2.2
  refine wpAnyH_ready (rs := [14]) (by kernel_rfl) (by simp) ?_
  refine AllReadyH.cons rfl (fun K hK => ?_) AllReadyH.nil
  go_simp
  have eh : bq 16 (fw (rk (at8 key)) (at8 (bq 16 fun _ => 0)) 10) = bq 16 (hkF key) := bq_congr (fun i hi => fw_congr _ _ _ (fun j hj => at8_bq 16 (fun _ => 0) j hj (by omega)) 10 i hi)
  rw [eh]
  have S6 : SM (w4.setCell ⟨kb, 2, none⟩ (.string (bq 16 (hkF key)))) kb gk ok ck gt key := by
    obtain ⟨z0, z1⟩ := unhide KS _ B4
    refine ⟨?_, ?_, World.cell?_setCell_same _ _ _ k2, ?_, hkc, ?_, ?_⟩
    · rw [World.cell?_setCell_other _ _ _ _ (by intro e; simp at e)]; exact z0
    · rw [World.cell?_setCell_other _ _ _ _ (by intro e; simp at e)]; exact z1
    · have := B4.size
      simp only [World.setCell, Array.size_modify]
      omega
    · exact ((unhide K3).below B4 (unhide K3).lt).other (a := ⟨kb, 2, none⟩) (by show kb ≠ gk; omega)
    · exact ((unhide T3).below B4 (unhide T3).lt).other (a := ⟨kb, 2, none⟩) (by show kb ≠ gt; omega)
  have B6 := (((unhide B3).trans (B4.mono (unhide B3).size)).setCell (p := ⟨kb, 2, none⟩) hkb (.string (bq 16 (hkF key))))
  refine hK.out _ _ ⟨S6.c0, S6.c1⟩ (fun hHeld => ?_)
  clear hK K
  try simp only [Act.put, List.getElem_toArray, List.getElem_cons_succ, List.getElem_cons_zero, List.setIfInBounds_toArray, List.set_cons_zero, List.set_cons_succ]
  refine wpAnyH_done (by kernel_rfl) ?_ _
  generalize w4.setCell ⟨kb, 2, none⟩ (.string (bq 16 (hkF key))) = W7 at S6 B6 ⊢
  have HS := hide S6
  have HB := hide B6
  clear hHeld S6 B6 k2 k3 B4 b4 D0 D2
  go_wp2
  go_ret
  exact ⟨kb, gk, ok, ck, gt, rfl, unhide HS, unhide HB⟩
end Go.Proofs.Ytidkbnbnnhbbiaa
