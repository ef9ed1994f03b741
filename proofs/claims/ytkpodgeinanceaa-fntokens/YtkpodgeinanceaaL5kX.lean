/-
  Contracts: the model's texts filled up, its key that seals. Contracts: the model's tag. Contracts: the model's texts that are counted behind a nonce. Contracts: the model's SealText, TagOf, OpenText.
-/
import Derived.Test.YtkpodgeinanceaaL5h
import Derived.Test.YtkpodgeinanceaaLbl
import Derived.Test.YtkpodgeinanceaaLco
import Derived.Test.YtkpodgeinanceaaXot
import Derived.Test.YtkpodgeinanceaaE5hX
namespace Go.Proofs.Ytkpodgeinanceaa
open Go.ChangeShapes Go.WideShapes Go.ChangeAt Go.RowKit
set_option linter.unusedVariables false

theorem at8_out (s : ByteArray) (i : Nat) (h : s.size ≤ i) : at8 s i = 0 := by unfold at8; rw [dif_neg (by omega)]
theorem bq_zero (k : Nat) (f : Nat → Nat) (h : f k = 0) : bq k f ++ ⟨#[0]⟩ = bq (k + 1) f := by
  rw [bq_add k 1 f]
  congr 1
  unfold bq
  show (⟨#[0]⟩ : ByteArray) = ⟨#[UInt8.ofNat (f (k + 0))]⟩
  rw [Nat.add_zero, h]
  rfl
set_option maxRecDepth 100000 in
set_option maxHeartbeats 1000000 in
theorem specFull (s : ByteArray) (hs : s.size ≤ 4000) (w : World) :
    Calls Try.prog 76 #[.string s] w fun e w' => e = .returned (.string (bq (flN s.size) (at8 s))) ∧ w' = w := by
  obtain ⟨n, hn⟩ : ∃ n : Nat, n = s.size := ⟨_, rfl⟩
  obtain ⟨hf1, hf2, hf3⟩ := flN_le n
  have HS : Hid (s = bq n (at8 s)) := by rw [hn]; exact (bq_at8 s).symm
  have HZ : Hid (∀ k, n ≤ k → at8 s k = 0) := fun k hk => at8_out s k (by omega)
  rw [← hn]
  rw [← hn] at hs
  generalize flN n = N at *
  have HFN : Hid (∀ k, n ≤ k → k % 16 = 0 → k ≤ N → k = N) := fun k h1 h2 h3 => by omega
  have HN := hide hn
  clear hn
  go_enter Try.func76, Try.ntmps76
  go_wp2_with fail
  go_loopw [0] (fun v wr => ∃ k : Nat, n ≤ k ∧ k ≤ N ∧ v = .string (bq k (at8 s)) ∧ wr = w) (fun v _ => 5000 - (match v with | .string t => t.size | _ => 0))
  case atStart => exact ⟨n, Nat.le_refl _, hf1, by rw [← unhide HS], rfl⟩
  case round =>
    obtain ⟨k, hk1, hk2, rfl, rfl⟩ := hrel
    have hz := bq_size k (at8 s)
    by_cases hm : k % 16 = 0
    · have hkN := unhide HFN k hk1 hm hk2
      have h1 : ((k : Int) % 16 != 0) = false := by simp; omega
      have HK := hide hkN
      clear hm hkN
      generalize hb : bq k (at8 s) = t at *
      have HB := hide hb
      clear hb
      go_wp2
      go_ret
      exact ⟨by rw [← unhide HK, unhide HB]; rfl, rfl⟩
    · have h1 : ((k : Int) % 16 != 0) = true := by simp; omega
      have hkk : k + 1 ≤ N := by omega
      have ad := fun W : World => run_string_add_sum (P := Try.prog) (w := W) (bq k (at8 s)) ⟨#[0]⟩ (by rw [hz]; show k + 1 ≤ _; omega)
      have HB1 := hide (bq_zero k (at8 s) (unhide HZ k hk1))
      have hz2 := bq_size (k + 1) (at8 s)
      rw [← unhide HB1] at hz2
      generalize bq k (at8 s) ++ ⟨#[0]⟩ = t2 at *
      generalize bq k (at8 s) = t at *
      clear hm
      go_wp2
      exact ⟨⟨k + 1, by omega, hkk, by rw [unhide HB1], trivial⟩, by show 5000 - t2.size < 5000 - t.size; omega⟩
/-- the model's key that seals lies in a block -/
structure SM (w : World) (kb gk ok ck gt : Nat) (key : ByteArray) : Prop where
  c0 : w.cell? ⟨kb, 0, none⟩ = some (.slice (some ⟨gk, ok, none⟩) 176 ck)
  c1 : w.cell? ⟨kb, 1, none⟩ = some (.slice (some ⟨gt, 0, none⟩) 256 256)
  c2 : w.cell? ⟨kb, 2, none⟩ = some (.string (bq 16 (hkF key)))
  lt : kb < w.heap.size
  le : 176 ≤ ck
  ks : Ar w gk ok 176 (ks (at8 key))
  tb : Ar w gt 0 256 sub
theorem SM.keep {w w' : World} {kb gk ok ck gt : Nat} {key : ByteArray} (h : SM w kb gk ok ck gt key) (hb : Below w.heap.size w w') : SM w' kb gk ok ck gt key :=
  ⟨by rw [hb.cell (p := ⟨kb, 0, none⟩) h.lt]; exact h.c0, by rw [hb.cell (p := ⟨kb, 1, none⟩) h.lt]; exact h.c1, by rw [hb.cell (p := ⟨kb, 2, none⟩) h.lt]; exact h.c2, Nat.lt_of_lt_of_le h.lt hb.size, h.le, h.ks.below hb h.ks.lt, h.tb.below hb h.tb.lt⟩
set_option maxRecDepth 100000 in
set_option maxHeartbeats 1000000 in
theorem specKey5 (key : ByteArray) (hk : key.size = 16) (w : World) :
    Calls Try.prog 36 #[.string key] w fun e w' => ∃ kb gk ok ck gt, e = .returned (.pointer (some ⟨kb, 0, none⟩)) ∧ SM w' kb gk ok ck gt key ∧ Below w.heap.size w w' := by
  have H1 := hide (fun W => specKeys key hk W)
  have H2 := hide (fun W => specTable W)
  go_enter Try.func36, Try.ntmps36
  go_wp2_with fail
  refine (unhide H1 _).mono ?_
  rintro e w1 ⟨v, rfl, hsp, b1⟩
  obtain ⟨gk, ok, ck, rfl, hgk, hsg⟩ := hsp
  have K1 := hide hsg.ar
  have hkc := hsg.le
  have B1 := hide b1
  clear hsg b1
  go_wp2_with fail
  refine (unhide H2 _).mono ?_
  rintro e w2 ⟨gt, hgt, rfl, hA, b2⟩
  have K2 := hide ((unhide K1).below b2 (unhide K1).lt)
  have T2 := hide hA
  have B2 := hide ((unhide B1).trans (b2.mono (unhide B1).size))
  clear hA b2 K1 B1
  go_wp2_with fail
  have al := (Below.refl w2.heap.size w2).alloc (Nat.le_refl _) (.cells #[.slice (some ⟨gk, ok, none⟩) 176 ck, .slice (some ⟨gt, 0, none⟩) 256 256, .string ⟨#[]⟩] 93)
  have c0 : (w2.alloc (.cells #[.slice (some ⟨gk, ok, none⟩) 176 ck, .slice (some ⟨gt, 0, none⟩) 256 256, .string ⟨#[]⟩] 93)).cell? ⟨w2.heap.size, 0, none⟩ = some (.slice (some ⟨gk, ok, none⟩) 176 ck) := by simp
  have c1 : (w2.alloc (.cells #[.slice (some ⟨gk, ok, none⟩) 176 ck, .slice (some ⟨gt, 0, none⟩) 256 256, .string ⟨#[]⟩] 93)).cell? ⟨w2.heap.size, 1, none⟩ = some (.slice (some ⟨gt, 0, none⟩) 256 256) := by simp
  have c2 : (w2.alloc (.cells #[.slice (some ⟨gk, ok, none⟩) 176 ck, .slice (some ⟨gt, 0, none⟩) 256 256, .string ⟨#[]⟩] 93)).cell? ⟨w2.heap.size, 2, none⟩ = some (.string ⟨#[]⟩) := by simp
  have c3 : (w2.alloc (.cells #[.slice (some ⟨gk, ok, none⟩) 176 ck, .slice (some ⟨gt, 0, none⟩) 256 256, .string ⟨#[]⟩] 93)).frozen? ⟨w2.heap.size, 2, none⟩ = false := by simp
  have hzk : (w2.alloc (.cells #[.slice (some ⟨gk, ok, none⟩) 176 ck, .slice (some ⟨gt, 0, none⟩) 256 256, .string ⟨#[]⟩] 93)).heap.size = w2.heap.size + 1 := by simp
  have K3 := hide (((unhide K2).below al (unhide K2).lt).drew)
  have T3 := hide (((unhide T2).below al (unhide T2).lt).drew)
  have B3 := hide ((unhide B2).trans (al.mono (unhide B2).size)).drew
  have hkb : w.heap.size ≤ w2.heap.size := (unhide B2).size
  have hgk2 : gk < w2.heap.size := (unhide K2).lt
  have hgt2 : gt < w2.heap.size := (unhide T2).lt
  generalize w2.alloc (.cells #[.slice (some ⟨gk, ok, none⟩) 176 ck, .slice (some ⟨gt, 0, none⟩) 256 256, .string ⟨#[]⟩] 93) = W3 at al c0 c1 c2 c3 K3 T3 B3 hzk ⊢
  generalize w2.heap.size = kb at *
  have D0 : W3.drew.cell? ⟨kb, 0, none⟩ = some (.slice (some ⟨gk, ok, none⟩) 176 ck) ∧ W3.drew.cell? ⟨kb, 1, none⟩ = some (.slice (some ⟨gt, 0, none⟩) 256 256) := ⟨c0, c1⟩
  have D2 : W3.drew.cell? ⟨kb, 2, none⟩ = some (.string ⟨#[]⟩) ∧ W3.drew.frozen? ⟨kb, 2, none⟩ = false := ⟨c2, c3⟩
  have hzd : W3.drew.heap.size = kb + 1 := by rw [World.size_drew]; exact hzk
  clear al c0 c1 c2 c3 hzk K2 T2 B2
  refine wp_region_held_drew (S := fun V => V.cell? ⟨kb, 0, none⟩ = some (.slice (some ⟨gk, ok, none⟩) 176 ck) ∧ V.cell? ⟨kb, 1, none⟩ = some (.slice (some ⟨gt, 0, none⟩) 256 256)) (by kernel_rfl) D0 (fun hHeld => ?_)
  generalize W3.drew = V0 at *
  have KS : Hid (∀ V, Below V0.heap.size V0 V → V.cell? ⟨kb, 0, none⟩ = some (.slice (some ⟨gk, ok, none⟩) 176 ck) ∧ V.cell? ⟨kb, 1, none⟩ = some (.slice (some ⟨gt, 0, none⟩) 256 256)) := fun V hV => ⟨(hV.cell (p := ⟨kb, 0, none⟩) (show kb < _ by omega)).trans D0.1, (hV.cell (p := ⟨kb, 1, none⟩) (show kb < _ by omega)).trans D0.2⟩
  have mk0 : (Instr.makeSlice 32 (.int .i64 16) (.int .i64 16)).run Try.prog V0 = .ok (.slice (some ⟨V0.heap.size, 0, none⟩) 16 16) (V0.alloc (.cells (us 16 fun _ => 0).toArray 5)) := mk_bytes 16 (by omega) V0
  have al := (Below.refl V0.heap.size V0).alloc (Nat.le_refl _) (.cells (us 16 fun _ => 0).toArray 5)
  have hst := ar_string (Ar.new V0 16 (fun _ => 0) 5) (fun _ _ => by omega) 16
  rw [hzd] at hst
  refine wpAnyH_take (i := 0) (v := ?_) rfl (by kernel_rfl) (by kernel_rfl) (by kernel_rfl) (fun _ _ _ h => h) (Or.inl ⟨by rfl, ?_⟩) hHeld ?_
  rotate_left
  · intro V hSw; go_simp; rfl
  simp only [Act.put, List.getElem_toArray, List.getElem_cons_zero, List.setIfInBounds_toArray, List.set_cons_zero, List.set_cons_succ]
  refine wpAnyH_take (i := 1) (v := ?_) rfl (by kernel_rfl) (by kernel_rfl) (by kernel_rfl) (fun _ _ _ h => h) (Or.inl ⟨by rfl, ?_⟩) hHeld ?_
  rotate_left
  · intro V hSw; go_simp; rfl
  simp only [Act.put, List.getElem_toArray, List.getElem_cons_succ, List.getElem_cons_zero, List.setIfInBounds_toArray, List.set_cons_zero, List.set_cons_succ]
  refine wpAnyH_take (i := 2) (v := ?_) rfl (by kernel_rfl) (by kernel_rfl) (by kernel_rfl) (fun _ _ _ h => h) (Or.inl ⟨by rfl, ?_⟩) hHeld ?_
  rotate_left
  · intro V hSw; go_simp; rfl
  simp only [Act.put, List.getElem_toArray, List.getElem_cons_succ, List.getElem_cons_zero, List.setIfInBounds_toArray, List.set_cons_zero, List.set_cons_succ]
  refine wpAnyH_take (i := 3) (v := ?_) rfl (by kernel_rfl) (by kernel_rfl) (by kernel_rfl) (fun _ _ _ h => h) (Or.inl ⟨by rfl, ?_⟩) hHeld ?_
  rotate_left
  · intro V hSw; go_simp; rfl
  simp only [Act.put, List.getElem_toArray, List.getElem_cons_succ, List.getElem_cons_zero, List.setIfInBounds_toArray, List.set_cons_zero, List.set_cons_succ]
  refine wpAnyH_take (i := 4) (v := ?_) rfl (by kernel_rfl) (by kernel_rfl) (by kernel_rfl) (fun _ _ _ h => h) (Or.inl ⟨by rfl, ?_⟩) hHeld ?_
  rotate_left
  · intro V hSw; go_simp; rfl
  simp only [Act.put, List.getElem_toArray, List.getElem_cons_succ, List.getElem_cons_zero, List.setIfInBounds_toArray, List.set_cons_zero, List.set_cons_succ]
  refine wpAnyH_take (i := 5) (v := ?_) rfl (by kernel_rfl) (by kernel_rfl) (by kernel_rfl) (fun _ _ _ h => h) (Or.inl ⟨by rfl, ?_⟩) hHeld ?_
  rotate_left
  · intro V hSw; go_simp; rfl
  simp only [Act.put, List.getElem_toArray, List.getElem_cons_succ, List.getElem_cons_zero, List.setIfInBounds_toArray, List.set_cons_zero, List.set_cons_succ]
  refine wpAnyH_take (i := 6) (v := ?_) rfl (by kernel_rfl) (by kernel_rfl) (by kernel_rfl) (fun _ _ _ h => h) (Or.inl ⟨by rfl, ?_⟩) hHeld ?_
  rotate_left
  · intro V hSw; go_simp; rfl
  simp only [Act.put, List.getElem_toArray, List.getElem_cons_succ, List.getElem_cons_zero, List.setIfInBounds_toArray, List.set_cons_zero, List.set_cons_succ]
  refine wpAnyH_take (i := 7) (v := ?_) rfl (by kernel_rfl) (by kernel_rfl) (by kernel_rfl) (fun _ _ _ h => h) (Or.inl ⟨by rfl, ?_⟩) hHeld ?_
  rotate_left
  · intro V hSw; go_simp; rfl
  simp only [Act.put, List.getElem_toArray, List.getElem_cons_succ, List.getElem_cons_zero, List.setIfInBounds_toArray, List.set_cons_zero, List.set_cons_succ]
  refine wpAnyH_take (i := 8) (v := ?_) rfl (by kernel_rfl) (by kernel_rfl) (by kernel_rfl) (fun _ _ _ h => h) (Or.inl ⟨by rfl, ?_⟩) hHeld ?_
  rotate_left
  · intro V hSw; go_simp; rfl
  simp only [Act.put, List.getElem_toArray, List.getElem_cons_succ, List.getElem_cons_zero, List.setIfInBounds_toArray, List.set_cons_zero, List.set_cons_succ]
  refine wpAnyH_ready (rs := [9]) (by kernel_rfl) (by simp) ?_
  refine AllReadyH.cons rfl (fun K hK => ?_) AllReadyH.nil
  go_simp
  refine hK.out _ _ (unhide KS _ al) (fun hHeld => ?_)
  clear hK K
  try simp only [Act.put, List.getElem_toArray, List.getElem_cons_succ, List.getElem_cons_zero, List.setIfInBounds_toArray, List.set_cons_zero, List.set_cons_succ]
  have HW := hide (specWith gk ok ck gt 256 (at8 key) (bq 16 (fun _ => 0)) (at8_lt key) (bq_size _ _) hkc (V0.alloc (.cells (us 16 fun _ => 0).toArray 5)) ((unhide K3).below al (unhide K3).lt) ((unhide T3).below al (unhide T3).lt))
  have AL := hide al
  clear al mk0
  generalize V0.alloc (.cells (us 16 fun _ => 0).toArray 5) = V1 at HW AL hst hHeld ⊢
  refine wpAnyH_ready (rs := [10]) (by kernel_rfl) (by simp) ?_
  refine AllReadyH.cons rfl (fun K hK => ?_) AllReadyH.nil
  go_simp
  refine hK.out _ _ (hHeld) (fun hHeld => ?_)
  clear hK K
  try simp only [Act.put, List.getElem_toArray, List.getElem_cons_succ, List.getElem_cons_zero, List.setIfInBounds_toArray, List.set_cons_zero, List.set_cons_succ]
  refine wpAnyH_ready (rs := [11]) (by kernel_rfl) (by simp) ?_
  refine AllReadyH.cons rfl (fun K hK => ?_) AllReadyH.nil
  go_simp
  go_at_call 58
  refine (unhide HW).mono ?_
  rintro e w4 ⟨rfl, b4⟩
  have B4 := (unhide AL).trans (b4.mono (unhide AL).size)
  refine hK.out _ _ (unhide KS _ B4) (fun hHeld => ?_)
  clear hK K
  try simp only [Act.put, List.getElem_toArray, List.getElem_cons_succ, List.getElem_cons_zero, List.setIfInBounds_toArray, List.set_cons_zero, List.set_cons_succ]
  refine wpAnyH_take (i := 12) (v := ?_) rfl (by kernel_rfl) (by kernel_rfl) (by kernel_rfl) (fun _ _ _ h => h) (Or.inl ⟨by rfl, ?_⟩) hHeld ?_
  rotate_left
  · intro V hSw; go_simp; rfl
  simp only [Act.put, List.getElem_toArray, List.getElem_cons_succ, List.getElem_cons_zero, List.setIfInBounds_toArray, List.set_cons_zero, List.set_cons_succ]
  refine wpAnyH_take (i := 13) (v := ?_) rfl (by kernel_rfl) (by kernel_rfl) (by kernel_rfl) (fun _ _ _ h => h) (Or.inl ⟨by rfl, ?_⟩) hHeld ?_
  rotate_left
  · intro V hSw; go_simp; rfl
  simp only [Act.put, List.getElem_toArray, List.getElem_cons_succ, List.getElem_cons_zero, List.setIfInBounds_toArray, List.set_cons_zero, List.set_cons_succ]
  have k2 := (B4.cell (p := ⟨kb, 2, none⟩) (show kb < _ by omega)).trans D2.1
  have k3 := (B4.frozen (p := ⟨kb, 2, none⟩) (show kb < _ by omega)).trans D2.2
  refine wpAnyH_ready (rs := [14]) (by kernel_rfl) (by simp) ?_
  refine AllReadyH.cons rfl (fun K hK => ?_) AllReadyH.nil
  go_simp
  have eh : bq 16 (fw (rk (at8 key)) (at8 (bq 16 fun _ => 0)) 10) = bq 16 (hkF key) := bq_congr (fun i hi => fw_congr _ _ _ (fun j hj => at8_bq 16 (fun _ => 0) j hj (by omega)) 10 i hi)
  rw [eh]
  have S6 : SM (w4.setCell ⟨kb, 2, none⟩ (.string (bq 16 (hkF key)))) kb gk ok ck gt key := by
    obtain ⟨z0, z1⟩ := unhide KS _ B4
    refine ⟨?_, ?_, World.cell?_setCell_same _ _ _ k2, ?_, hkc, ?_, ?_⟩
    · rw [World.cell?_setCell_other _ _ _ _ (by intro e; simp at e)]; exact z0
    · rw [World.cell?_setCell_other _ _ _ _ (by intro e; simp at e)]; exact z1
    · have := B4.size
      simp only [World.setCell, Array.size_modify]
      omega
    · exact ((unhide K3).below B4 (unhide K3).lt).other (a := ⟨kb, 2, none⟩) (by show kb ≠ gk; omega)
    · exact ((unhide T3).below B4 (unhide T3).lt).other (a := ⟨kb, 2, none⟩) (by show kb ≠ gt; omega)
  have B6 := (((unhide B3).trans (B4.mono (unhide B3).size)).setCell (p := ⟨kb, 2, none⟩) hkb (.string (bq 16 (hkF key))))
  refine hK.out _ _ ⟨S6.c0, S6.c1⟩ (fun hHeld => ?_)
  clear hK K
  try simp only [Act.put, List.getElem_toArray, List.getElem_cons_succ, List.getElem_cons_zero, List.setIfInBounds_toArray, List.set_cons_zero, List.set_cons_succ]
  refine wpAnyH_done (by kernel_rfl) ?_ _
  generalize w4.setCell ⟨kb, 2, none⟩ (.string (bq 16 (hkF key))) = W7 at S6 B6 ⊢
  have HS := hide S6
  have HB := hide B6
  clear hHeld S6 B6 k2 k3 B4 b4 D0 D2
  go_wp2
  go_ret
  exact ⟨kb, gk, ok, ck, gt, rfl, unhide HS, unhide HB⟩
end Go.Proofs.Ytkpodgeinanceaa
namespace Go.Proofs.Ytkpodgeinanceaa
open Go.ChangeShapes Go.WideShapes Go.ChangeAt Go.RowKit
set_option linter.unusedVariables false

theorem nbF_congr (f g : Nat → Nat) : ∀ k, (∀ i, i < k → f i = g i) → nbF f k = nbF g k
  | 0, _ => rfl
  | k + 1, h => by rw [nbF, nbF, nbF_congr f g k (fun i hi => h i (by omega)), h k (by omega)]
theorem ghF_congr (kh kl : Nat) (f g : Nat → Nat) : ∀ j, (∀ i, i < 16 * j → f i = g i) → ghF kh kl f j = ghF kh kl g j
  | 0, _ => rfl
  | j + 1, h => by
    rw [ghF, ghF, ghF_congr kh kl f g j (fun i hi => h i (by omega))]
    unfold bkH bkL
    rw [nbF_congr (fun i => f (16 * j + i)) (fun i => g (16 * j + i)) 8 (fun i hi => h _ (by omega)), nbF_congr (fun i => f (16 * j + (8 + i))) (fun i => g (16 * j + (8 + i))) 8 (fun i hi => h _ (by omega))]
theorem hk_hi (key : ByteArray) : hiW (bq 16 (hkF key)) = hkH key := by
  rw [← nbF_hi _ (bq_size _ _)]
  exact nbF_congr _ _ 8 (fun i hi => at8_bq 16 _ i (by omega) (hkF_lt key i))
theorem hk_lo (key : ByteArray) : lo5W (bq 16 (hkF key)) = hkL key := by
  rw [← nbF_lo _ (bq_size _ _)]
  exact nbF_congr _ _ 8 (fun i hi => at8_bq 16 _ (8 + i) (by omega) (hkF_lt key _))
theorem flF_at8 (s : ByteArray) (i : Nat) : flF s.size (at8 s) i = at8 s i := by
  unfold flF
  by_cases e : i < s.size
  · rw [if_pos e]
  · rw [if_neg e, at8_out s i (by omega)]
/-- what is hashed for a tag, as a text -/
def tgT (beside sealed : ByteArray) : ByteArray := bq (flN beside.size) (at8 beside) ++ bq (flN sealed.size) (at8 sealed) ++ bq 8 (fun i => byN (8 * beside.size) (7 - i)) ++ bq 8 (fun i => byN (8 * sealed.size) (7 - i))
theorem tgT_size (beside sealed : ByteArray) : (tgT beside sealed).size = 16 * (flN beside.size / 16 + flN sealed.size / 16 + 1) := by
  have h1 := (flN_le beside.size).2.2
  have h2 := (flN_le sealed.size).2.2
  unfold tgT
  rw [ByteArray.size_append, ByteArray.size_append, ByteArray.size_append, bq_size, bq_size, bq_size, bq_size]
  omega
theorem tgT_at (beside sealed : ByteArray) (i : Nat) (hi : i < 16 * (flN beside.size / 16 + flN sealed.size / 16 + 1)) : at8 (tgT beside sealed) i = tgF beside.size sealed.size (at8 beside) (at8 sealed) i := by
  have h1 := (flN_le beside.size).2.2
  have h2 := (flN_le sealed.size).2.2
  unfold tgT tgF
  rw [at8_append, at8_append, at8_append, ByteArray.size_append, ByteArray.size_append, bq_size, bq_size, bq_size]
  by_cases e1 : i < flN beside.size
  · rw [if_pos (by omega), if_pos (by omega), if_pos e1, if_pos e1, flF_at8, at8_bq _ _ i e1 (at8_lt _ _)]
  · by_cases e2 : i < flN beside.size + flN sealed.size
    · rw [if_pos (by omega), if_pos e2, if_neg e1, if_neg e1, if_pos e2, flF_at8, at8_bq _ _ _ (by omega) (at8_lt _ _)]
    · simp only [if_neg e1, if_neg e2]
      unfold blF
      by_cases e3 : i < flN beside.size + flN sealed.size + 8
      · rw [if_pos e3, if_pos (by omega), at8_bq 8 (fun i => byN (8 * beside.size) (7 - i)) _ (by omega) (byN_lt _ _)]
      · rw [if_neg e3, if_neg (by omega), at8_bq 8 (fun i => byN (8 * sealed.size) (7 - i)) _ (by omega) (byN_lt _ _)]
        congr 1
        omega
theorem specFix8' (n : Nat) (hn : n ≤ 100000) (w : World) :
    Calls Try.prog 55 #[.int .i64 (8 * (n : Int)), .int .i64 8] w fun e w' => e = .returned (.string (bq 8 (fun i => byN (8 * n) (7 - i)))) ∧ Below w.heap.size w w' := by
  have := specFix8 (8 * n) (by omega) w
  rw [wraps_i64 _ (by omega) (by omega), show ((8 * n : Nat) : Int) = 8 * (n : Int) by omega] at this
  exact this
/-- the nonce and the number 1 -/
def n1W (nonce : ByteArray) : ByteArray := nonce ++ ⟨#[0, 0, 0, 1]⟩
theorem n1W_size (nonce : ByteArray) (hn : nonce.size = 12) : (n1W nonce).size = 16 := by
  unfold n1W
  rw [ByteArray.size_append, hn]
  rfl
theorem n1W_at (nonce : ByteArray) (hn : nonce.size = 12) (i : Nat) (hi : i < 16) : at8 (n1W nonce) i = plB (at8 nonce) 1 i := by
  unfold n1W plB
  rw [at8_append, hn]
  by_cases e : i < 12
  · rw [if_pos e, if_pos e]
  · rw [if_neg e, if_neg e]
    have h4 : nb4 (at8 nonce) = 0 := by
      unfold nb4
      rw [at8_out nonce 12 (by omega), at8_out nonce 13 (by omega), at8_out nonce 14 (by omega), at8_out nonce 15 (by omega)]
    rw [h4]
    have h : i = 12 ∨ i = 13 ∨ i = 14 ∨ i = 15 := by omega
    rcases h with rfl | rfl | rfl | rfl <;> rfl
set_option maxRecDepth 100000 in
set_option maxHeartbeats 1000000 in
theorem specTag (kb gk ok ck gt : Nat) (key nonce beside sealed : ByteArray) (hn : nonce.size = 12) (hb : beside.size ≤ 1500) (hs : sealed.size ≤ 1500) (w : World) (hM : SM w kb gk ok ck gt key) :
    Calls Try.prog 59 #[.pointer (some ⟨kb, 0, none⟩), .string nonce, .string beside, .string sealed] w fun e w' => e = .returned (.string (bq 16 (tgB key nonce beside.size sealed.size (at8 beside) (at8 sealed)))) ∧ Below w.heap.size w w' := by
  have H1 := hide (fun W => specFull beside (by omega) W)
  have H2 := hide (fun W => specFull sealed (by omega) W)
  have H3 := hide (fun W => specFix8' beside.size (by omega) W)
  have H4 := hide (fun W => specFix8' sealed.size (by omega) W)
  have hz1 := flN_le beside.size
  have hz2 := flN_le sealed.size
  have ad1 := fun W : World => run_string_add_sum (P := Try.prog) (w := W) (bq (flN beside.size) (at8 beside)) (bq (flN sealed.size) (at8 sealed)) (by rw [bq_size, bq_size]; omega)
  have ad2 := fun W : World => run_string_add_sum (P := Try.prog) (w := W) (bq (flN beside.size) (at8 beside) ++ bq (flN sealed.size) (at8 sealed)) (bq 8 (fun i => byN (8 * beside.size) (7 - i))) (by rw [ByteArray.size_append, bq_size, bq_size, bq_size]; omega)
  have ad3 := fun W : World => run_string_add_sum (P := Try.prog) (w := W) (bq (flN beside.size) (at8 beside) ++ bq (flN sealed.size) (at8 sealed) ++ bq 8 (fun i => byN (8 * beside.size) (7 - i))) (bq 8 (fun i => byN (8 * sealed.size) (7 - i))) (by rw [ByteArray.size_append, ByteArray.size_append, bq_size, bq_size, bq_size, bq_size]; omega)
  have HT : Hid (bq (flN beside.size) (at8 beside) ++ bq (flN sealed.size) (at8 sealed) ++ bq 8 (fun i => byN (8 * beside.size) (7 - i)) ++ bq 8 (fun i => byN (8 * sealed.size) (7 - i)) = tgT beside sealed) := rfl
  generalize bq (flN beside.size) (at8 beside) ++ bq (flN sealed.size) (at8 sealed) ++ bq 8 (fun i => byN (8 * beside.size) (7 - i)) ++ bq 8 (fun i => byN (8 * sealed.size) (7 - i)) = T at *
  generalize bq (flN beside.size) (at8 beside) ++ bq (flN sealed.size) (at8 sealed) ++ bq 8 (fun i => byN (8 * beside.size) (7 - i)) = T3 at *
  generalize bq (flN beside.size) (at8 beside) ++ bq (flN sealed.size) (at8 sealed) = T2 at *
  generalize bq (flN beside.size) (at8 beside) = t1 at *
  generalize bq (flN sealed.size) (at8 sealed) = t2 at *
  generalize bq 8 (fun i => byN (8 * beside.size) (7 - i)) = t3 at *
  generalize bq 8 (fun i => byN (8 * sealed.size) (7 - i)) = t4 at *
  have HM := hide hM
  obtain ⟨n, hnn⟩ : ∃ n : Nat, n = flN beside.size / 16 + flN sealed.size / 16 + 1 := ⟨_, rfl⟩
  have hTs : T.size = 16 * n := by rw [unhide HT, hnn]; exact tgT_size beside sealed
  have hghe : ghF (hkH key) (hkL key) (at8 T) n = tgP key beside.size sealed.size (at8 beside) (at8 sealed) := by
    unfold tgP
    rw [hnn]
    exact ghF_congr _ _ _ _ _ (fun i hi => by rw [unhide HT]; exact tgT_at beside sealed i hi)
  have H5 := fun W => specGhash (bq 16 (hkF key)) T n (bq_size _ _) hTs (by omega) W
  rw [hk_hi, hk_lo, hghe] at H5
  have H5 := hide H5
  have hpl := tgP_lt key beside.size sealed.size (at8 beside) (at8 sealed)
  have H6 := hide (fun W => specTold _ _ hpl.1 hpl.2 W)
  clear hM hz1 hz2 hTs hghe hnn
  go_enter Try.func59, Try.ntmps59
  go_wp2_with (first
    | (go_at_call 76; with_reducible refine (unhide H1 _).mono ?_; rintro e w1 ⟨rfl, h9⟩; rw [h9]; clear h9 w1)
    | (go_at_call 76; with_reducible refine (unhide H2 _).mono ?_; rintro e w1 ⟨rfl, h9⟩; rw [h9]; clear h9 w1)
    | (go_at_call 55; with_reducible refine (unhide H3 _).mono ?_; rintro e w3 ⟨rfl, b3⟩; have B3 := hide b3; clear b3)
    | (go_at_call 55; with_reducible refine (unhide H4 _).mono ?_; rintro e w4 ⟨rfl, b4⟩; have M4 := (unhide HM).keep ((unhide B3).trans (b4.mono (unhide B3).size)); have c2 := M4.c2; have HM4 := hide M4; have B4 := hide ((unhide B3).trans (b4.mono (unhide B3).size)); clear b4 M4)
    | (go_at_call 78; with_reducible refine (unhide H5 _).mono ?_; rintro e w5 ⟨rfl, b5⟩; have B5 := hide b5; clear b5)
    | (go_at_call 77; with_reducible refine (unhide H6 _).mono ?_; rintro e w6 ⟨rfl, b6⟩; have B6 := hide b6; clear b6))
  have B7 := hide ((unhide B4).trans (((unhide B5).trans ((unhide B6).mono (unhide B5).size)).mono (unhide B4).size))
  have M7 := ((unhide HM4).keep (unhide B5)).keep (unhide B6)
  clear c2 HM4 B3 B4 B5 B6 H1 H2 H3 H4 H5 H6 ad1 ad2 ad3 HM
  have hys := tlW_size (tgP key beside.size sealed.size (at8 beside) (at8 sealed)).1 (tgP key beside.size sealed.size (at8 beside) (at8 sealed)).2
  have hyb := tlW_bq (tgP key beside.size sealed.size (at8 beside) (at8 sealed)).1 (tgP key beside.size sealed.size (at8 beside) (at8 sealed)).2
  have HY : Hid (∀ i, i < 16 → at8 (tlW (tgP key beside.size sealed.size (at8 beside) (at8 sealed)).1 (tgP key beside.size sealed.size (at8 beside) (at8 sealed)).2) i = blF (tgP key beside.size sealed.size (at8 beside) (at8 sealed)).1 (tgP key beside.size sealed.size (at8 beside) (at8 sealed)).2 i) := fun i hi => by rw [hyb]; exact at8_bq 16 _ i hi (blF_lt _ _ _)
  have hn1 := n1W_size nonce hn
  have HW0 : Hid (∀ V, SM V kb gk ok ck gt key → Calls Try.prog 58 #[.slice (some ⟨gk, ok, none⟩) 176 ck, .slice (some ⟨gt, 0, none⟩) 256 256, .string (n1W nonce)] V fun e w' => e = .returned (.string (bq 16 (fw (rk (at8 key)) (at8 (n1W nonce)) 10))) ∧ Below V.heap.size V w') := fun V h => specWith gk ok ck gt 256 (at8 key) (n1W nonce) (at8_lt key) hn1 h.le V h.ks h.tb
  have hzs := bq_size 16 (fw (rk (at8 key)) (at8 (n1W nonce)) 10)
  have HZ : Hid (∀ i, i < 16 → at8 (bq 16 (fw (rk (at8 key)) (at8 (n1W nonce)) 10)) i = fw (rk (at8 key)) (plB (at8 nonce) 1) 10 i) := fun i hi => by
    rw [at8_bq 16 _ i hi (fw_lt (rk (at8 key)) _ (fun n i => rk_lt (at8 key) (at8_lt key) n i) (at8_lt _) 10 _)]
    exact fw_congr _ _ _ (fun j hj => n1W_at nonce hn j hj) 10 i hi
  have HE : Hid (bq 16 (fun i => at8 (tlW (tgP key beside.size sealed.size (at8 beside) (at8 sealed)).1 (tgP key beside.size sealed.size (at8 beside) (at8 sealed)).2) i ^^^ at8 (bq 16 (fw (rk (at8 key)) (at8 (n1W nonce)) 10)) i) = bq 16 (tgB key nonce beside.size sealed.size (at8 beside) (at8 sealed))) := bq_congr (fun i hi => by rw [unhide HY i hi, unhide HZ i hi]; rfl)
  have ad := fun W : World => run_string_add_sum (P := Try.prog) (w := W) nonce ⟨#[0, 0, 0, 1]⟩ (by rw [hn]; show 12 + 4 ≤ _; omega)
  have HN1 : Hid (nonce ++ ⟨#[0, 0, 0, 1]⟩ = n1W nonce) := rfl
  rw [unhide HN1] at ad
  generalize n1W nonce = nw at *
  generalize bq 16 (fw (rk (at8 key)) (at8 nw) 10) = z at *
  generalize tlW (tgP key beside.size sealed.size (at8 beside) (at8 sealed)).1 (tgP key beside.size sealed.size (at8 beside) (at8 sealed)).2 = y at *
  clear hyb hn1 hpl
  have MD : SM w6.drew kb gk ok ck gt key := ⟨M7.c0, M7.c1, M7.c2, M7.lt, M7.le, M7.ks.drew, M7.tb.drew⟩
  have B8 := hide (unhide B7).drew
  have KS : Hid (∀ V, Below w6.drew.heap.size w6.drew V → V.cell? ⟨kb, 0, none⟩ = some (.slice (some ⟨gk, ok, none⟩) 176 ck) ∧ V.cell? ⟨kb, 1, none⟩ = some (.slice (some ⟨gt, 0, none⟩) 256 256)) := fun V hV => ⟨(MD.keep hV).c0, (MD.keep hV).c1⟩
  have HW := hide (fun V (hV : Below w6.drew.heap.size w6.drew V) => unhide HW0 V (MD.keep hV))
  have BB : Below w6.drew.heap.size w6.drew w6.drew := Below.refl _ _
  clear HW0 M7 MD B7 HY HZ
  rename_i Q9 K9 hK9
  have FIN : Hid (∀ (VF : World) (u0 u1 u2 u3 u4 u5 u6 u7 u9 u10 u11 u12 u13 u14 u15 u16 u17 u18 u19 u20 u21 u22 u23 u24 u25 u26 u27 u28 u29 u30 u31 u32 u33 u34 u35 u36 u37 u38 u39 u40 u41 u42 u43 u44 u45 u46 u47 u48 : Value), Below w6.drew.heap.size w6.drew VF → Exit.then K9 Q9 .normal { tmps := #[u0, u1, u2, u3, u4, u5, u6, u7, .string (bq 16 (fun i => at8 y i ^^^ at8 z i)), u9, u10, u11, u12, u13, u14, u15, u16, u17, u18, u19, u20, u21, u22, u23, u24, u25, u26, u27, u28, u29, u30, u31, u32, u33, u34, u35, u36, u37, u38, u39, u40, u41, u42, u43, u44, u45, u46, u47, u48], defers := [] } VF) := by
    intro VF u0 u1 u2 u3 u4 u5 u6 u7 u9 u10 u11 u12 u13 u14 u15 u16 u17 u18 u19 u20 u21 u22 u23 u24 u25 u26 u27 u28 u29 u30 u31 u32 u33 u34 u35 u36 u37 u38 u39 u40 u41 u42 u43 u44 u45 u46 u47 u48 hV
    have HV := hide ((unhide B8).trans (hV.mono (unhide B8).size))
    clear hV
    refine hK9 _ _ ?_
    go_wp2
    go_ret
    exact ⟨by rw [← unhide HE]; rfl, unhide HV⟩
  refine wp_region_held_drew (S := fun V => V.cell? ⟨kb, 0, none⟩ = some (.slice (some ⟨gk, ok, none⟩) 176 ck) ∧ V.cell? ⟨kb, 1, none⟩ = some (.slice (some ⟨gt, 0, none⟩) 256 256)) (by kernel_rfl) (unhide KS _ BB) (fun hHeld => ?_)
  generalize w6.drew = V0 at *
  refine wpAnyH_take (i := 0) (v := ?_) rfl (by kernel_rfl) (by kernel_rfl) (by kernel_rfl) (fun _ _ _ h => h) (Or.inl ⟨by rfl, ?_⟩) hHeld ?_
  rotate_left
  · intro V hSw; go_simp; rfl
  simp only [Act.put, List.getElem_toArray, List.getElem_cons_zero, List.setIfInBounds_toArray, List.set_cons_zero, List.set_cons_succ]
  refine wpAnyH_take (i := 2) (v := ?_) rfl (by kernel_rfl) (by kernel_rfl) (by kernel_rfl) (fun _ _ _ h => h) (Or.inl ⟨by rfl, ?_⟩) hHeld ?_
  rotate_left
  · intro V hSw; go_simp; rfl
  simp only [Act.put, List.getElem_toArray, List.getElem_cons_succ, List.getElem_cons_zero, List.setIfInBounds_toArray, List.set_cons_zero, List.set_cons_succ]
  refine wpAnyH_take (i := 3) (v := ?_) rfl (by kernel_rfl) (by kernel_rfl) (by kernel_rfl) (fun _ _ _ h => h) (Or.inl ⟨by rfl, ?_⟩) hHeld ?_
  rotate_left
  · intro V hSw; go_simp; rfl
  simp only [Act.put, List.getElem_toArray, List.getElem_cons_succ, List.getElem_cons_zero, List.setIfInBounds_toArray, List.set_cons_zero, List.set_cons_succ]
  refine wpAnyH_take (i := 4) (v := ?_) rfl (by kernel_rfl) (by kernel_rfl) (by kernel_rfl) (fun _ _ _ h => h) (Or.inl ⟨by rfl, ?_⟩) hHeld ?_
  rotate_left
  · intro V hSw; go_simp; rfl
  simp only [Act.put, List.getElem_toArray, List.getElem_cons_succ, List.getElem_cons_zero, List.setIfInBounds_toArray, List.set_cons_zero, List.set_cons_succ]
  refine wpAnyH_take (i := 5) (v := ?_) rfl (by kernel_rfl) (by kernel_rfl) (by kernel_rfl) (fun _ _ _ h => h) (Or.inl ⟨by rfl, ?_⟩) hHeld ?_
  rotate_left
  · intro V hSw; go_simp; rfl
  simp only [Act.put, List.getElem_toArray, List.getElem_cons_succ, List.getElem_cons_zero, List.setIfInBounds_toArray, List.set_cons_zero, List.set_cons_succ]
  refine wpAnyH_take (i := 6) (v := ?_) rfl (by kernel_rfl) (by kernel_rfl) (by kernel_rfl) (fun _ _ _ h => h) (Or.inl ⟨by rfl, ?_⟩) hHeld ?_
  rotate_left
  · intro V hSw; go_simp; rfl
  simp only [Act.put, List.getElem_toArray, List.getElem_cons_succ, List.getElem_cons_zero, List.setIfInBounds_toArray, List.set_cons_zero, List.set_cons_succ]
  refine wpAnyH_take (i := 7) (v := ?_) rfl (by kernel_rfl) (by kernel_rfl) (by kernel_rfl) (fun _ _ _ h => h) (Or.inl ⟨by rfl, ?_⟩) hHeld ?_
  rotate_left
  · intro V hSw; go_simp; rfl
  simp only [Act.put, List.getElem_toArray, List.getElem_cons_succ, List.getElem_cons_zero, List.setIfInBounds_toArray, List.set_cons_zero, List.set_cons_succ]
  refine wpAnyH_take (i := 8) (v := ?_) rfl (by kernel_rfl) (by kernel_rfl) (by kernel_rfl) (fun _ _ _ h => h) (Or.inl ⟨by rfl, ?_⟩) hHeld ?_
  rotate_left
  · intro V hSw; go_simp; rfl
  simp only [Act.put, List.getElem_toArray, List.getElem_cons_succ, List.getElem_cons_zero, List.setIfInBounds_toArray, List.set_cons_zero, List.set_cons_succ]
  refine wpAnyH_take (i := 9) (v := ?_) rfl (by kernel_rfl) (by kernel_rfl) (by kernel_rfl) (fun _ _ _ h => h) (Or.inl ⟨by rfl, ?_⟩) hHeld ?_
  rotate_left
  · intro V hSw; go_simp; rfl
  simp only [Act.put, List.getElem_toArray, List.getElem_cons_succ, List.getElem_cons_zero, List.setIfInBounds_toArray, List.set_cons_zero, List.set_cons_succ]
  refine wpAnyH_take (i := 10) (v := ?_) rfl (by kernel_rfl) (by kernel_rfl) (by kernel_rfl) (fun _ _ _ h => h) (Or.inl ⟨by rfl, ?_⟩) hHeld ?_
  rotate_left
  · intro V hSw; go_simp; rfl
  simp only [Act.put, List.getElem_toArray, List.getElem_cons_succ, List.getElem_cons_zero, List.setIfInBounds_toArray, List.set_cons_zero, List.set_cons_succ]
  refine wpAnyH_take (i := 11) (v := ?_) rfl (by kernel_rfl) (by kernel_rfl) (by kernel_rfl) (fun _ _ _ h => h) (Or.inl ⟨by rfl, ?_⟩) hHeld ?_
  rotate_left
  · intro V hSw; go_simp; rfl
  simp only [Act.put, List.getElem_toArray, List.getElem_cons_succ, List.getElem_cons_zero, List.setIfInBounds_toArray, List.set_cons_zero, List.set_cons_succ]
  refine wpAnyH_ready (rs := [1, 12]) (by kernel_rfl) (by simp) ?_
  refine AllReadyH.cons rfl (fun K hK => ?_) (AllReadyH.cons rfl (fun K hK => ?_) AllReadyH.nil)
  go_simp
  obtain ⟨cap1, X1, hcv, hbW, hcW, hsz⟩ := conv_ar V0 y
  rw [hcv, hys]
  rw [hys] at hcW
  go_simp
  have BB := BB.trans (hbW.mono BB.size)
  refine hK.out _ _ (unhide KS _ BB) (fun hHeld => ?_)
  clear hK K
  try simp only [Act.put, List.getElem_toArray, List.getElem_cons_succ, List.getElem_cons_zero, List.setIfInBounds_toArray, List.set_cons_zero, List.set_cons_succ]
  have A1 := hcW
  clear hcv hbW hcW hsz
  generalize V0.heap.size = g1 at A1 ⊢
  refine wpAnyH_ready (rs := [12]) (by kernel_rfl) (by simp) ?_
  refine AllReadyH.cons rfl (fun K hK => ?_) AllReadyH.nil
  go_simp
  go_at_call 58
  refine (unhide HW _ BB).mono ?_
  rintro e X2 ⟨rfl, b9⟩
  have BB := BB.trans (b9.mono BB.size)
  refine hK.out _ _ (unhide KS _ BB) (fun hHeld => ?_)
  clear hK K
  try simp only [Act.put, List.getElem_toArray, List.getElem_cons_succ, List.getElem_cons_zero, List.setIfInBounds_toArray, List.set_cons_zero, List.set_cons_succ]
  have A1 := A1.below b9 A1.lt
  clear b9
  refine wpAnyH_ready (rs := [13]) (by kernel_rfl) (by simp) ?_
  refine AllReadyH.cons rfl (fun K hK => ?_) AllReadyH.nil
  go_simp
  obtain ⟨cap13, X3, hcv, hbW, hcW, hsz⟩ := conv_ar X2 z
  rw [hcv, hzs]
  rw [hzs] at hcW
  go_simp
  have BB := BB.trans (hbW.mono BB.size)
  refine hK.out _ _ (unhide KS _ BB) (fun hHeld => ?_)
  clear hK K
  try simp only [Act.put, List.getElem_toArray, List.getElem_cons_succ, List.getElem_cons_zero, List.setIfInBounds_toArray, List.set_cons_zero, List.set_cons_succ]
  have A1 := A1.below hbW A1.lt
  have A13 := hcW
  clear hcv hbW hcW hsz
  generalize X2.heap.size = g13 at A13 ⊢
  refine wpAnyH_ready (rs := [14]) (by kernel_rfl) (by simp) ?_
  refine AllReadyH.cons rfl (fun K hK => ?_) AllReadyH.nil
  go_simp
  go_at_call 74
  refine (specXor _ _ _ _ _ _ (at8 y) (at8 z) (at8_lt y) (at8_lt z) _ A1 A13).mono ?_
  rintro e X4 ⟨g14, hg14, rfl, a14, b9⟩
  have BB := BB.trans (b9.mono BB.size)
  refine hK.out _ _ (unhide KS _ BB) (fun hHeld => ?_)
  clear hK K
  try simp only [Act.put, List.getElem_toArray, List.getElem_cons_succ, List.getElem_cons_zero, List.setIfInBounds_toArray, List.set_cons_zero, List.set_cons_succ]
  have hst := ar_string a14 (fun i _ => xor_lt _ _ (at8_lt y i) (at8_lt z i)) 16
  clear b9 A1 A13 a14
  refine wpAnyH_ready (rs := [15]) (by kernel_rfl) (by simp) ?_
  refine AllReadyH.cons rfl (fun K hK => ?_) AllReadyH.nil
  go_simp
  refine hK.out _ _ (hHeld) (fun hHeld => ?_)
  clear hK K
  try simp only [Act.put, List.getElem_toArray, List.getElem_cons_succ, List.getElem_cons_zero, List.setIfInBounds_toArray, List.set_cons_zero, List.set_cons_succ]
  refine wpAnyH_ready (rs := [16]) (by kernel_rfl) (by simp) ?_
  refine AllReadyH.cons rfl (fun K hK => ?_) AllReadyH.nil
  go_simp
  refine hK.out _ _ (hHeld) (fun hHeld => ?_)
  clear hK K
  try simp only [Act.put, List.getElem_toArray, List.getElem_cons_succ, List.getElem_cons_zero, List.setIfInBounds_toArray, List.set_cons_zero, List.set_cons_succ]
  refine wpAnyH_done (by kernel_rfl) ?_ _
  exact unhide FIN X4 _ _ _ _ _ _ _ _ _ _ _ _ _ _ _ _ _ _ _ _ _ _ _ _ _ _ _ _ _ _ _ _ _ _ _ _ _ _ _ _ _ _ _ _ _ _ _ _ BB
  go_simp
  go_at_call 58
  refine (unhide HW _ BB).mono ?_
  rintro e X1 ⟨rfl, b9⟩
  have BB := BB.trans (b9.mono BB.size)
  refine hK.out _ _ (unhide KS _ BB) (fun hHeld => ?_)
  clear hK K
  try simp only [Act.put, List.getElem_toArray, List.getElem_cons_succ, List.getElem_cons_zero, List.setIfInBounds_toArray, List.set_cons_zero, List.set_cons_succ]
  clear b9
  refine wpAnyH_ready (rs := [1, 13]) (by kernel_rfl) (by simp) ?_
  refine AllReadyH.cons rfl (fun K hK => ?_) (AllReadyH.cons rfl (fun K hK => ?_) AllReadyH.nil)
  go_simp
  obtain ⟨cap1, X2, hcv, hbW, hcW, hsz⟩ := conv_ar X1 y
  rw [hcv, hys]
  rw [hys] at hcW
  go_simp
  have BB := BB.trans (hbW.mono BB.size)
  refine hK.out _ _ (unhide KS _ BB) (fun hHeld => ?_)
  clear hK K
  try simp only [Act.put, List.getElem_toArray, List.getElem_cons_succ, List.getElem_cons_zero, List.setIfInBounds_toArray, List.set_cons_zero, List.set_cons_succ]
  have A1 := hcW
  clear hcv hbW hcW hsz
  generalize X1.heap.size = g1 at A1 ⊢
  refine wpAnyH_ready (rs := [13]) (by kernel_rfl) (by simp) ?_
  refine AllReadyH.cons rfl (fun K hK => ?_) AllReadyH.nil
  go_simp
  obtain ⟨cap13, X3, hcv, hbW, hcW, hsz⟩ := conv_ar X2 z
  rw [hcv, hzs]
  rw [hzs] at hcW
  go_simp
  have BB := BB.trans (hbW.mono BB.size)
  refine hK.out _ _ (unhide KS _ BB) (fun hHeld => ?_)
  clear hK K
  try simp only [Act.put, List.getElem_toArray, List.getElem_cons_succ, List.getElem_cons_zero, List.setIfInBounds_toArray, List.set_cons_zero, List.set_cons_succ]
  have A1 := A1.below hbW A1.lt
  have A13 := hcW
  clear hcv hbW hcW hsz
  generalize X2.heap.size = g13 at A13 ⊢
  refine wpAnyH_ready (rs := [14]) (by kernel_rfl) (by simp) ?_
  refine AllReadyH.cons rfl (fun K hK => ?_) AllReadyH.nil
  go_simp
  go_at_call 74
  refine (specXor _ _ _ _ _ _ (at8 y) (at8 z) (at8_lt y) (at8_lt z) _ A1 A13).mono ?_
  rintro e X4 ⟨g14, hg14, rfl, a14, b9⟩
  have BB := BB.trans (b9.mono BB.size)
  refine hK.out _ _ (unhide KS _ BB) (fun hHeld => ?_)
  clear hK K
  try simp only [Act.put, List.getElem_toArray, List.getElem_cons_succ, List.getElem_cons_zero, List.setIfInBounds_toArray, List.set_cons_zero, List.set_cons_succ]
  have hst := ar_string a14 (fun i _ => xor_lt _ _ (at8_lt y i) (at8_lt z i)) 16
  clear b9 A1 A13 a14
  refine wpAnyH_ready (rs := [15]) (by kernel_rfl) (by simp) ?_
  refine AllReadyH.cons rfl (fun K hK => ?_) AllReadyH.nil
  go_simp
  refine hK.out _ _ (hHeld) (fun hHeld => ?_)
  clear hK K
  try simp only [Act.put, List.getElem_toArray, List.getElem_cons_succ, List.getElem_cons_zero, List.setIfInBounds_toArray, List.set_cons_zero, List.set_cons_succ]
  refine wpAnyH_ready (rs := [16]) (by kernel_rfl) (by simp) ?_
  refine AllReadyH.cons rfl (fun K hK => ?_) AllReadyH.nil
  go_simp
  refine hK.out _ _ (hHeld) (fun hHeld => ?_)
  clear hK K
  try simp only [Act.put, List.getElem_toArray, List.getElem_cons_succ, List.getElem_cons_zero, List.setIfInBounds_toArray, List.set_cons_zero, List.set_cons_succ]
  refine wpAnyH_done (by kernel_rfl) ?_ _
  exact unhide FIN X4 _ _ _ _ _ _ _ _ _ _ _ _ _ _ _ _ _ _ _ _ _ _ _ _ _ _ _ _ _ _ _ _ _ _ _ _ _ _ _ _ _ _ _ _ _ _ _ _ BB
  go_simp
  obtain ⟨cap13, X2, hcv, hbW, hcW, hsz⟩ := conv_ar X1 z
  rw [hcv, hzs]
  rw [hzs] at hcW
  go_simp
  have BB := BB.trans (hbW.mono BB.size)
  refine hK.out _ _ (unhide KS _ BB) (fun hHeld => ?_)
  clear hK K
  try simp only [Act.put, List.getElem_toArray, List.getElem_cons_succ, List.getElem_cons_zero, List.setIfInBounds_toArray, List.set_cons_zero, List.set_cons_succ]
  have A13 := hcW
  clear hcv hbW hcW hsz
  generalize X1.heap.size = g13 at A13 ⊢
  refine wpAnyH_ready (rs := [1]) (by kernel_rfl) (by simp) ?_
  refine AllReadyH.cons rfl (fun K hK => ?_) AllReadyH.nil
  go_simp
  obtain ⟨cap1, X3, hcv, hbW, hcW, hsz⟩ := conv_ar X2 y
  rw [hcv, hys]
  rw [hys] at hcW
  go_simp
  have BB := BB.trans (hbW.mono BB.size)
  refine hK.out _ _ (unhide KS _ BB) (fun hHeld => ?_)
  clear hK K
  try simp only [Act.put, List.getElem_toArray, List.getElem_cons_succ, List.getElem_cons_zero, List.setIfInBounds_toArray, List.set_cons_zero, List.set_cons_succ]
  have A13 := A13.below hbW A13.lt
  have A1 := hcW
  clear hcv hbW hcW hsz
  generalize X2.heap.size = g1 at A1 ⊢
  refine wpAnyH_ready (rs := [14]) (by kernel_rfl) (by simp) ?_
  refine AllReadyH.cons rfl (fun K hK => ?_) AllReadyH.nil
  go_simp
  go_at_call 74
  refine (specXor _ _ _ _ _ _ (at8 y) (at8 z) (at8_lt y) (at8_lt z) _ A1 A13).mono ?_
  rintro e X4 ⟨g14, hg14, rfl, a14, b9⟩
  have BB := BB.trans (b9.mono BB.size)
  refine hK.out _ _ (unhide KS _ BB) (fun hHeld => ?_)
  clear hK K
  try simp only [Act.put, List.getElem_toArray, List.getElem_cons_succ, List.getElem_cons_zero, List.setIfInBounds_toArray, List.set_cons_zero, List.set_cons_succ]
  have hst := ar_string a14 (fun i _ => xor_lt _ _ (at8_lt y i) (at8_lt z i)) 16
  clear b9 A1 A13 a14
  refine wpAnyH_ready (rs := [15]) (by kernel_rfl) (by simp) ?_
  refine AllReadyH.cons rfl (fun K hK => ?_) AllReadyH.nil
  go_simp
  refine hK.out _ _ (hHeld) (fun hHeld => ?_)
  clear hK K
  try simp only [Act.put, List.getElem_toArray, List.getElem_cons_succ, List.getElem_cons_zero, List.setIfInBounds_toArray, List.set_cons_zero, List.set_cons_succ]
  refine wpAnyH_ready (rs := [16]) (by kernel_rfl) (by simp) ?_
  refine AllReadyH.cons rfl (fun K hK => ?_) AllReadyH.nil
  go_simp
  refine hK.out _ _ (hHeld) (fun hHeld => ?_)
  clear hK K
  try simp only [Act.put, List.getElem_toArray, List.getElem_cons_succ, List.getElem_cons_zero, List.setIfInBounds_toArray, List.set_cons_zero, List.set_cons_succ]
  refine wpAnyH_done (by kernel_rfl) ?_ _
  exact unhide FIN X4 _ _ _ _ _ _ _ _ _ _ _ _ _ _ _ _ _ _ _ _ _ _ _ _ _ _ _ _ _ _ _ _ _ _ _ _ _ _ _ _ _ _ _ _ _ _ _ _ BB
end Go.Proofs.Ytkpodgeinanceaa
namespace Go.Proofs.Ytkpodgeinanceaa
open Go.ChangeShapes Go.WideShapes Go.ChangeAt Go.RowKit
set_option linter.unusedVariables false

/-- a text that is counted behind a nonce -/
def cnF (key nonce t : ByteArray) (i : Nat) : Nat := at8 t i ^^^ cvW (rk (at8 key)) (plB (at8 nonce) 2) i
theorem cnF_lt (key nonce t : ByteArray) (i : Nat) : cnF key nonce t i < 256 := xor_lt _ _ (at8_lt t i) (fw_lt (rk (at8 key)) _ (fun n i => rk_lt (at8 key) (at8_lt key) n i) (plB_lt _ (plB_lt _ (at8_lt nonce) _) _) 10 _)
theorem pl_pl (f : Nat → Nat) (a b i : Nat) : plB (plB f a) b i = plB f (a + b) i := by
  rw [plB_def (plB f a) b i, nb4_plB]
  by_cases e : i < 12
  · rw [if_pos e, plB_def f a i, if_pos e, plB_def f (a + b) i, if_pos e]
  · rw [if_neg e, plB_def f (a + b) i, if_neg e, ← Nat.add_assoc]
    generalize nb4 f + a = x
    have h : 15 - i = 0 ∨ 15 - i = 1 ∨ 15 - i = 2 ∨ 15 - i = 3 := by omega
    unfold byV
    rcases h with h | h | h | h <;> rw [h] <;> omega
theorem nn_size (nonce : ByteArray) (hn : nonce.size = 12) (n : Nat) : (nonce ++ bq 4 (fun i => byV n (3 - i))).size = 16 := by rw [ByteArray.size_append, bq_size, hn]
theorem nn_at (nonce : ByteArray) (hn : nonce.size = 12) (n i : Nat) (hi : i < 16) : at8 (nonce ++ bq 4 (fun i => byV n (3 - i))) i = plB (at8 nonce) n i := by
  unfold plB
  rw [at8_append, hn]
  by_cases e : i < 12
  · rw [if_pos e, if_pos e]
  · have h4 : nb4 (at8 nonce) = 0 := by
      unfold nb4
      rw [at8_out nonce 12 (by omega), at8_out nonce 13 (by omega), at8_out nonce 14 (by omega), at8_out nonce 15 (by omega)]
    rw [if_neg e, if_neg e, h4, Nat.zero_add, at8_bq 4 (fun i => byV n (3 - i)) (i - 12) (by omega) (byV_lt _ _), show 3 - (i - 12) = 15 - i by omega]
set_option maxRecDepth 100000 in
set_option maxHeartbeats 1000000 in
theorem specCount (kb gk ok ck gt : Nat) (key nonce t : ByteArray) (hn : nonce.size = 12) (ht : t.size ≤ 1500) (w : World) (hM : SM w kb gk ok ck gt key) :
    Calls Try.prog 60 #[.pointer (some ⟨kb, 0, none⟩), .string nonce, .string t] w fun e w' => e = .returned (.string (bq t.size (cnF key nonce t))) ∧ Below w.heap.size w w' := by
  have hF : ∀ i, cnF key nonce t i = at8 t i ^^^ fw (rk (at8 key)) (plB (plB (at8 nonce) 2) (i / 16)) 10 (i % 16) := fun i => rfl
  have HL := hide (cnF_lt key nonce t)
  have HNA := hide (fun n i (hi : i < 16) => nn_at nonce hn n i hi)
  have HNS := hide (fun n => nn_size nonce hn n)
  generalize hFF : cnF key nonce t = F at *
  have HFF := hide hFF
  have HF := hide hF
  have HM := hide hM
  clear hF hM hFF
  go_enter Try.func60, Try.ntmps60
  go_wp2_with fail
  go_loopw [7, 8] (fun v av wr => ∃ j a : Nat, a = 16 * j ∧ j ≤ (t.size + 15) / 16 ∧ av = .int .i64 (a : Nat) ∧ Ob w.heap.size wr v (min a t.size) F ∧ Below w.heap.size w wr) (fun _ av _ => 20000 - (intOf av).toNat)
  case atStart => exact ⟨0, 0, rfl, by omega, rfl, by rw [Nat.zero_min]; exact Ob.nil _ _ _, Below.refl _ _⟩
  case round =>
    obtain ⟨j, a, ha, hj, rfl, hO, hB⟩ := hrel
    by_cases hlt : a < t.size
    · rw [Nat.min_eq_left (by omega)] at hO
      obtain ⟨n, hnj⟩ : ∃ n : Nat, n = 2 + j := ⟨_, rfl⟩
      have hn32 : n < 4294967296 := by omega
      have HC1 := unhide HNA n
      have HXS := unhide HNS n
      have HX : Hid (∀ i, i < 16 → at8 (bq 16 (fw (rk (at8 key)) (at8 (nonce ++ bq 4 fun i => byV n (3 - i))) 10)) i < 256 ∧ F (a + i) = at8 t (a + i) ^^^ at8 (bq 16 (fw (rk (at8 key)) (at8 (nonce ++ bq 4 fun i => byV n (3 - i))) 10)) i) := fun i hi => by
        refine ⟨at8_lt _ _, ?_⟩
        rw [unhide HF, at8_bq 16 _ i hi (fw_lt (rk (at8 key)) _ (fun n i => rk_lt (at8 key) (at8_lt key) n i) (at8_lt _) 10 _), fw_congr _ _ _ HC1 10 i hi, show (a + i) / 16 = j by omega, show (a + i) % 16 = i by omega, fw_congr _ _ (plB (at8 nonce) n) (fun q hq => by rw [pl_pl, ← hnj]) 10 i hi]
      have HXZ := hide (bq_size 16 (fw (rk (at8 key)) (at8 (nonce ++ bq 4 fun i => byV n (3 - i))) 10))
      have HWI := hide (fun W (h : SM W kb gk ok ck gt key) => specWith gk ok ck gt 256 (at8 key) _ (at8_lt key) HXS h.le W h.ks h.tb)
      have HF4 := hide (fun W => specFix4 n hn32 W)
      have M3 := (unhide HM).keep hB
      have MD : SM wr.drew kb gk ok ck gt key := ⟨M3.c0, M3.c1, M3.c2, M3.lt, M3.le, M3.ks.drew, M3.tb.drew⟩
      have S0 : Hid (wr.drew.cell? ⟨kb, 0, none⟩ = some (.slice (some ⟨gk, ok, none⟩) 176 ck) ∧ wr.drew.cell? ⟨kb, 1, none⟩ = some (.slice (some ⟨gt, 0, none⟩) 256 256)) := ⟨MD.c0, MD.c1⟩
      have KQ : Hid (∀ V, Below wr.drew.heap.size wr.drew V → V.cell? ⟨kb, 0, none⟩ = some (.slice (some ⟨gk, ok, none⟩) 176 ck) ∧ V.cell? ⟨kb, 1, none⟩ = some (.slice (some ⟨gt, 0, none⟩) 256 256)) := fun V hV => ⟨(MD.keep hV).c0, (MD.keep hV).c1⟩
      have HMD := hide MD
      have O3 := hide (hO.kept (Below.refl _ _).drew)
      have B3 := hide hB.drew
      have wn : IntKind.i64.wrap (2 + (j : Int)) = (n : Int) := by rw [show 2 + (j : Int) = (n : Int) by omega]; exact wraps_i64 _ (by omega) (by omega)
      have wj : IntKind.i64.wrap (j : Int) = (j : Int) := wraps_i64 _ (by omega) (by omega)
      have wn2 : IntKind.i64.wrap (n : Int) = (n : Int) := wraps_i64 _ (by omega) (by omega)
      have hjI : 2 + (j : Int) = (n : Int) := by omega
      have hqI : (a : Int) / 16 = (j : Int) := by omega
      have hqT : Int.tdiv (a : Int) 16 = (j : Int) := by rw [Int.tdiv_eq_ediv_of_nonneg (by omega)]; exact hqI
      have HA := hide (And.intro ha hj)
      have ad1 := fun W : World => run_string_add_sum (P := Try.prog) (w := W) nonce (bq 4 fun i => byV n (3 - i)) (by rw [bq_size, hn]; omega)
      have HNJ := hide hnj
      clear HC1 HXS hO hB ha hj M3 MD hnj
      generalize bq 16 (fw (rk (at8 key)) (at8 (nonce ++ bq 4 fun i => byV n (3 - i))) 10) = bs at *
      generalize (nonce ++ bq 4 fun i => byV n (3 - i)) = X at HWI ad1
      generalize (bq 4 fun i => byV n (3 - i)) = b4 at HF4 ad1
      go_wp2_with fail
      go_region_held3 (fun V => V.cell? ⟨kb, 0, none⟩ = some (.slice (some ⟨gk, ok, none⟩) 176 ck) ∧ V.cell? ⟨kb, 1, none⟩ = some (.slice (some ⟨gt, 0, none⟩) 256 256)) (first | exact unhide S0 | exact unhide KQ _ b5 | exact unhide KQ _ (b5.trans (b6.mono b5.size))) (first
        | (go_at_call 55; with_reducible refine (unhide HF4 _).mono ?_; rintro e w5 ⟨rfl, b5⟩)
        | (go_at_call 58; with_reducible refine (unhide HWI _ ((unhide HMD).keep b5)).mono ?_; rintro e w6 ⟨rfl, b6⟩))
      have O6 := hide ((unhide O3).kept (b5.trans (b6.mono b5.size)))
      have B6 := hide ((unhide B3).trans (b5.trans (b6.mono b5.size) |>.mono (unhide B3).size))
      have hbz := unhide HXZ
      clear HWI HF4 O3 B3 b5 b6 ad1 S0 KQ HMD
      go_wp2_with fail
      go_loopw [7, 10] (fun v iv wx => ∃ i : Nat, i ≤ 16 ∧ a + i ≤ t.size ∧ iv = .int .i64 (i : Nat) ∧ Ob w.heap.size wx v (a + i) F ∧ Below w.heap.size w wx) (fun _ iv _ => 20 - (intOf iv).toNat)
      case atStart => exact ⟨0, by omega, by omega, rfl, unhide O6, unhide B6⟩
      case round =>
        obtain ⟨i, hi, hat, rfl, hO, hB⟩ := hrel
        clear O6 B6
        by_cases hc : i < 16 ∧ a + i < t.size
        · obtain ⟨hi16, hit⟩ := hc
          obtain ⟨p, hp⟩ : ∃ p : Nat, p = a + i := ⟨_, rfl⟩
          obtain ⟨hx1, hx2⟩ := unhide HX i hi16
          rw [← hp] at hO hx2 hit
          have e1 := xorI (at8 t p) (at8 bs i) (at8_lt t p) hx1
          rw [← hx2, at8_in t p hit, at8_in bs i (by omega)] at e1
          have hs5 : w.heap.size ≤ wr.drew.heap.size := by rw [World.size_drew]; exact hB.size
          obtain ⟨g8, cap8, w8, hrun, hO8, hB8⟩ := (hO.kept (Below.refl _ _).drew).push _ e1 (by omega) hs5
          rw [World.size_drew] at hrun
          have RUN := hide hrun
          have O8 := hide hO8
          have B8 := hide ((hB.drew).trans hB8)
          have HP := hide hp
          have w1 : IntKind.i64.wrap ((a : Int) + (i : Int)) = (p : Int) := by rw [show (a : Int) + (i : Int) = (p : Int) by omega]; exact wraps_i64 _ (by omega) (by omega)
          have n1 : (0 : Int) ≤ (p : Int) ∧ (p : Int) < (t.size : Int) := by omega
          have n2 : (0 : Int) ≤ (i : Int) ∧ (i : Int) < (bs.size : Int) := by omega
          have n3 : (a : Int) + (i : Int) < (t.size : Int) := by omega
          clear hrun hO8 hB8 hO hB hp hx1 hx2 e1
          go_wp2_with fail
          go_region_held3 (fun _ => True) (trivial) (first | (refine step_append_run rfl (.tmp 44) (.tmp 54) 32 rfl _ _ _ w8 rfl rfl (unhide RUN) ?_))
          all_goals
            clear RUN
            go_wp2
            exact ⟨⟨i + 1, by omega, by have := unhide HP; omega, by go_num, by rw [show a + (i + 1) = p + 1 by have := unhide HP; omega]; exact unhide O8, unhide B8⟩, by simp [intOf]; omega⟩
        · have O9 : Hid (Ob w.heap.size wr u7 (min (a + 16) t.size) F) := (show min (a + 16) t.size = a + i by omega) ▸ hO
          have B9 := hide hB
          clear hO hB
          by_cases h16 : i < 16
          · have n3 : ¬ (a : Int) + (i : Int) < (t.size : Int) := by omega
            go_wp2
            exact ⟨⟨j + 1, a + 16, by have := unhide HA; omega, by have := unhide HA; omega, by go_num, unhide O9, unhide B9⟩, by simp [intOf]; omega⟩
          · obtain rfl : i = 16 := by omega
            go_wp2
            exact ⟨⟨j + 1, a + 16, by have := unhide HA; omega, by have := unhide HA; omega, by go_num, unhide O9, unhide B9⟩, by simp [intOf]; omega⟩
    · have hj2 : min a t.size = t.size := by omega
      rw [hj2] at hO
      have hst := hO.string (fun i _ => unhide HL i)
      have B9 := hide hB
      clear hO hB
      go_wp2
      go_ret
      exact ⟨rfl, unhide B9⟩
end Go.Proofs.Ytkpodgeinanceaa
namespace Go.Proofs.Ytkpodgeinanceaa
open Go.ChangeShapes Go.WideShapes Go.ChangeAt Go.RowKit
set_option linter.unusedVariables false

/-- a text counted, a tag, a text sealed -/
def cnW (key nonce t : ByteArray) : ByteArray := bq t.size (cnF key nonce t)
theorem cnW_size (key nonce t : ByteArray) : (cnW key nonce t).size = t.size := bq_size _ _
def tgW (key nonce beside sealed : ByteArray) : ByteArray := bq 16 (tgB key nonce beside.size sealed.size (at8 beside) (at8 sealed))
theorem tgW_size (key nonce beside sealed : ByteArray) : (tgW key nonce beside sealed).size = 16 := bq_size _ _
def seW (key nonce beside t : ByteArray) : ByteArray := cnW key nonce t ++ tgW key nonce beside (cnW key nonce t)
theorem seW_size (key nonce beside t : ByteArray) : (seW key nonce beside t).size = t.size + 16 := by unfold seW; rw [ByteArray.size_append, cnW_size, tgW_size]
set_option maxRecDepth 100000 in
set_option maxHeartbeats 1000000 in
theorem specSeal (kb gk ok ck gt : Nat) (key nonce beside t : ByteArray) (hn : nonce.size = 12) (hb : beside.size ≤ 1500) (ht : t.size ≤ 1500) (w : World) (hM : SM w kb gk ok ck gt key) :
    Calls Try.prog 54 #[.pointer (some ⟨kb, 0, none⟩), .string nonce, .string beside, .string t] w fun e w' => e = .returned (.string (seW key nonce beside t)) ∧ Below w.heap.size w w' := by
  have hcs := cnW_size key nonce t
  have H1 : Hid (∀ W, SM W kb gk ok ck gt key → Calls Try.prog 60 #[.pointer (some ⟨kb, 0, none⟩), .string nonce, .string t] W fun e w' => e = .returned (.string (cnW key nonce t)) ∧ Below W.heap.size W w') := fun W h => specCount kb gk ok ck gt key nonce t hn ht W h
  have H2 : Hid (∀ W, SM W kb gk ok ck gt key → Calls Try.prog 59 #[.pointer (some ⟨kb, 0, none⟩), .string nonce, .string beside, .string (cnW key nonce t)] W fun e w' => e = .returned (.string (tgW key nonce beside (cnW key nonce t))) ∧ Below W.heap.size W w') := fun W h => specTag kb gk ok ck gt key nonce beside (cnW key nonce t) hn hb (by omega) W h
  have ad := fun W : World => run_string_add_sum (P := Try.prog) (w := W) (cnW key nonce t) (tgW key nonce beside (cnW key nonce t)) (by rw [tgW_size, cnW_size]; omega)
  have HE : Hid (cnW key nonce t ++ tgW key nonce beside (cnW key nonce t) = seW key nonce beside t) := rfl
  rw [unhide HE] at ad
  have HM := hide hM
  clear hM hcs
  generalize seW key nonce beside t = r at *
  generalize tgW key nonce beside (cnW key nonce t) = g at *
  generalize cnW key nonce t = c at *
  go_enter Try.func54, Try.ntmps54
  go_wp2_with (first
    | (go_at_call 60; refine (unhide H1 _ (unhide HM)).mono ?_; rintro e w1 ⟨rfl, b1⟩; have B1 := hide b1; clear b1)
    | (go_at_call 59; refine (unhide H2 _ ((unhide HM).keep (unhide B1))).mono ?_; rintro e w2 ⟨rfl, b2⟩; have B2 := hide b2; clear b2))
  go_ret
  exact ⟨rfl, (unhide B1).trans ((unhide B2).mono (unhide B1).size)⟩
end Go.Proofs.Ytkpodgeinanceaa
