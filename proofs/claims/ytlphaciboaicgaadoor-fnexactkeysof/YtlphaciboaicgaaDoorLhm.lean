/-
  Contracts: the model's keyed hash.
-/
import Derived.Test.YtlphaciboaicgaaDoorLnw
import Derived.Test.YtlphaciboaicgaaDoorSkm
namespace Go.Proofs.YtlphaciboaicgaaDoor
open Go.ChangeShapes Go.WideShapes Go.ChangeAt Go.RowKit
set_option linter.unusedVariables false

set_option maxRecDepth 100000 in
set_option maxHeartbeats 1000000 in
theorem specHmac_short (key t : ByteArray) (hk : key.size ≤ 64) (ht : t.size ≤ 5000) (w : World) (hb gw cw gf cf : Nat) (h : L4 w hb gw cw gf cf) :
    Calls Tryd.prog 21 #[.pointer (some ⟨hb, 0, none⟩), .string key, .string t] w fun e w' => e = .returned (.string (shW (kyW key 92 ++ shW (kyW key 54 ++ t)))) ∧ Below w.heap.size w w' := by
  have H := hide h
  clear h
  have HS := hide (fun (u : ByteArray) (hu : u.size ≤ 10000) W (h : L4 W hb gw cw gf cf) => specSum u hu W hb gw cw gf cf h)
  have mk0 : ∀ W, (Instr.makeSlice 46 (.int .i64 64) (.int .i64 64)).run Tryd.prog W = .ok (.slice (some ⟨W.heap.size, 0, none⟩) 64 64) (W.alloc (.cells (us 64 fun _ => 0).toArray 5)) := fun W => mk_bytes 64 (by omega) W
  go_enter Tryd.func21, Tryd.ntmps21
  go_wp2_with fail
  have h0 := Ar.new w 64 (fun _ => 0) 5
  have hB := (Below.refl w.heap.size w).alloc (Nat.le_refl _) (.cells (us 64 (fun _ => 0)).toArray 5)
  have hz : (w.alloc (.cells (us 64 (fun _ => 0)).toArray 5)).heap.size = w.heap.size + 1 := by simp
  generalize w.alloc (.cells (us 64 (fun _ => 0)).toArray 5) = W at h0 hB hz ⊢
  rw [Go.run_copy_string W 46 9 3 5 w.heap.size 0 64 64 key Tryd.underlying46 size_u8 hk (fun j hj => by rw [h0.c j (by omega)]; rfl) (fun j hj => h0.fz j (by omega)), us_at8]
  have h1 : Ar (W.setCells w.heap.size (0 + 0) (us key.size (at8 key))) w.heap.size 0 64 (at8 key) := h0.putPart (p := 0) (m := key.size) (g := at8 key) (G := at8 key) (by omega) (fun i hi => by rw [Nat.zero_add]) (fun i hi h => by
    rcases h with h | h
    · omega
    · exact at8_out key i (by omega))
  have hC := Go.Proofs.YtlphaciboaicgaaDoor.below_setCells (b := w.heap.size) (Nat.le_refl _) (us key.size (at8 key)) 0 _ hB
  have hz1 := size_setCells w.heap.size (us key.size (at8 key)) 0 W
  rw [hz] at hz1
  generalize W.setCells w.heap.size 0 (us key.size (at8 key)) = W1 at h1 hC hz1 ⊢
  clear h0 hB hz
  have i1 := Ar.new W1 64 (fun _ => 0) 5
  have i2 := (i1.alloc (.cells (us 64 (fun _ => 0)).toArray 5))
  have o2 := Ar.new (W1.alloc (.cells (us 64 (fun _ => 0)).toArray 5)) 64 (fun _ => 0) 5
  have k2 := (h1.alloc (.cells (us 64 (fun _ => 0)).toArray 5)).alloc (.cells (us 64 (fun _ => 0)).toArray 5)
  have b2 := (hC.alloc (by omega) (.cells (us 64 (fun _ => 0)).toArray 5)).alloc (by rw [World.size_alloc]; omega) (.cells (us 64 (fun _ => 0)).toArray 5)
  rw [World.size_alloc] at o2
  rw [hz1] at i2 o2
  have K2 := hide k2
  have I2 := hide i2
  have O2 := hide o2
  have B2 := hide b2
  clear h1 hC i1 i2 o2 k2 b2
  go_wp2_with fail
  generalize hbo : w.heap.size + 1 + 1 = bo at *
  generalize hbi : w.heap.size + 1 = bi at *
  have hlt1 : w.heap.size < bi := by omega
  have hlt2 : bi < bo := by omega
  have HSI : Hid (∀ V, Ar V bi 0 64 (fun i => at8 key i ^^^ 54) → (convert 46 9 (.slice (some ⟨bi, 0, none⟩) 64 64)).run Tryd.prog V = .ok (.string (kyW key 54)) V) := fun V h => ar_string h (fun i _ => xor_lt _ _ (at8_lt key i) (by omega)) 64
  have HSO : Hid (∀ V, Ar V bo 0 64 (fun i => at8 key i ^^^ 92) → (convert 46 9 (.slice (some ⟨bo, 0, none⟩) 64 64)).run Tryd.prog V = .ok (.string (kyW key 92)) V) := fun V h => ar_string h (fun i _ => xor_lt _ _ (at8_lt key i) (by omega)) 64
  clear hbi hbo hz1 mk0
  go_loopw [26] (fun iv wr => ∃ k : Nat, k ≤ 64 ∧ iv = .int .i64 k ∧ Ar wr w.heap.size 0 64 (at8 key) ∧ Ar wr bi 0 64 (stp (fun i => at8 key i ^^^ 54) (fun _ => 0) k) ∧ Ar wr bo 0 64 (stp (fun i => at8 key i ^^^ 92) (fun _ => 0) k) ∧ Below w.heap.size w wr) (fun iv _ => 64 - (intOf iv).toNat)
  case atStart => exact ⟨0, by omega, rfl, unhide K2, (unhide I2).stepNone, (unhide O2).stepNone, unhide B2⟩
  case round =>
    obtain ⟨k, hk64, rfl, hA, hI, hO, hB⟩ := hrel
    clear K2 I2 O2 B2
    by_cases hlt : k < 64
    · have hc := hA.c0 k hlt
      have hv := at8_lt key k
      have x1 : bits .xor .u8 ((at8 key k : Nat) : Int) 54 = ((at8 key k ^^^ 54 : Nat) : Int) := xorI (at8 key k) 54 hv (by omega)
      have x2 : bits .xor .u8 ((at8 key k : Nat) : Int) 92 = ((at8 key k ^^^ 92 : Nat) : Int) := xorI (at8 key k) 92 hv (by omega)
      have ci := hI.c0 k hlt
      have fi := hI.f0 k hlt
      have R1 := hI.step hlt (x := at8 key k ^^^ 54) rfl
      have O1 := hO.other (a := ⟨bi, k, none⟩) (v := .int .u8 ((at8 key k ^^^ 54 : Nat) : Int)) (by show bi ≠ bo; omega)
      have co := O1.c0 k hlt
      have fo := O1.f0 k hlt
      have O2 := hide (O1.step hlt (x := at8 key k ^^^ 92) rfl)
      have I2 := hide (R1.other (a := ⟨bo, k, none⟩) (v := .int .u8 ((at8 key k ^^^ 92 : Nat) : Int)) (by show bo ≠ bi; omega))
      have A2 := hide ((hA.other (a := ⟨bi, k, none⟩) (v := .int .u8 ((at8 key k ^^^ 54 : Nat) : Int)) (by show bi ≠ w.heap.size; omega)).other (a := ⟨bo, k, none⟩) (v := .int .u8 ((at8 key k ^^^ 92 : Nat) : Int)) (by show bo ≠ w.heap.size; omega))
      have B2 := hide ((hB.setCell (p := ⟨bi, k, none⟩) (show w.heap.size ≤ bi by omega) (.int .u8 ((at8 key k ^^^ 54 : Nat) : Int))).setCell (p := ⟨bo, k, none⟩) (show w.heap.size ≤ bo by omega) (.int .u8 ((at8 key k ^^^ 92 : Nat) : Int)))
      clear hA hI hO hB R1 O1
      generalize hy1 : at8 key k ^^^ 54 = y1 at *
      generalize hy2 : at8 key k ^^^ 92 = y2 at *
      clear hy1 hy2
      generalize at8 key k = v at *
      go_wp2
      exact ⟨⟨k + 1, by omega, by go_num, unhide A2, unhide I2, unhide O2, unhide B2⟩, by simp [intOf]; omega⟩
    · obtain rfl : k = 64 := by omega
      have hi0 := hI.stepEnd
      have ho0 := hO.stepEnd
      have L0 := hide ((unhide H).kept hB)
      have B0 := hide hB
      have hsz := hB.size
      clear hA hI hO hB
      have hs1 : (kyW key 54 ++ t).size ≤ 10000 := by rw [ByteArray.size_append, kyW_size]; omega
      have hs2 : (kyW key 92 ++ shW (kyW key 54 ++ t)).size ≤ 10000 := by rw [ByteArray.size_append, kyW_size, shW_size]; omega
      have ad1 := fun W : World => run_string_add_sum (P := Tryd.prog) (w := W) (kyW key 54) t (by rw [kyW_size]; omega)
      have ad2 := fun W : World => run_string_add_sum (P := Tryd.prog) (w := W) (kyW key 92) (shW (kyW key 54 ++ t)) (by rw [kyW_size, shW_size]; omega)
      have HC1 : Hid (∀ W, L4 W hb gw cw gf cf → Calls Tryd.prog 24 #[.pointer (some ⟨hb, 0, none⟩), .string (kyW key 54 ++ t)] W fun e w' => e = .returned (.string (shW (kyW key 54 ++ t))) ∧ Below W.heap.size W w') := fun W h => unhide HS _ hs1 W h
      have HC2 : Hid (∀ W, L4 W hb gw cw gf cf → Calls Tryd.prog 24 #[.pointer (some ⟨hb, 0, none⟩), .string (kyW key 92 ++ shW (kyW key 54 ++ t))] W fun e w' => e = .returned (.string (shW (kyW key 92 ++ shW (kyW key 54 ++ t)))) ∧ Below W.heap.size W w') := fun W h => unhide HS _ hs2 W h
      clear hs1 hs2 HS H
      generalize hx4 : shW (kyW key 92 ++ shW (kyW key 54 ++ t)) = s2 at HC2
      have HX4 := hide hx4
      clear hx4
      generalize kyW key 92 ++ shW (kyW key 54 ++ t) = x2 at HC2 ad2
      generalize shW (kyW key 54 ++ t) = s1 at HC1 ad2
      generalize kyW key 54 ++ t = x1 at HC1 ad1
      generalize kyW key 54 = ki at HSI ad1
      generalize kyW key 92 = ko at HSO ad2
      go_wp2_with fail
      refine wp_region_held_drew (S := fun V => Ar V bo 0 64 (fun i => at8 key i ^^^ 92) ∧ Ar V bi 0 64 (fun i => at8 key i ^^^ 54)) (by kernel_rfl) ⟨ho0.drew, hi0.drew⟩ (fun hHeld => ?_)
      refine wpAnyH_take (i := 0) (v := ?_) rfl (by kernel_rfl) (by kernel_rfl) (by kernel_rfl) (fun _ _ _ h => h) (Or.inl ⟨by rfl, ?_⟩) hHeld ?_
      rotate_left
      · intro V hSw; go_simp; rfl
      simp only [Act.put, List.getElem_toArray, List.getElem_cons_zero, List.setIfInBounds_toArray, List.set_cons_zero, List.set_cons_succ]
      refine wpAnyH_take (i := 1) (v := ?_) rfl (by kernel_rfl) (by kernel_rfl) (by kernel_rfl) (fun _ _ _ h => h) (Or.inl ⟨by rfl, ?_⟩) hHeld ?_
      rotate_left
      · intro V hSw; go_simp; rfl
      simp only [Act.put, List.getElem_toArray, List.getElem_cons_succ, List.getElem_cons_zero, List.setIfInBounds_toArray, List.set_cons_zero, List.set_cons_succ]
      refine wpAnyH_take (i := 2) (v := ?_) rfl (by kernel_rfl) (by kernel_rfl) (by kernel_rfl) (fun _ _ _ h => h) (Or.inl ⟨by rfl, ?_⟩) hHeld ?_
      rotate_left
      · intro V hSw; have hq := unhide HSO V hSw.1; go_simp; rfl
      simp only [Act.put, List.getElem_toArray, List.getElem_cons_succ, List.getElem_cons_zero, List.setIfInBounds_toArray, List.set_cons_zero, List.set_cons_succ]
      refine wpAnyH_take (i := 3) (v := ?_) rfl (by kernel_rfl) (by kernel_rfl) (by kernel_rfl) (fun _ _ _ h => h) (Or.inl ⟨by rfl, ?_⟩) hHeld ?_
      rotate_left
      · intro V hSw; go_simp; rfl
      simp only [Act.put, List.getElem_toArray, List.getElem_cons_succ, List.getElem_cons_zero, List.setIfInBounds_toArray, List.set_cons_zero, List.set_cons_succ]
      refine wpAnyH_take (i := 4) (v := ?_) rfl (by kernel_rfl) (by kernel_rfl) (by kernel_rfl) (fun _ _ _ h => h) (Or.inl ⟨by rfl, ?_⟩) hHeld ?_
      rotate_left
      · intro V hSw; go_simp; rfl
      simp only [Act.put, List.getElem_toArray, List.getElem_cons_succ, List.getElem_cons_zero, List.setIfInBounds_toArray, List.set_cons_zero, List.set_cons_succ]
      refine wpAnyH_take (i := 5) (v := ?_) rfl (by kernel_rfl) (by kernel_rfl) (by kernel_rfl) (fun _ _ _ h => h) (Or.inl ⟨by rfl, ?_⟩) hHeld ?_
      rotate_left
      · intro V hSw; have hq := unhide HSI V hSw.2; go_simp; rfl
      simp only [Act.put, List.getElem_toArray, List.getElem_cons_succ, List.getElem_cons_zero, List.setIfInBounds_toArray, List.set_cons_zero, List.set_cons_succ]
      refine wpAnyH_take (i := 6) (v := ?_) rfl (by kernel_rfl) (by kernel_rfl) (by kernel_rfl) (fun _ _ _ h => h) (Or.inl ⟨by rfl, ?_⟩) hHeld ?_
      rotate_left
      · intro V hSw; go_simp; rfl
      simp only [Act.put, List.getElem_toArray, List.getElem_cons_succ, List.getElem_cons_zero, List.setIfInBounds_toArray, List.set_cons_zero, List.set_cons_succ]
      refine wpAnyH_take (i := 7) (v := ?_) rfl (by kernel_rfl) (by kernel_rfl) (by kernel_rfl) (fun _ _ _ h => h) (Or.inl ⟨by rfl, ?_⟩) hHeld ?_
      rotate_left
      · intro V hSw; go_simp; rfl
      simp only [Act.put, List.getElem_toArray, List.getElem_cons_succ, List.getElem_cons_zero, List.setIfInBounds_toArray, List.set_cons_zero, List.set_cons_succ]
      refine wpAnyH_ready (rs := [8]) (by kernel_rfl) (by simp) ?_
      refine AllReadyH.cons rfl (fun K hK => ?_) AllReadyH.nil
      go_simp
      go_at_call 24
      refine (unhide HC1 _ ((unhide L0).kept ((Below.refl _ _).drew))).mono ?_
      rintro e w1 ⟨rfl, b1⟩
      have L1 := hide ((unhide L0).kept (((Below.refl _ _).drew).trans b1))
      have B1 := hide ((unhide B0).drew.trans (b1.mono hsz))
      refine hK.out _ _ (⟨ho0.drew.below b1 ho0.lt, hi0.drew.below b1 hi0.lt⟩) (fun hHeld => ?_)
      clear hK K
      try simp only [Act.put, List.getElem_toArray, List.getElem_cons_succ, List.getElem_cons_zero, List.setIfInBounds_toArray, List.set_cons_zero, List.set_cons_succ]
      refine wpAnyH_take (i := 9) (v := ?_) rfl (by kernel_rfl) (by kernel_rfl) (by kernel_rfl) (fun _ _ _ h => h) (Or.inl ⟨by rfl, ?_⟩) hHeld ?_
      rotate_left
      · intro V hSw; go_simp; rfl
      simp only [Act.put, List.getElem_toArray, List.getElem_cons_succ, List.getElem_cons_zero, List.setIfInBounds_toArray, List.set_cons_zero, List.set_cons_succ]
      refine wpAnyH_ready (rs := [10]) (by kernel_rfl) (by simp) ?_
      refine AllReadyH.cons rfl (fun K hK => ?_) AllReadyH.nil
      go_simp
      go_at_call 24
      refine (unhide HC2 _ (unhide L1)).mono ?_
      rintro e w2 ⟨rfl, b2⟩
      have B2 := hide ((unhide B1).trans (b2.mono (unhide B1).size))
      refine hK.out _ _ (⟨hHeld.1.below b2 hHeld.1.lt, hHeld.2.below b2 hHeld.2.lt⟩) (fun hHeld => ?_)
      clear hK K
      try simp only [Act.put, List.getElem_toArray, List.getElem_cons_succ, List.getElem_cons_zero, List.setIfInBounds_toArray, List.set_cons_zero, List.set_cons_succ]
      refine wpAnyH_take (i := 11) (v := ?_) rfl (by kernel_rfl) (by kernel_rfl) (by kernel_rfl) (fun _ _ _ h => h) (Or.inl ⟨by rfl, ?_⟩) hHeld ?_
      rotate_left
      · intro V hSw; go_simp; rfl
      simp only [Act.put, List.getElem_toArray, List.getElem_cons_succ, List.getElem_cons_zero, List.setIfInBounds_toArray, List.set_cons_zero, List.set_cons_succ]
      refine wpAnyH_done (by kernel_rfl) ?_ _
      clear hHeld b1 b2
      go_wp2
      go_ret
      exact ⟨by rw [unhide HX4]; rfl, unhide B2⟩
set_option maxRecDepth 100000 in
set_option maxHeartbeats 1000000 in
theorem specHmac_long (key t : ByteArray) (hk : ¬ key.size ≤ 64 ∧ key.size ≤ 5000) (ht : t.size ≤ 5000) (w : World) (hb gw cw gf cf : Nat) (h : L4 w hb gw cw gf cf) :
    Calls Tryd.prog 21 #[.pointer (some ⟨hb, 0, none⟩), .string key, .string t] w fun e w' => e = .returned (.string (shW (kyW (shW key) 92 ++ shW (kyW (shW key) 54 ++ t)))) ∧ Below w.heap.size w w' := by
  obtain ⟨hk0, hk1⟩ := hk
  have H := hide h
  clear h
  have HS := hide (fun (u : ByteArray) (hu : u.size ≤ 10000) W (h : L4 W hb gw cw gf cf) => specSum u hu W hb gw cw gf cf h)
  have mk0 : ∀ W, (Instr.makeSlice 46 (.int .i64 64) (.int .i64 64)).run Tryd.prog W = .ok (.slice (some ⟨W.heap.size, 0, none⟩) 64 64) (W.alloc (.cells (us 64 fun _ => 0).toArray 5)) := fun W => mk_bytes 64 (by omega) W
  go_enter Tryd.func21, Tryd.ntmps21
  go_wp2_with fail
  refine (unhide HS key (by omega) _ (unhide H)).mono ?_
  rintro e wz ⟨he, bz⟩
  have he2 : e = .returned (.string (shW key)) := he
  clear he
  subst he2
  have BZ := hide bz
  replace H := hide ((unhide H).kept bz)
  clear bz
  have hk : (shW key).size ≤ 64 := by rw [shW_size]; omega
  generalize hk2 : shW key = k2 at hk ⊢
  have HK2 := hide hk2
  clear hk2
  go_wp2_with fail
  have h0 := Ar.new wz 64 (fun _ => 0) 5
  have hB := (Below.refl wz.heap.size wz).alloc (Nat.le_refl _) (.cells (us 64 (fun _ => 0)).toArray 5)
  have hz : (wz.alloc (.cells (us 64 (fun _ => 0)).toArray 5)).heap.size = wz.heap.size + 1 := by simp
  generalize wz.alloc (.cells (us 64 (fun _ => 0)).toArray 5) = W at h0 hB hz ⊢
  rw [Go.run_copy_string W 46 9 3 5 wz.heap.size 0 64 64 k2 Tryd.underlying46 size_u8 hk (fun j hj => by rw [h0.c j (by omega)]; rfl) (fun j hj => h0.fz j (by omega)), us_at8]
  have h1 : Ar (W.setCells wz.heap.size (0 + 0) (us k2.size (at8 k2))) wz.heap.size 0 64 (at8 k2) := h0.putPart (p := 0) (m := k2.size) (g := at8 k2) (G := at8 k2) (by omega) (fun i hi => by rw [Nat.zero_add]) (fun i hi h => by
    rcases h with h | h
    · omega
    · exact at8_out k2 i (by omega))
  have hC := Go.Proofs.YtlphaciboaicgaaDoor.below_setCells (b := wz.heap.size) (Nat.le_refl _) (us k2.size (at8 k2)) 0 _ hB
  have hz1 := size_setCells wz.heap.size (us k2.size (at8 k2)) 0 W
  rw [hz] at hz1
  generalize W.setCells wz.heap.size 0 (us k2.size (at8 k2)) = W1 at h1 hC hz1 ⊢
  clear h0 hB hz
  have i1 := Ar.new W1 64 (fun _ => 0) 5
  have i2 := (i1.alloc (.cells (us 64 (fun _ => 0)).toArray 5))
  have o2 := Ar.new (W1.alloc (.cells (us 64 (fun _ => 0)).toArray 5)) 64 (fun _ => 0) 5
  have k2 := (h1.alloc (.cells (us 64 (fun _ => 0)).toArray 5)).alloc (.cells (us 64 (fun _ => 0)).toArray 5)
  have b2 := (hC.alloc (by omega) (.cells (us 64 (fun _ => 0)).toArray 5)).alloc (by rw [World.size_alloc]; omega) (.cells (us 64 (fun _ => 0)).toArray 5)
  rw [World.size_alloc] at o2
  rw [hz1] at i2 o2
  have K2 := hide k2
  have I2 := hide i2
  have O2 := hide o2
  have B2 := hide b2
  clear h1 hC i1 i2 o2 k2 b2
  go_wp2_with fail
  generalize hbo : wz.heap.size + 1 + 1 = bo at *
  generalize hbi : wz.heap.size + 1 = bi at *
  have hlt1 : wz.heap.size < bi := by omega
  have hlt2 : bi < bo := by omega
  have HSI : Hid (∀ V, Ar V bi 0 64 (fun i => at8 k2 i ^^^ 54) → (convert 46 9 (.slice (some ⟨bi, 0, none⟩) 64 64)).run Tryd.prog V = .ok (.string (kyW k2 54)) V) := fun V h => ar_string h (fun i _ => xor_lt _ _ (at8_lt k2 i) (by omega)) 64
  have HSO : Hid (∀ V, Ar V bo 0 64 (fun i => at8 k2 i ^^^ 92) → (convert 46 9 (.slice (some ⟨bo, 0, none⟩) 64 64)).run Tryd.prog V = .ok (.string (kyW k2 92)) V) := fun V h => ar_string h (fun i _ => xor_lt _ _ (at8_lt k2 i) (by omega)) 64
  clear hbi hbo hz1 mk0
  go_loopw [26] (fun iv wr => ∃ k : Nat, k ≤ 64 ∧ iv = .int .i64 k ∧ Ar wr wz.heap.size 0 64 (at8 k2) ∧ Ar wr bi 0 64 (stp (fun i => at8 k2 i ^^^ 54) (fun _ => 0) k) ∧ Ar wr bo 0 64 (stp (fun i => at8 k2 i ^^^ 92) (fun _ => 0) k) ∧ Below wz.heap.size wz wr) (fun iv _ => 64 - (intOf iv).toNat)
  case atStart => exact ⟨0, by omega, rfl, unhide K2, (unhide I2).stepNone, (unhide O2).stepNone, unhide B2⟩
  case round =>
    obtain ⟨k, hk64, rfl, hA, hI, hO, hB⟩ := hrel
    clear K2 I2 O2 B2
    by_cases hlt : k < 64
    · have hc := hA.c0 k hlt
      have hv := at8_lt k2 k
      have x1 : bits .xor .u8 ((at8 k2 k : Nat) : Int) 54 = ((at8 k2 k ^^^ 54 : Nat) : Int) := xorI (at8 k2 k) 54 hv (by omega)
      have x2 : bits .xor .u8 ((at8 k2 k : Nat) : Int) 92 = ((at8 k2 k ^^^ 92 : Nat) : Int) := xorI (at8 k2 k) 92 hv (by omega)
      have ci := hI.c0 k hlt
      have fi := hI.f0 k hlt
      have R1 := hI.step hlt (x := at8 k2 k ^^^ 54) rfl
      have O1 := hO.other (a := ⟨bi, k, none⟩) (v := .int .u8 ((at8 k2 k ^^^ 54 : Nat) : Int)) (by show bi ≠ bo; omega)
      have co := O1.c0 k hlt
      have fo := O1.f0 k hlt
      have O2 := hide (O1.step hlt (x := at8 k2 k ^^^ 92) rfl)
      have I2 := hide (R1.other (a := ⟨bo, k, none⟩) (v := .int .u8 ((at8 k2 k ^^^ 92 : Nat) : Int)) (by show bo ≠ bi; omega))
      have A2 := hide ((hA.other (a := ⟨bi, k, none⟩) (v := .int .u8 ((at8 k2 k ^^^ 54 : Nat) : Int)) (by show bi ≠ wz.heap.size; omega)).other (a := ⟨bo, k, none⟩) (v := .int .u8 ((at8 k2 k ^^^ 92 : Nat) : Int)) (by show bo ≠ wz.heap.size; omega))
      have B2 := hide ((hB.setCell (p := ⟨bi, k, none⟩) (show wz.heap.size ≤ bi by omega) (.int .u8 ((at8 k2 k ^^^ 54 : Nat) : Int))).setCell (p := ⟨bo, k, none⟩) (show wz.heap.size ≤ bo by omega) (.int .u8 ((at8 k2 k ^^^ 92 : Nat) : Int)))
      clear hA hI hO hB R1 O1
      generalize hy1 : at8 k2 k ^^^ 54 = y1 at *
      generalize hy2 : at8 k2 k ^^^ 92 = y2 at *
      clear hy1 hy2
      generalize at8 k2 k = v at *
      go_wp2
      exact ⟨⟨k + 1, by omega, by go_num, unhide A2, unhide I2, unhide O2, unhide B2⟩, by simp [intOf]; omega⟩
    · obtain rfl : k = 64 := by omega
      have hi0 := hI.stepEnd
      have ho0 := hO.stepEnd
      have L0 := hide ((unhide H).kept hB)
      have B0 := hide hB
      have hsz := hB.size
      clear hA hI hO hB
      have hs1 : (kyW k2 54 ++ t).size ≤ 10000 := by rw [ByteArray.size_append, kyW_size]; omega
      have hs2 : (kyW k2 92 ++ shW (kyW k2 54 ++ t)).size ≤ 10000 := by rw [ByteArray.size_append, kyW_size, shW_size]; omega
      have ad1 := fun W : World => run_string_add_sum (P := Tryd.prog) (w := W) (kyW k2 54) t (by rw [kyW_size]; omega)
      have ad2 := fun W : World => run_string_add_sum (P := Tryd.prog) (w := W) (kyW k2 92) (shW (kyW k2 54 ++ t)) (by rw [kyW_size, shW_size]; omega)
      have HC1 : Hid (∀ W, L4 W hb gw cw gf cf → Calls Tryd.prog 24 #[.pointer (some ⟨hb, 0, none⟩), .string (kyW k2 54 ++ t)] W fun e w' => e = .returned (.string (shW (kyW k2 54 ++ t))) ∧ Below W.heap.size W w') := fun W h => unhide HS _ hs1 W h
      have HC2 : Hid (∀ W, L4 W hb gw cw gf cf → Calls Tryd.prog 24 #[.pointer (some ⟨hb, 0, none⟩), .string (kyW k2 92 ++ shW (kyW k2 54 ++ t))] W fun e w' => e = .returned (.string (shW (kyW k2 92 ++ shW (kyW k2 54 ++ t)))) ∧ Below W.heap.size W w') := fun W h => unhide HS _ hs2 W h
      clear hs1 hs2 HS H
      generalize hx4 : shW (kyW k2 92 ++ shW (kyW k2 54 ++ t)) = s2 at HC2
      have HX4 := hide hx4
      clear hx4
      generalize kyW k2 92 ++ shW (kyW k2 54 ++ t) = x2 at HC2 ad2
      generalize shW (kyW k2 54 ++ t) = s1 at HC1 ad2
      generalize kyW k2 54 ++ t = x1 at HC1 ad1
      generalize kyW k2 54 = ki at HSI ad1
      generalize kyW k2 92 = ko at HSO ad2
      go_wp2_with fail
      refine wp_region_held_drew (S := fun V => Ar V bo 0 64 (fun i => at8 k2 i ^^^ 92) ∧ Ar V bi 0 64 (fun i => at8 k2 i ^^^ 54)) (by kernel_rfl) ⟨ho0.drew, hi0.drew⟩ (fun hHeld => ?_)
      refine wpAnyH_take (i := 0) (v := ?_) rfl (by kernel_rfl) (by kernel_rfl) (by kernel_rfl) (fun _ _ _ h => h) (Or.inl ⟨by rfl, ?_⟩) hHeld ?_
      rotate_left
      · intro V hSw; go_simp; rfl
      simp only [Act.put, List.getElem_toArray, List.getElem_cons_zero, List.setIfInBounds_toArray, List.set_cons_zero, List.set_cons_succ]
      refine wpAnyH_take (i := 1) (v := ?_) rfl (by kernel_rfl) (by kernel_rfl) (by kernel_rfl) (fun _ _ _ h => h) (Or.inl ⟨by rfl, ?_⟩) hHeld ?_
      rotate_left
      · intro V hSw; go_simp; rfl
      simp only [Act.put, List.getElem_toArray, List.getElem_cons_succ, List.getElem_cons_zero, List.setIfInBounds_toArray, List.set_cons_zero, List.set_cons_succ]
      refine wpAnyH_take (i := 2) (v := ?_) rfl (by kernel_rfl) (by kernel_rfl) (by kernel_rfl) (fun _ _ _ h => h) (Or.inl ⟨by rfl, ?_⟩) hHeld ?_
      rotate_left
      · intro V hSw; have hq := unhide HSO V hSw.1; go_simp; rfl
      simp only [Act.put, List.getElem_toArray, List.getElem_cons_succ, List.getElem_cons_zero, List.setIfInBounds_toArray, List.set_cons_zero, List.set_cons_succ]
      refine wpAnyH_take (i := 3) (v := ?_) rfl (by kernel_rfl) (by kernel_rfl) (by kernel_rfl) (fun _ _ _ h => h) (Or.inl ⟨by rfl, ?_⟩) hHeld ?_
      rotate_left
      · intro V hSw; go_simp; rfl
      simp only [Act.put, List.getElem_toArray, List.getElem_cons_succ, List.getElem_cons_zero, List.setIfInBounds_toArray, List.set_cons_zero, List.set_cons_succ]
      refine wpAnyH_take (i := 4) (v := ?_) rfl (by kernel_rfl) (by kernel_rfl) (by kernel_rfl) (fun _ _ _ h => h) (Or.inl ⟨by rfl, ?_⟩) hHeld ?_
      rotate_left
      · intro V hSw; go_simp; rfl
      simp only [Act.put, List.getElem_toArray, List.getElem_cons_succ, List.getElem_cons_zero, List.setIfInBounds_toArray, List.set_cons_zero, List.set_cons_succ]
      refine wpAnyH_take (i := 5) (v := ?_) rfl (by kernel_rfl) (by kernel_rfl) (by kernel_rfl) (fun _ _ _ h => h) (Or.inl ⟨by rfl, ?_⟩) hHeld ?_
      rotate_left
      · intro V hSw; have hq := unhide HSI V hSw.2; go_simp; rfl
      simp only [Act.put, List.getElem_toArray, List.getElem_cons_succ, List.getElem_cons_zero, List.setIfInBounds_toArray, List.set_cons_zero, List.set_cons_succ]
      refine wpAnyH_take (i := 6) (v := ?_) rfl (by kernel_rfl) (by kernel_rfl) (by kernel_rfl) (fun _ _ _ h => h) (Or.inl ⟨by rfl, ?_⟩) hHeld ?_
      rotate_left
      · intro V hSw; go_simp; rfl
      simp only [Act.put, List.getElem_toArray, List.getElem_cons_succ, List.getElem_cons_zero, List.setIfInBounds_toArray, List.set_cons_zero, List.set_cons_succ]
      refine wpAnyH_take (i := 7) (v := ?_) rfl (by kernel_rfl) (by kernel_rfl) (by kernel_rfl) (fun _ _ _ h => h) (Or.inl ⟨by rfl, ?_⟩) hHeld ?_
      rotate_left
      · intro V hSw; go_simp; rfl
      simp only [Act.put, List.getElem_toArray, List.getElem_cons_succ, List.getElem_cons_zero, List.setIfInBounds_toArray, List.set_cons_zero, List.set_cons_succ]
      refine wpAnyH_ready (rs := [8]) (by kernel_rfl) (by simp) ?_
      refine AllReadyH.cons rfl (fun K hK => ?_) AllReadyH.nil
      go_simp
      go_at_call 24
      refine (unhide HC1 _ ((unhide L0).kept ((Below.refl _ _).drew))).mono ?_
      rintro e w1 ⟨rfl, b1⟩
      have L1 := hide ((unhide L0).kept (((Below.refl _ _).drew).trans b1))
      have B1 := hide ((unhide B0).drew.trans (b1.mono hsz))
      refine hK.out _ _ (⟨ho0.drew.below b1 ho0.lt, hi0.drew.below b1 hi0.lt⟩) (fun hHeld => ?_)
      clear hK K
      try simp only [Act.put, List.getElem_toArray, List.getElem_cons_succ, List.getElem_cons_zero, List.setIfInBounds_toArray, List.set_cons_zero, List.set_cons_succ]
      refine wpAnyH_take (i := 9) (v := ?_) rfl (by kernel_rfl) (by kernel_rfl) (by kernel_rfl) (fun _ _ _ h => h) (Or.inl ⟨by rfl, ?_⟩) hHeld ?_
      rotate_left
      · intro V hSw; go_simp; rfl
      simp only [Act.put, List.getElem_toArray, List.getElem_cons_succ, List.getElem_cons_zero, List.setIfInBounds_toArray, List.set_cons_zero, List.set_cons_succ]
      refine wpAnyH_ready (rs := [10]) (by kernel_rfl) (by simp) ?_
      refine AllReadyH.cons rfl (fun K hK => ?_) AllReadyH.nil
      go_simp
      go_at_call 24
      refine (unhide HC2 _ (unhide L1)).mono ?_
      rintro e w2 ⟨rfl, b2⟩
      have B2 := hide ((unhide B1).trans (b2.mono (unhide B1).size))
      refine hK.out _ _ (⟨hHeld.1.below b2 hHeld.1.lt, hHeld.2.below b2 hHeld.2.lt⟩) (fun hHeld => ?_)
      clear hK K
      try simp only [Act.put, List.getElem_toArray, List.getElem_cons_succ, List.getElem_cons_zero, List.setIfInBounds_toArray, List.set_cons_zero, List.set_cons_succ]
      refine wpAnyH_take (i := 11) (v := ?_) rfl (by kernel_rfl) (by kernel_rfl) (by kernel_rfl) (fun _ _ _ h => h) (Or.inl ⟨by rfl, ?_⟩) hHeld ?_
      rotate_left
      · intro V hSw; go_simp; rfl
      simp only [Act.put, List.getElem_toArray, List.getElem_cons_succ, List.getElem_cons_zero, List.setIfInBounds_toArray, List.set_cons_zero, List.set_cons_succ]
      refine wpAnyH_done (by kernel_rfl) ?_ _
      clear hHeld b1 b2
      go_wp2
      go_ret
      exact ⟨by rw [unhide HK2, unhide HX4]; rfl, (unhide BZ).trans ((unhide B2).mono (unhide BZ).size)⟩
theorem specHmac (key t : ByteArray) (hk : key.size ≤ 5000) (ht : t.size ≤ 5000) (w : World) (hb gw cw gf cf : Nat) (h : L4 w hb gw cw gf cf) :
    Calls Tryd.prog 21 #[.pointer (some ⟨hb, 0, none⟩), .string key, .string t] w fun e w' => e = .returned (.string (hmW key t)) ∧ Below w.heap.size w w' := by
  unfold hmW k64
  by_cases hs : key.size ≤ 64
  · rw [if_pos hs]
    exact specHmac_short key t hs ht w hb gw cw gf cf h
  · rw [if_neg hs]
    exact specHmac_long key t ⟨hs, hk⟩ ht w hb gw cw gf cf h
end Go.Proofs.YtlphaciboaicgaaDoor
