/-
  Contracts of the model: CapsulesBytes and CarriedBytes.
-/
import Derived.Test.YtgieglpjkjncfabDoorCpm
namespace Go.Proofs.YtgieglpjkjncfabDoor.Rc
open Go.ChangeShapes Go.WideShapes Go.ChangeAt Go.RowKit Go.Deep
set_option linter.unusedVariables false
set_option maxRecDepth 100000

/-- a number's bytes as a text -/
def VN (n : Int) : ByteArray := ⟨(vb n).toArray⟩
theorem VN_le (n : Int) : (VN n).size ≤ 8 := by
  have := vb_le n
  show ((vb n).toArray).size ≤ 8
  rw [List.size_toArray]
  exact this
theorem app_t (a b : List UInt8) : (⟨a.toArray⟩ : ByteArray) ++ ⟨b.toArray⟩ = ⟨(a ++ b).toArray⟩ := by
  apply ByteArray.ext
  apply Array.toList_inj.1
  rw [ByteArray.data_append, Array.toList_append]
theorem tx_t (s : ByteArray) : s = ⟨s.data.toList.toArray⟩ := rfl
theorem app_x (a : List UInt8) (s : ByteArray) : (⟨a.toArray⟩ : ByteArray) ++ s = ⟨(a ++ s.data.toList).toArray⟩ := app_t a s.data.toList
theorem sz_t (a : List UInt8) : (⟨a.toArray⟩ : ByteArray).size = a.length := by show (a.toArray).size = _; rw [List.size_toArray]
set_option maxHeartbeats 8000000 in
theorem specBy (L : List CapsuleD) (a : Option Addr) (c : Nat) (w : World) (hg : gdL L = true) (h : Rd capsuleK w a L) :
    Calls Tryd.prog 22 #[.slice a L.length c] w fun e w' => e = .returned (.string (cbT L)) ∧ Below w.heap.size w w' := by
  have HR := hide h
  unfold gdL at hg
  rw [Bool.and_eq_true, decide_eq_true_eq] at hg
  have hl30 := hg.1
  have HAL := hide hg.2
  clear h hg
  go_enter Tryd.func22, Tryd.ntmps22
  go_wp2_with fail
  go_loopw [3, 8] (fun sv iv wr => ∃ k : Nat, k ≤ L.length ∧ iv = .int .i64 k ∧ sv = .string (cbT (L.take k)) ∧ Hid (Below w.heap.size w wr)) (fun _ iv _ => L.length - (intOf iv).toNat)
  case atStart => exact ⟨0, Nat.zero_le _, rfl, rfl, Below.refl _ _⟩
  case round =>
    obtain ⟨k, hk, rfl, rfl, hB⟩ := hrel
    by_cases hlt : k < L.length
    · rcases (unhide HR).below (unhide hB) with h0 | ⟨b, oo, rfl, _, hel⟩
      · rw [h0] at hlt; exact absurd hlt (Nat.not_lt_zero _)
      have x0 := capsule_r0 hel hlt
      have x1 := capsule_r1 hel hlt
      have HT := hide (cb_take hlt)
      have hD := all_gt16 (unhide HAL) hlt
      have hlen : (cbT (L.take k)).size ≤ 20000 := by
        have h8 := cb_len (L.take k) (all_take16 (unhide HAL) k)
        rw [List.length_take] at h8
        unfold cbT
        rw [sz_t]
        omega
      clear hel
      generalize gt capsuleK L k = D at *
      obtain ⟨nm, vl⟩ := D
      dsimp only at x0 x1
      unfold gdC k62 at hD
      simp only [Bool.and_eq_true, decide_eq_true_eq] at hD
      obtain ⟨⟨d0, d1⟩, d2⟩ := hD
      have HE : Hid (cbT (L.take (k + 1)) = cbT (L.take k) ++ ((VN nm ++ VN vl.size) ++ vl)) := by
        show _ = _
        unfold cbT VN
        rw [unhide HT, app_t, app_x, app_t]
        unfold cbC
        rw [List.append_assoc]
      clear HT
      have hA := VN_le nm
      have hC := VN_le vl.size
      have HL1 : Hid (∀ W, Calls Tryd.prog 43 #[.int .i64 nm] W fun e w' => e = .returned (.string (VN nm)) ∧ Below W.heap.size W w') := fun W => l1Var_any nm W d0 d1
      have HL2 : Hid (∀ W, Calls Tryd.prog 43 #[.int .i64 (vl.size : Int)] W fun e w' => e = .returned (.string (VN vl.size)) ∧ Below W.heap.size W w') := fun W => l1Var_any vl.size W (by omega) (by omega)
      generalize cbT (L.take k) = S at *
      generalize VN nm = A at *
      generalize VN vl.size = C at *
      have hs1 : ¬ 9223372036854775807 < A.size + C.size := by omega
      have hs2 : ¬ 9223372036854775807 < A.size + C.size + vl.size := by omega
      have hs3 : ¬ 9223372036854775807 < S.size + (A.size + C.size + vl.size) := by omega
      have hv0 : IntKind.i64.wrap (vl.size : Int) = (vl.size : Int) := wraps_i64 _ (by omega) (by omega)
      obtain ⟨V, hV⟩ : ∃ V, V = wr.alloc (.cells #[.int .i64 nm, .string vl] 30) := ⟨_, rfl⟩
      have hBV : Below w.heap.size w V := by rw [hV]; exact (unhide hB).alloc (unhide hB).size _
      have HBX := hide (show V.drew.heap[wr.heap.size]? = some (.cells #[.int .i64 nm, .string vl] 30 (0, 0)) by rw [hV]; exact heap_new wr _)
      have hlw : wr.heap.size ≤ V.heap.size := by rw [hV]; simp
      have HVV := hide hV
      have HBV := hide hBV
      clear hV hBV hB d0 d1
      go_upto_region 5 with fail
      rw [← unhide HVV]
      clear HVV x0 x1
      refine wp_region_held_drew (S := fun V1 => V1.heap[wr.heap.size]? = some (.cells #[.int .i64 nm, .string vl] 30 (0, 0)) ∧ Below V.heap.size V V1) (by kernel_rfl) (⟨unhide HBX, (Below.refl _ _).drew⟩) (fun hHeld => ?_)
      refine wpAnyH_take (i := 0) (v := ?_) rfl (by kernel_rfl) (by kernel_rfl) (by kernel_rfl) (fun _ _ _ h => h) (Or.inl ⟨by rfl, ?_⟩) hHeld ?_
      rotate_left
      · intro V hSw; go_simp; rfl
      try simp only [Act.put, List.getElem_toArray, List.getElem_cons_zero, List.setIfInBounds_toArray, List.set_cons_zero, List.set_cons_succ]
      refine wpAnyH_take (i := 1) (v := ?_) rfl (by kernel_rfl) (by kernel_rfl) (by kernel_rfl) (fun _ _ _ h => h) (Or.inl ⟨by rfl, ?_⟩) hHeld ?_
      rotate_left
      · intro V hSw; go_simp; rfl
      try simp only [Act.put, List.getElem_toArray, List.getElem_cons_succ, List.getElem_cons_zero, List.setIfInBounds_toArray, List.set_cons_zero, List.set_cons_succ]
      refine wpAnyH_take (i := 2) (v := ?_) rfl (by kernel_rfl) (by kernel_rfl) (by kernel_rfl) (fun _ _ _ h => h) (Or.inl ⟨by rfl, ?_⟩) hHeld ?_
      rotate_left
      · intro V hSw; have y1 := cell_in hSw.1; have y2 := hlow hSw.1; go_simp; rfl
      try simp only [Act.put, List.getElem_toArray, List.getElem_cons_succ, List.getElem_cons_zero, List.setIfInBounds_toArray, List.set_cons_zero, List.set_cons_succ]
      refine wpAnyH_take (i := 4) (v := ?_) rfl (by kernel_rfl) (by kernel_rfl) (by kernel_rfl) (fun _ _ _ h => h) (Or.inl ⟨by rfl, ?_⟩) hHeld ?_
      rotate_left
      · intro V hSw; go_simp; rfl
      try simp only [Act.put, List.getElem_toArray, List.getElem_cons_succ, List.getElem_cons_zero, List.setIfInBounds_toArray, List.set_cons_zero, List.set_cons_succ]
      refine wpAnyH_take (i := 5) (v := ?_) rfl (by kernel_rfl) (by kernel_rfl) (by kernel_rfl) (fun _ _ _ h => h) (Or.inl ⟨by rfl, ?_⟩) hHeld ?_
      rotate_left
      · intro V hSw; have y1 := cell_in hSw.1; have y2 := hlow hSw.1; go_simp; rfl
      try simp only [Act.put, List.getElem_toArray, List.getElem_cons_succ, List.getElem_cons_zero, List.setIfInBounds_toArray, List.set_cons_zero, List.set_cons_succ]
      refine wpAnyH_take (i := 6) (v := ?_) rfl (by kernel_rfl) (by kernel_rfl) (by kernel_rfl) (fun _ _ _ h => h) (Or.inl ⟨by rfl, ?_⟩) hHeld ?_
      rotate_left
      · intro V hSw; go_simp; rfl
      try simp only [Act.put, List.getElem_toArray, List.getElem_cons_succ, List.getElem_cons_zero, List.setIfInBounds_toArray, List.set_cons_zero, List.set_cons_succ]
      refine wpAnyH_take (i := 9) (v := ?_) rfl (by kernel_rfl) (by kernel_rfl) (by kernel_rfl) (fun _ _ _ h => h) (Or.inl ⟨by rfl, ?_⟩) hHeld ?_
      rotate_left
      · intro V hSw; go_simp; rfl
      try simp only [Act.put, List.getElem_toArray, List.getElem_cons_succ, List.getElem_cons_zero, List.setIfInBounds_toArray, List.set_cons_zero, List.set_cons_succ]
      refine wpAnyH_take (i := 10) (v := ?_) rfl (by kernel_rfl) (by kernel_rfl) (by kernel_rfl) (fun _ _ _ h => h) (Or.inl ⟨by rfl, ?_⟩) hHeld ?_
      rotate_left
      · intro V hSw; have y1 := cell_in hSw.1; have y2 := hlow hSw.1; go_simp; rfl
      try simp only [Act.put, List.getElem_toArray, List.getElem_cons_succ, List.getElem_cons_zero, List.setIfInBounds_toArray, List.set_cons_zero, List.set_cons_succ]
      refine wpAnyH_ready (rs := [3]) (by kernel_rfl) (by simp) ?_
      refine (AllReadyH.cons rfl (fun K hK => ?_) AllReadyH.nil)
      go_simp
      go_at_call 43
      refine (unhide HL1 _).mono ?_
      rintro e w1 ⟨rfl, b1⟩
      refine hK.out _ _ (⟨(b1.block _ (hlow hHeld.1)).trans hHeld.1, hHeld.2.trans (b1.mono hHeld.2.size)⟩) (fun hHeld => ?_)
      clear hK K
      try simp only [Act.put, List.getElem_toArray, List.getElem_cons_succ, List.getElem_cons_zero, List.setIfInBounds_toArray, List.set_cons_zero, List.set_cons_succ]
      refine wpAnyH_ready (rs := [7]) (by kernel_rfl) (by simp) ?_
      refine (AllReadyH.cons rfl (fun K hK => ?_) AllReadyH.nil)
      go_simp
      go_at_call 43
      refine (unhide HL2 _).mono ?_
      rintro e w2 ⟨rfl, b2⟩
      refine hK.out _ _ (⟨(b2.block _ (hlow hHeld.1)).trans hHeld.1, hHeld.2.trans (b2.mono hHeld.2.size)⟩) (fun hHeld => ?_)
      clear hK K
      try simp only [Act.put, List.getElem_toArray, List.getElem_cons_succ, List.getElem_cons_zero, List.setIfInBounds_toArray, List.set_cons_zero, List.set_cons_succ]
      refine wpAnyH_take (i := 8) (v := ?_) rfl (by kernel_rfl) (by kernel_rfl) (by kernel_rfl) (fun _ _ _ h => h) (Or.inl ⟨by rfl, ?_⟩) hHeld ?_
      rotate_left
      · intro V hSw; go_simp; rfl
      try simp only [Act.put, List.getElem_toArray, List.getElem_cons_succ, List.getElem_cons_zero, List.setIfInBounds_toArray, List.set_cons_zero, List.set_cons_succ]
      refine wpAnyH_take (i := 11) (v := ?_) rfl (by kernel_rfl) (by kernel_rfl) (by kernel_rfl) (fun _ _ _ h => h) (Or.inl ⟨by rfl, ?_⟩) hHeld ?_
      rotate_left
      · intro V hSw; go_simp; rfl
      try simp only [Act.put, List.getElem_toArray, List.getElem_cons_succ, List.getElem_cons_zero, List.setIfInBounds_toArray, List.set_cons_zero, List.set_cons_succ]
      refine wpAnyH_take (i := 12) (v := ?_) rfl (by kernel_rfl) (by kernel_rfl) (by kernel_rfl) (fun _ _ _ h => h) (Or.inl ⟨by rfl, ?_⟩) hHeld ?_
      rotate_left
      · intro V hSw; go_simp; rfl
      try simp only [Act.put, List.getElem_toArray, List.getElem_cons_succ, List.getElem_cons_zero, List.setIfInBounds_toArray, List.set_cons_zero, List.set_cons_succ]
      refine wpAnyH_take (i := 13) (v := ?_) rfl (by kernel_rfl) (by kernel_rfl) (by kernel_rfl) (fun _ _ _ h => h) (Or.inl ⟨by rfl, ?_⟩) hHeld ?_
      rotate_left
      · intro V hSw; go_simp; rfl
      try simp only [Act.put, List.getElem_toArray, List.getElem_cons_succ, List.getElem_cons_zero, List.setIfInBounds_toArray, List.set_cons_zero, List.set_cons_succ]
      refine wpAnyH_done (by kernel_rfl) ?_ _
      have HB9 := hide ((unhide HBV).trans (hHeld.2.mono (unhide HBV).size))
      clear hHeld
      go_wp2
      exact ⟨⟨k + 1, by omega, by go_num, by rw [unhide HE], HB9⟩, by simp [intOf]; omega⟩
    · obtain rfl : k = L.length := by omega
      rw [List.take_length]
      go_wp2
      go_ret
      exact ⟨rfl, unhide hB⟩
set_option maxHeartbeats 2000000 in
theorem specCB (L : List CapsuleD) (a : Option Addr) (c : Nat) (w : World) (hm : L.length ≤ 1048576) (ho : ∀ i, i < L.length → (gt capsuleK L i).f1.size ≤ 1048576) (h : Rd capsuleK w a L) :
    Calls Tryd.prog 7 #[.slice a L.length c] w fun e w' => e = .returned (.tuple #[.string (cbR L), .bool (gdL L)]) ∧ Below w.heap.size w w' := by
  have HG := hide (specGC L a c w hm ho h)
  have HY := hide (fun (hg : gdL L = true) W (b : Below w.heap.size w W) => specBy L a c W hg (h.below b))
  clear h ho
  unfold cbR
  cases hg : gdL L with
  | false =>
    rw [hg] at HG
    rw [if_neg (by decide)]
    go_enter Tryd.func7, Tryd.ntmps7
    go_wp2_with fail
    refine (unhide HG).mono ?_
    rintro e w1 ⟨rfl, b1⟩
    go_wp2
    go_ret2
    exact ⟨rfl, b1⟩
  | true =>
    have HY2 := hide (unhide HY hg)
    rw [hg] at HG
    rw [if_pos rfl]
    clear hg HY
    go_enter Tryd.func7, Tryd.ntmps7
    go_wp2_with fail
    refine (unhide HG).mono ?_
    rintro e w1 ⟨rfl, b1⟩
    have B1 := hide b1
    clear b1
    go_wp2_with fail
    refine (unhide HY2 _ (unhide B1)).mono ?_
    rintro e w2 ⟨rfl, b2⟩
    have B2 := hide ((unhide B1).trans (b2.mono (unhide B1).size))
    clear b2
    go_wp2
    go_ret2
    exact ⟨rfl, unhide B2⟩
set_option maxHeartbeats 8000000 in
theorem specL16C (D : CarriedD) (w : World) (hg : gdK D = true) : Calls Tryd.prog 33 #[carriedV D] w fun e w' => e = .returned (.string ⟨(cyL D).toArray⟩) ∧ Below w.heap.size w w' := by
  obtain ⟨f0, f1, f2⟩ := D
  obtain ⟨d0, d1, d2, d3, d4⟩ := gdK_n hg
  dsimp only at d0 d1 d2 d3 d4
  clear hg
  have hq0 : Int.tdiv f0 4 = f0 / 4 := Int.tdiv_eq_ediv_of_nonneg d0
  have HE : Hid ((⟨(cyL ⟨f0, f1, f2⟩).toArray⟩ : ByteArray) = (VN (Int.tdiv f0 4) ++ VN f1) ++ f2) := by
    show _ = _
    unfold VN cyL
    rw [app_t, app_x]
    dsimp only
    rw [List.append_assoc]
  rw [unhide HE]
  clear HE
  obtain ⟨q, hq⟩ : ∃ q, Int.tdiv f0 4 = q := ⟨_, rfl⟩
  rw [hq] at hq0 ⊢
  have wq : IntKind.i64.wrap q = q := wraps_i64 _ (by omega) (by omega)
  have HL1 : Hid (∀ W, Calls Tryd.prog 43 #[.int .i64 q] W fun e w' => e = .returned (.string (VN q)) ∧ Below W.heap.size W w') := fun W => l1Var_any q W (by omega) (by omega)
  have HL2 : Hid (∀ W, Calls Tryd.prog 43 #[.int .i64 f1] W fun e w' => e = .returned (.string (VN f1)) ∧ Below W.heap.size W w') := fun W => l1Var_any f1 W d2 d3
  have hA := VN_le q
  have hC := VN_le f1
  generalize VN q = A at *
  generalize VN f1 = C at *
  have hs1 : ¬ 9223372036854775807 < A.size + C.size := by omega
  have hs2 : ¬ 9223372036854775807 < A.size + C.size + f2.size := by omega
  obtain ⟨V, hV⟩ : ∃ V, V = w.alloc (.cells #[.int .i64 f0, .int .i64 f1, .string f2] 38) := ⟨_, rfl⟩
  have hBV : Below w.heap.size w V := by rw [hV]; exact (Below.refl _ _).alloc (Nat.le_refl _) _
  have HBX := hide (show V.drew.heap[w.heap.size]? = some (.cells #[.int .i64 f0, .int .i64 f1, .string f2] 38 (0, 0)) by rw [hV]; exact heap_new w _)
  have HVV := hide hV
  have HBV := hide hBV
  clear hV hBV hq0 d0 d1
  go_enter Tryd.func33, Tryd.ntmps33
  go_upto_region 1 with fail
  rw [← unhide HVV]
  clear HVV
  refine wp_region_noPanic ?_
  refine wp_region_held_drew (S := fun V1 => V1.heap[w.heap.size]? = some (.cells #[.int .i64 f0, .int .i64 f1, .string f2] 38 (0, 0)) ∧ Below V.heap.size V V1) (by kernel_rfl) (⟨unhide HBX, (Below.refl _ _).drew⟩) (fun hHeld => ?_)
  refine wpAnyH_take (i := 0) (v := ?_) rfl (by kernel_rfl) (by kernel_rfl) (by kernel_rfl) (fun _ _ _ h => h) (Or.inl ⟨by rfl, ?_⟩) hHeld ?_
  rotate_left
  · intro V hSw; go_simp; rfl
  try simp only [Act.put, List.getElem_toArray, List.getElem_cons_zero, List.setIfInBounds_toArray, List.set_cons_zero, List.set_cons_succ]
  refine wpAnyH_take (i := 1) (v := ?_) rfl (by kernel_rfl) (by kernel_rfl) (by kernel_rfl) (fun _ _ _ h => h) (Or.inl ⟨by rfl, ?_⟩) hHeld ?_
  rotate_left
  · intro V hSw; have y1 := cell_in hSw.1; have y2 := hlow hSw.1; go_simp; rfl
  try simp only [Act.put, List.getElem_toArray, List.getElem_cons_succ, List.getElem_cons_zero, List.setIfInBounds_toArray, List.set_cons_zero, List.set_cons_succ]
  refine wpAnyH_take (i := 2) (v := ?_) rfl (by kernel_rfl) (by kernel_rfl) (by kernel_rfl) (fun _ _ _ h => h) (Or.inl ⟨by rfl, ?_⟩) hHeld ?_
  rotate_left
  · intro V hSw; go_simp; rfl
  try simp only [Act.put, List.getElem_toArray, List.getElem_cons_succ, List.getElem_cons_zero, List.setIfInBounds_toArray, List.set_cons_zero, List.set_cons_succ]
  refine wpAnyH_take (i := 4) (v := ?_) rfl (by kernel_rfl) (by kernel_rfl) (by kernel_rfl) (fun _ _ _ h => h) (Or.inl ⟨by rfl, ?_⟩) hHeld ?_
  rotate_left
  · intro V hSw; go_simp; rfl
  try simp only [Act.put, List.getElem_toArray, List.getElem_cons_succ, List.getElem_cons_zero, List.setIfInBounds_toArray, List.set_cons_zero, List.set_cons_succ]
  refine wpAnyH_take (i := 5) (v := ?_) rfl (by kernel_rfl) (by kernel_rfl) (by kernel_rfl) (fun _ _ _ h => h) (Or.inl ⟨by rfl, ?_⟩) hHeld ?_
  rotate_left
  · intro V hSw; have y1 := cell_in hSw.1; have y2 := hlow hSw.1; go_simp; rfl
  try simp only [Act.put, List.getElem_toArray, List.getElem_cons_succ, List.getElem_cons_zero, List.setIfInBounds_toArray, List.set_cons_zero, List.set_cons_succ]
  refine wpAnyH_take (i := 8) (v := ?_) rfl (by kernel_rfl) (by kernel_rfl) (by kernel_rfl) (fun _ _ _ h => h) (Or.inl ⟨by rfl, ?_⟩) hHeld ?_
  rotate_left
  · intro V hSw; go_simp; rfl
  try simp only [Act.put, List.getElem_toArray, List.getElem_cons_succ, List.getElem_cons_zero, List.setIfInBounds_toArray, List.set_cons_zero, List.set_cons_succ]
  refine wpAnyH_take (i := 9) (v := ?_) rfl (by kernel_rfl) (by kernel_rfl) (by kernel_rfl) (fun _ _ _ h => h) (Or.inl ⟨by rfl, ?_⟩) hHeld ?_
  rotate_left
  · intro V hSw; have y1 := cell_in hSw.1; have y2 := hlow hSw.1; go_simp; rfl
  try simp only [Act.put, List.getElem_toArray, List.getElem_cons_succ, List.getElem_cons_zero, List.setIfInBounds_toArray, List.set_cons_zero, List.set_cons_succ]
  refine wpAnyH_ready (rs := [3]) (by kernel_rfl) (by simp) ?_
  refine (AllReadyH.cons rfl (fun K hK => ?_) AllReadyH.nil)
  go_simp
  go_at_call 43
  refine (unhide HL1 _).mono ?_
  rintro e w1 ⟨rfl, b1⟩
  refine hK.out _ _ (⟨(b1.block _ (hlow hHeld.1)).trans hHeld.1, hHeld.2.trans (b1.mono hHeld.2.size)⟩) (fun hHeld => ?_)
  clear hK K
  try simp only [Act.put, List.getElem_toArray, List.getElem_cons_succ, List.getElem_cons_zero, List.setIfInBounds_toArray, List.set_cons_zero, List.set_cons_succ]
  refine wpAnyH_ready (rs := [6]) (by kernel_rfl) (by simp) ?_
  refine (AllReadyH.cons rfl (fun K hK => ?_) AllReadyH.nil)
  go_simp
  go_at_call 43
  refine (unhide HL2 _).mono ?_
  rintro e w2 ⟨rfl, b2⟩
  refine hK.out _ _ (⟨(b2.block _ (hlow hHeld.1)).trans hHeld.1, hHeld.2.trans (b2.mono hHeld.2.size)⟩) (fun hHeld => ?_)
  clear hK K
  try simp only [Act.put, List.getElem_toArray, List.getElem_cons_succ, List.getElem_cons_zero, List.setIfInBounds_toArray, List.set_cons_zero, List.set_cons_succ]
  refine wpAnyH_take (i := 7) (v := ?_) rfl (by kernel_rfl) (by kernel_rfl) (by kernel_rfl) (fun _ _ _ h => h) (Or.inl ⟨by rfl, ?_⟩) hHeld ?_
  rotate_left
  · intro V hSw; go_simp; rfl
  try simp only [Act.put, List.getElem_toArray, List.getElem_cons_succ, List.getElem_cons_zero, List.setIfInBounds_toArray, List.set_cons_zero, List.set_cons_succ]
  refine wpAnyH_take (i := 10) (v := ?_) rfl (by kernel_rfl) (by kernel_rfl) (by kernel_rfl) (fun _ _ _ h => h) (Or.inl ⟨by rfl, ?_⟩) hHeld ?_
  rotate_left
  · intro V hSw; go_simp; rfl
  try simp only [Act.put, List.getElem_toArray, List.getElem_cons_succ, List.getElem_cons_zero, List.setIfInBounds_toArray, List.set_cons_zero, List.set_cons_succ]
  refine wpAnyH_take (i := 11) (v := ?_) rfl (by kernel_rfl) (by kernel_rfl) (by kernel_rfl) (fun _ _ _ h => h) (Or.inl ⟨by rfl, ?_⟩) hHeld ?_
  rotate_left
  · intro V hSw; go_simp; rfl
  try simp only [Act.put, List.getElem_toArray, List.getElem_cons_succ, List.getElem_cons_zero, List.setIfInBounds_toArray, List.set_cons_zero, List.set_cons_succ]
  refine wpAnyH_done (by kernel_rfl) ?_ _
  refine NoPanic.normal ?_
  have HB9 := hide ((unhide HBV).trans (hHeld.2.mono (unhide HBV).size))
  clear hHeld
  go_wp2
  go_ret
  exact ⟨rfl, unhide HB9⟩
set_option maxHeartbeats 2000000 in
theorem specCY (D : CarriedD) (hs : D.f2.size ≤ 1048576) (w : World) : Calls Tryd.prog 15 #[carriedV D] w fun e w' => e = .returned (.tuple #[.string (cyR D), .bool (gdK D)]) ∧ Below w.heap.size w w' := by
  obtain ⟨V, hV⟩ : ∃ V, V = w.alloc (.cells #[.int .i64 D.f0, .int .i64 D.f1, .string D.f2] 38) := ⟨_, rfl⟩
  have hA : Below w.heap.size w V := by rw [hV]; exact (Below.refl _ _).alloc (Nat.le_refl _) _
  have hX : Bx V w.heap.size (carriedC D) := by rw [hV]; exact Bx.new w _ _
  have HG := hide (fun W => specGK D hs W)
  have HY := hide (fun (hg : gdK D = true) W => specL16C D W hg)
  have HV := hide hV
  have HA := hide hA
  have HX := hide hX
  have y0 := hX.cv
  have yl := hX.lt
  clear hV hA hX
  unfold cyR
  cases hg : gdK D with
  | false =>
    rw [hg] at HG
    rw [if_neg (by decide)]
    clear hg
    go_enter Tryd.func15, Tryd.ntmps15
    go_upto_region 1 with fail
    rw [← unhide HV]
    go_wp2_with fail
    refine (unhide HG _).mono ?_
    rintro e w1 ⟨rfl, b1⟩
    go_wp2
    go_ret2
    exact ⟨rfl, (unhide HA).trans (b1.mono (unhide HA).size)⟩
  | true =>
    have HY2 := hide (unhide HY hg)
    rw [hg] at HG
    rw [if_pos rfl]
    clear hg HY
    go_enter Tryd.func15, Tryd.ntmps15
    go_upto_region 1 with fail
    rw [← unhide HV]
    go_wp2_with fail
    refine (unhide HG _).mono ?_
    rintro e w1 ⟨rfl, b1⟩
    have hX1 := (unhide HX).below b1
    have B1 := hide ((unhide HA).trans (b1.mono (unhide HA).size))
    clear y0 yl b1 HX HA HV
    have y0 := hX1.cv
    have yl := hX1.lt
    clear hX1
    go_wp2_with fail
    refine (unhide HY2 _).mono ?_
    rintro e w2 ⟨rfl, b2⟩
    have B2 := hide ((unhide B1).trans (b2.mono (unhide B1).size))
    clear b2 y0 yl
    go_wp2
    go_ret2
    exact ⟨rfl, unhide B2⟩
end Go.Proofs.YtgieglpjkjncfabDoor.Rc
