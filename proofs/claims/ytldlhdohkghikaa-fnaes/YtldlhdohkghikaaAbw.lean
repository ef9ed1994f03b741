/-
  Contracts: the cipher, backward.
-/
import Derived.Test.YtldlhdohkghikaaAbu
namespace Go.Proofs.Ytldlhdohkghikaa
open Go.ChangeShapes Go.WideShapes Go.ChangeAt Go.RowKit
set_option linter.unusedVariables false

/-- shifted back -/
def sh3 (f : Nat → Nat) (i : Nat) : Nat := f ((i + 4 * (i % 4) * 3) % 16)
/-- shifted back and put through UnsubByte -/
def ubs (f : Nat → Nat) (i : Nat) : Nat := back (sh3 f i)
/-- mixed three times -/
def mx3 (f : Nat → Nat) : Nat → Nat := mxb (mxb (mxb f))
/-- m rounds back -/
def bw (K : Nat → Nat → Nat) (f : Nat → Nat) : Nat → Nat → Nat
  | 0 => f
  | m + 1 => ubs (if m = 0 then xrs (bw K f m) (K (10 - m)) else mx3 (xrs (bw K f m) (K (10 - m))))
theorem sh3_lt (f : Nat → Nat) (h : ∀ i, f i < 256) (i : Nat) : sh3 f i < 256 := h _
theorem ubs_lt (f : Nat → Nat) (h : ∀ i, f i < 256) (i : Nat) : ubs f i < 256 := back_lt _ (sh3_lt f h i)
theorem mx3_lt (f : Nat → Nat) (h : ∀ i, f i < 256) (i : Nat) : mx3 f i < 256 := mxb_lt _ (mxb_lt _ (mxb_lt f h)) i
theorem bw_lt (K : Nat → Nat → Nat) (f : Nat → Nat) (hK : ∀ n i, K n i < 256) (hf : ∀ i, f i < 256) : ∀ m i, bw K f m i < 256
  | 0, i => hf i
  | m + 1, i => by
    have h := xrs_lt _ _ (bw_lt K f hK hf m) (hK (10 - m))
    unfold bw
    split
    · exact ubs_lt _ h i
    · exact ubs_lt _ (mx3_lt _ h) i
theorem bw_first (K : Nat → Nat → Nat) (f : Nat → Nat) : bw K f (0 + 1) = ubs (xrs f (K 10)) := by
  rw [bw, if_pos rfl, bw]
theorem bw_next (K : Nat → Nat → Nat) (f : Nat → Nat) (m n : Nat) (h : m + n = 10) (hm : 0 < m) : bw K f (m + 1) = ubs (mx3 (xrs (bw K f m) (K n))) := by
  rw [bw, if_neg (by omega), show 10 - m = n by omega]
theorem shifted3_any (a : Nat → Nat) (W : World) :
    Calls Try.prog 37 #[.agg (us 16 a).toArray, .int .i64 3] W fun e w' => e = .returned (.agg (us 16 (sh3 a)).toArray) ∧ Below W.heap.size W w' := implShifted3 a W
theorem putb_any (tb : Nat) (a : Nat → Nat) (ha : ∀ i, a i < 256) (W : World) (hT : Ar W tb 0 256 back) :
    Calls Try.prog 36 #[.agg (us 16 (sh3 a)).toArray, .pointer (some ⟨tb, 0, none⟩)] W fun e w' => e = .returned (.agg (us 16 (ubs a)).toArray) ∧ Below W.heap.size W w' := implPut (sh3 a) back (sh3_lt a ha) tb 0 W hT
theorem unmixed_any (a : Nat → Nat) (ha : ∀ i, a i < 256) (W : World) :
    Calls Try.prog 43 #[.agg (us 16 a).toArray] W fun e w' => e = .returned (.agg (us 16 (mx3 a)).toArray) ∧ Below W.heap.size W w' := implUnmixed a ha W

set_option maxRecDepth 100000 in
set_option maxHeartbeats 1000000 in
theorem implBackward (cb : Nat) (key f : Nat → Nat) (hk : ∀ i, key i < 256) (hf : ∀ i, f i < 256) (w : World) (hC : Ar w cb 0 432 (ck key 10)) :
    Calls Try.prog 24 #[.pointer (some ⟨cb, 0, none⟩), .agg (us 16 f).toArray] w fun e w' => e = .returned (.agg (us 16 (xrs (bw (rk key) f 10) (rk key 0))).toArray) ∧ Below w.heap.size w w' := by
  have HC := hide hC
  have hcb := hC.lt
  have hRK := rk_lt key hk
  have HBW := hide (bw_lt (rk key) f hRK hf)
  have hu := Try.underlying45
  have hi : ∀ g : Nat → Nat, (Try.prog.info? 45).map (·.size) = some (us 16 g).length := fun g => by rw [us_length]; exact info_bl
  have HI := hide hi
  clear hC hi
  go_enter Try.func24, Try.ntmps24
  go_upto_region 1 with fail
  have a1 := (Ar.new w 16 f 45).alloc (.cells #[.int .u8 0, .int .u8 0, .int .u8 0, .int .u8 0, .int .u8 0, .int .u8 0, .int .u8 0, .int .u8 0, .int .u8 0, .int .u8 0, .int .u8 0, .int .u8 0, .int .u8 0, .int .u8 0, .int .u8 0, .int .u8 0] 45)
  have a2 := z16_new (w.alloc (.cells (us 16 f).toArray 45)) 45
  rw [World.size_alloc] at a2
  have a3 := ((Below.refl w.heap.size w).alloc (Nat.le_refl _) (.cells (us 16 f).toArray 45)).alloc (by simp) (.cells #[.int .u8 0, .int .u8 0, .int .u8 0, .int .u8 0, .int .u8 0, .int .u8 0, .int .u8 0, .int .u8 0, .int .u8 0, .int .u8 0, .int .u8 0, .int .u8 0, .int .u8 0, .int .u8 0, .int .u8 0, .int .u8 0] 45)
  have a4 : ((w.alloc (.cells (us 16 f).toArray 45)).alloc (.cells #[.int .u8 0, .int .u8 0, .int .u8 0, .int .u8 0, .int .u8 0, .int .u8 0, .int .u8 0, .int .u8 0, .int .u8 0, .int .u8 0, .int .u8 0, .int .u8 0, .int .u8 0, .int .u8 0, .int .u8 0, .int .u8 0] 45)).heap.size = w.heap.size + 1 + 1 := by simp
  generalize ((w.alloc (.cells (us 16 f).toArray 45)).alloc (.cells #[.int .u8 0, .int .u8 0, .int .u8 0, .int .u8 0, .int .u8 0, .int .u8 0, .int .u8 0, .int .u8 0, .int .u8 0, .int .u8 0, .int .u8 0, .int .u8 0, .int .u8 0, .int .u8 0, .int .u8 0, .int .u8 0] 45)) = W at a1 a2 a3 a4 ⊢
  refine wp_scope_jumps 0 (fun a' w' => ∃ m n tb : Nat, m + n = 10 ∧ 1 ≤ m ∧ 1 ≤ n ∧ w.heap.size + 1 < tb ∧ (∃ (u6 u7 u8 u9 u10 u11 u12 u13 u14 u15 u16 u17 u18 u19 u20 u21 u22 u23 u24 u25 u26 u27 u28 u29 u30 u31 u32 u33 u34 u35 u36 u37 : Value), a' = { tmps := #[.pointer (some ⟨cb, 0, none⟩), .agg (us 16 f).toArray, undef, .pointer (some ⟨w.heap.size, 0, none⟩), .pointer (some ⟨w.heap.size + 1, 0, none⟩), .pointer (some ⟨tb, 0, none⟩), u6, u7, u8, u9, u10, u11, u12, u13, u14, u15, u16, u17, u18, u19, u20, u21, u22, u23, u24, u25, u26, u27, u28, u29, u30, u31, u32, u33, u34, u35, u36, u37], defers := [] } ∧ u6 = .int .i64 (n : Int)) ∧ Ar w' w.heap.size 0 16 (bw (rk key) f m) ∧ Ar w' (w.heap.size + 1) 0 16 (fun _ => 0) ∧ Ar w' tb 0 256 back ∧ Below w.heap.size w w') (fun a' _ => (intOf (a'.tmps.getD 6 undef)).toNat) rfl ?_ ?_
  · skip
    have kt : Ar W cb 176 256 sub := ck_tab ((unhide HC).below a3 hcb)
    have hun := hide (fun V => implUndone V)
    have hlb : (us 256 back).length = 256 := us_length _ _
    go_wp2_with fail
    refine wp_load_mid 53 (.tmp 9) rfl cb 176 rfl (us 256 sub) _ kt.range Try.underlying53 rfl (by rw [us_length]; exact info_tab) ?_
    have K1 := hide a1
    have K2 := hide a2
    have K3 := hide a3
    clear a1 a2 a3 kt
    go_wp2_with (go_at_call 42; with_reducible refine (unhide hun _).mono ?_; rintro e w1 ⟨rfl, b1⟩)
    rw [zero_tab]
    go_wp2_with fail
    have n0 := Ar.new w1 256 (fun _ => 0) 53
    rw [n0.cellsPut]
    have t1 := n0.puts (g := back)
    have al := (Below.refl w1.heap.size w1).alloc (Nat.le_refl _) (.cells (us 256 fun _ => 0).toArray 53)
    have t2 := Go.Proofs.Ytldlhdohkghikaa.below_setCells (b := w1.heap.size) (Nat.le_refl _) (us 256 back) 0 _ al
    generalize (w1.alloc (.cells (us 256 fun _ => 0).toArray 53)).setCells w1.heap.size 0 (us 256 back) = W2 at t1 t2 ⊢
    have b2 := b1.trans (t2.mono b1.size)
    have H1 := hide ((unhide K1).below b2 (unhide K1).lt)
    have H2 := hide ((unhide K2).below b2 (unhide K2).lt)
    have H3 := hide ((unhide K3).trans (b2.mono (unhide K3).size))
    have H5 := hide t1
    have htb : w.heap.size + 1 < w1.heap.size := by have := b1.size; omega
    generalize w1.heap.size = tb at *
    have GL := hf
    clear n0 t1 t2 al b1 b2 K1 K2 K3 hun hlb a4
    go_wp2_with fail
    go_step3
    go_wp2_with fail
    have A1 := unhide H1
    have A2 := unhide H2
    have AB := unhide H3
    have A5 := unhide H5
    clear H1 H2 H3 H5
    have kk : Ar W2 cb (160) 16 (rk key (10)) := ck_keys ((unhide HC).below AB hcb) (10) (by omega)
    have hxo := hide (fun V => xored_any (f) (rk key (10)) GL (hRK _) V)
    have R0 := hide kk.drew.range
    have R1 := hide A1.drew.range
    have KB := hide (fun (V : World) (h : Below W2.drew.heap.size W2.drew V) => (kk.drew.below h kk.lt).range)
    have KT := hide (fun (V : World) (h : Below W2.drew.heap.size W2.drew V) => (A1.drew.below h A1.lt).there)
    have KS := hide (fun (V : World) (h : Below W2.drew.heap.size W2.drew V) => ((kk.drew.below h kk.lt).others (b' := w.heap.size) (o' := 0) (vs := us 16 (xrs (f) (rk key (10)))) (Or.inl (by omega))).range)
    refine wp_region_held_drew (S := fun V => V.rangeAt cb (160) (us 16 (rk key (10)))) (by kernel_rfl) (unhide R0) (fun hHeld => ?_)
    refine wpAnyH_take (i := 1) (v := .pointer (some ⟨cb, 0, none⟩)) rfl (by kernel_rfl) (by kernel_rfl) (by kernel_rfl) (fun _ _ _ h => h) (Or.inl ⟨by rfl, ?_⟩) hHeld ?_
    · intro V hSw; go_simp
    try simp only [Act.put, List.getElem_toArray, List.getElem_cons_succ, List.getElem_cons_zero, List.setIfInBounds_toArray, List.set_cons_zero, List.set_cons_succ]
    refine wpAnyH_take (i := 2) (v := .int .i64 10) rfl (by kernel_rfl) (by kernel_rfl) (by kernel_rfl) (fun _ _ _ h => h) (Or.inl ⟨by rfl, ?_⟩) hHeld ?_
    · intro V hSw; go_simp
    try simp only [Act.put, List.getElem_toArray, List.getElem_cons_succ, List.getElem_cons_zero, List.setIfInBounds_toArray, List.set_cons_zero, List.set_cons_succ]
    refine wpAnyH_take (i := 3) (v := .pointer (some ⟨cb, 0, none⟩)) rfl (by kernel_rfl) (by kernel_rfl) (by kernel_rfl) (fun _ _ _ h => h) (Or.inl ⟨by rfl, ?_⟩) hHeld ?_
    · intro V hSw; go_simp
    try simp only [Act.put, List.getElem_toArray, List.getElem_cons_succ, List.getElem_cons_zero, List.setIfInBounds_toArray, List.set_cons_zero, List.set_cons_succ]
    refine wpAnyH_take (i := 4) (v := .pointer (some ⟨cb, 0, none⟩)) rfl (by kernel_rfl) (by kernel_rfl) (by kernel_rfl) (fun _ _ _ h => h) (Or.inl ⟨by rfl, ?_⟩) hHeld ?_
    · intro V hSw; go_simp
    try simp only [Act.put, List.getElem_toArray, List.getElem_cons_succ, List.getElem_cons_zero, List.setIfInBounds_toArray, List.set_cons_zero, List.set_cons_succ]
    refine wpAnyH_take (i := 5) (v := .pointer (some ⟨cb, 160, none⟩)) rfl (by kernel_rfl) (by kernel_rfl) (by kernel_rfl) (fun _ _ _ h => h) (Or.inl ⟨by rfl, ?_⟩) hHeld ?_
    · intro V hSw; go_simp
    try simp only [Act.put, List.getElem_toArray, List.getElem_cons_succ, List.getElem_cons_zero, List.setIfInBounds_toArray, List.set_cons_zero, List.set_cons_succ]
    refine wpAnyH_take (i := 6) (v := .agg (us 16 (rk key (10))).toArray) rfl (by kernel_rfl) (by kernel_rfl) (by kernel_rfl) (fun _ _ _ h => h) (yieldsIf_load_mid (by rfl) 45 (.tmp 17) rfl (cb) (160) rfl (us 16 (rk key (10))) _ (fun V h => h) hu rfl (unhide HI _)) hHeld ?_
    try simp only [Act.put, List.getElem_toArray, List.getElem_cons_succ, List.getElem_cons_zero, List.setIfInBounds_toArray, List.set_cons_zero, List.set_cons_succ]
    refine wpAnyH_ready (rs := [0]) (by kernel_rfl) (by simp) ?_
    refine AllReadyH.cons rfl (fun K hK => ?_) AllReadyH.nil
    rw [if_pos (by rfl)]
    refine wp_load_mid 45 (.tmp 3) rfl w.heap.size 0 rfl (us 16 (f)) _ (unhide R1) hu rfl (unhide HI _) ?_
    refine hK.out _ _ (hHeld) (fun hHeld => ?_)
    clear hK K
    try simp only [Act.put, List.getElem_toArray, List.getElem_cons_zero, List.setIfInBounds_toArray, List.set_cons_zero, List.set_cons_succ]
    refine wpAnyH_ready (rs := [7]) (by kernel_rfl) (by simp) ?_
    refine AllReadyH.cons rfl (fun K hK => ?_) AllReadyH.nil
    go_simp
    go_at_call 35
    with_reducible refine (unhide hxo _).mono ?_
    rintro e w2 ⟨rfl, hb2⟩
    refine hK.out _ _ (unhide KB _ hb2) (fun hHeld => ?_)
    clear hK K
    try simp only [Act.put, List.getElem_toArray, List.getElem_cons_succ, List.getElem_cons_zero, List.setIfInBounds_toArray, List.set_cons_zero, List.set_cons_succ]
    refine wpAnyH_ready (rs := [8]) (by kernel_rfl) (by simp) ?_
    refine AllReadyH.cons rfl (fun K hK => ?_) AllReadyH.nil
    rw [if_pos (by rfl)]
    refine wp_store_mid 45 (.tmp 3) (.tmp 19) rfl (w.heap.size) 0 (us 16 (xrs (f) (rk key (10)))).toArray rfl rfl (by rw [us_size]; exact unhide KT _ hb2) (by rw [us_size]; exact info_bl) (us_one _ _) ?_
    refine hK.out _ _ (unhide KS _ hb2) (fun hHeld => ?_)
    clear hK K
    try simp only [Act.put, List.getElem_toArray, List.getElem_cons_succ, List.getElem_cons_zero]
    refine wpAnyH_done (by kernel_rfl) ?_ _
    have hs2 := hb2.size
    rw [World.size_drew] at hs2
    have B1 := (A1.drew.below hb2 A1.lt).puts (g := xrs (f) (rk key (10)))
    have B2 := (A2.drew.below hb2 A2.lt).others (b' := w.heap.size) (o' := 0) (vs := us 16 (xrs (f) (rk key (10)))) (Or.inl (by omega))
    have B5 := (A5.drew.below hb2 A5.lt).others (b' := w.heap.size) (o' := 0) (vs := us 16 (xrs (f) (rk key (10)))) (Or.inl (by omega))
    have B3 := Go.Proofs.Ytldlhdohkghikaa.below_setCells (b := w.heap.size) (Nat.le_refl _) (us 16 (xrs (f) (rk key (10)))) 0 _ (AB.drew.trans (hb2.mono (by rw [World.size_drew]; exact AB.size)))
    clear A1 A2 A5 AB hHeld
    generalize w2.setCells w.heap.size 0 (us 16 (xrs (f) (rk key (10)))) = V1 at B1 B2 B3 B5 ⊢
    clear hb2 hs2
    have H1 := hide B1
    have H2 := hide B2
    have H3 := hide B3
    have H5 := hide B5
    clear B1 B2 B3 B5
    have GL := xrs_lt (f) (rk key (10)) GL (hRK _)
    go_upto_region 6 with fail
    refine wp_region_list ?_
    refine wpList_load_mid rfl 45 (.tmp 3) rfl w.heap.size 0 rfl (us 16 (xrs (f) (rk key (10)))) _ (unhide H1).range hu rfl (unhide HI _) ?_
    have hsh := hide (fun V => shifted3_any (xrs (f) (rk key (10))) V)
    have hpu := hide (fun V (h : Ar V tb 0 256 back) => putb_any tb (xrs (f) (rk key (10))) GL V h)
    have hlm : (us 16 (ubs (xrs (f) (rk key (10))))).length = 16 := us_length _ _
    go_wp2_with (first
      | (go_at_call 37; with_reducible refine (unhide hsh _).mono ?_; rintro e w4 ⟨rfl, b4⟩)
      | (go_at_call 36; with_reducible refine (unhide hpu _ ((unhide H5).below b4 (unhide H5).lt)).mono ?_; rintro e w2 ⟨rfl, b5⟩))
    have hb2 := b4.trans (b5.mono b4.size)
    have C1 := (unhide H1).below hb2 (unhide H1).lt
    rw [C1.cellsPut]
    clear hsh hpu b4 b5
    have hs2 := hb2.size
    have B1 := C1.puts (g := ubs (xrs (f) (rk key (10))))
    have B2 := ((unhide H2).below hb2 (unhide H2).lt).others (b' := w.heap.size) (o' := 0) (vs := us 16 (ubs (xrs (f) (rk key (10))))) (Or.inl (by omega))
    have B5 := ((unhide H5).below hb2 (unhide H5).lt).others (b' := w.heap.size) (o' := 0) (vs := us 16 (ubs (xrs (f) (rk key (10))))) (Or.inl (by omega))
    have B3 := Go.Proofs.Ytldlhdohkghikaa.below_setCells (b := w.heap.size) (Nat.le_refl _) (us 16 (ubs (xrs (f) (rk key (10))))) 0 _ ((unhide H3).trans (hb2.mono (unhide H3).size))
    clear H1 H2 H3 H5 C1 hlm
    generalize w2.setCells w.heap.size 0 (us 16 (ubs (xrs (f) (rk key (10))))) = V1 at B1 B2 B3 B5 ⊢
    clear hb2 hs2
    have H1 := hide B1
    have H2 := hide B2
    have H3 := hide B3
    have H5 := hide B5
    clear B1 B2 B3 B5
    have H1 : Hid (Ar V1 w.heap.size 0 16 (bw (rk key) f (0 + 1))) := by
      rw [bw_first]
      exact H1
    go_wp2_with fail
    go_step3
    exact ⟨rfl, 1, 9, tb, by omega, by omega, by omega, htb, ⟨_, _, _, _, _, _, _, _, _, _, _, _, _, _, _, _, _, _, _, _, _, _, _, _, _, _, _, _, _, _, _, _, rfl, rfl⟩, unhide H1, unhide H2, unhide H5, unhide H3⟩
  · rintro a' V1 ⟨m, n, tb, hmn, hm1, hn1, htb, ⟨u6, u7, u8, u9, u10, u11, u12, u13, u14, u15, u16, u17, u18, u19, u20, u21, u22, u23, u24, u25, u26, u27, u28, u29, u30, u31, u32, u33, u34, u35, u36, u37, rfl, rfl⟩, A1, A2, A5, AB⟩
    have GL := unhide HBW m
    have H1 := hide A1
    have H2 := hide A2
    have H3 := hide AB
    have H5 := hide A5
    clear A1 A2 AB A5
    have n1 : (0 : Int) ≤ (n : Int) ∧ (n : Int) < 11 := by omega
    have n2 : (n : Int) < 10 := by omega
    go_wp2_with fail
    have A1 := unhide H1
    have A2 := unhide H2
    have AB := unhide H3
    have A5 := unhide H5
    clear H1 H2 H3 H5
    have kk : Ar V1 cb (n * 16) 16 (rk key (n)) := ck_keys ((unhide HC).below AB hcb) (n) (by omega)
    have hxo := hide (fun V => xored_any (bw (rk key) f m) (rk key (n)) GL (hRK _) V)
    have R0 := hide kk.drew.range
    have R1 := hide A1.drew.range
    have KB := hide (fun (V : World) (h : Below V1.drew.heap.size V1.drew V) => (kk.drew.below h kk.lt).range)
    have KT := hide (fun (V : World) (h : Below V1.drew.heap.size V1.drew V) => (A1.drew.below h A1.lt).there)
    have KS := hide (fun (V : World) (h : Below V1.drew.heap.size V1.drew V) => ((kk.drew.below h kk.lt).others (b' := w.heap.size) (o' := 0) (vs := us 16 (xrs (bw (rk key) f m) (rk key (n)))) (Or.inl (by omega))).range)
    refine wp_region_held_drew (S := fun V => V.rangeAt cb (n * 16) (us 16 (rk key (n)))) (by kernel_rfl) (unhide R0) (fun hHeld => ?_)
    refine wpAnyH_take (i := 1) (v := .pointer (some ⟨cb, 0, none⟩)) rfl (by kernel_rfl) (by kernel_rfl) (by kernel_rfl) (fun _ _ _ h => h) (Or.inl ⟨by rfl, ?_⟩) hHeld ?_
    · intro V hSw; go_simp
    try simp only [Act.put, List.getElem_toArray, List.getElem_cons_succ, List.getElem_cons_zero, List.setIfInBounds_toArray, List.set_cons_zero, List.set_cons_succ]
    refine wpAnyH_take (i := 2) (v := .int .i64 (n : Int)) rfl (by kernel_rfl) (by kernel_rfl) (by kernel_rfl) (fun _ _ _ h => h) (Or.inl ⟨by rfl, ?_⟩) hHeld ?_
    · intro V hSw; go_simp
    try simp only [Act.put, List.getElem_toArray, List.getElem_cons_succ, List.getElem_cons_zero, List.setIfInBounds_toArray, List.set_cons_zero, List.set_cons_succ]
    refine wpAnyH_take (i := 3) (v := .pointer (some ⟨cb, 0, none⟩)) rfl (by kernel_rfl) (by kernel_rfl) (by kernel_rfl) (fun _ _ _ h => h) (Or.inl ⟨by rfl, ?_⟩) hHeld ?_
    · intro V hSw; go_simp
    try simp only [Act.put, List.getElem_toArray, List.getElem_cons_succ, List.getElem_cons_zero, List.setIfInBounds_toArray, List.set_cons_zero, List.set_cons_succ]
    refine wpAnyH_take (i := 4) (v := .pointer (some ⟨cb, 0, none⟩)) rfl (by kernel_rfl) (by kernel_rfl) (by kernel_rfl) (fun _ _ _ h => h) (Or.inl ⟨by rfl, ?_⟩) hHeld ?_
    · intro V hSw; go_simp
    try simp only [Act.put, List.getElem_toArray, List.getElem_cons_succ, List.getElem_cons_zero, List.setIfInBounds_toArray, List.set_cons_zero, List.set_cons_succ]
    refine wpAnyH_take (i := 5) (v := .pointer (some ⟨cb, n * 16, none⟩)) rfl (by kernel_rfl) (by kernel_rfl) (by kernel_rfl) (fun _ _ _ h => h) (Or.inl ⟨by rfl, ?_⟩) hHeld ?_
    · intro V hSw; go_simp
    try simp only [Act.put, List.getElem_toArray, List.getElem_cons_succ, List.getElem_cons_zero, List.setIfInBounds_toArray, List.set_cons_zero, List.set_cons_succ]
    refine wpAnyH_take (i := 6) (v := .agg (us 16 (rk key (n))).toArray) rfl (by kernel_rfl) (by kernel_rfl) (by kernel_rfl) (fun _ _ _ h => h) (yieldsIf_load_mid (by rfl) 45 (.tmp 17) rfl (cb) (n * 16) rfl (us 16 (rk key (n))) _ (fun V h => h) hu rfl (unhide HI _)) hHeld ?_
    try simp only [Act.put, List.getElem_toArray, List.getElem_cons_succ, List.getElem_cons_zero, List.setIfInBounds_toArray, List.set_cons_zero, List.set_cons_succ]
    refine wpAnyH_ready (rs := [0]) (by kernel_rfl) (by simp) ?_
    refine AllReadyH.cons rfl (fun K hK => ?_) AllReadyH.nil
    rw [if_pos (by rfl)]
    refine wp_load_mid 45 (.tmp 3) rfl w.heap.size 0 rfl (us 16 (bw (rk key) f m)) _ (unhide R1) hu rfl (unhide HI _) ?_
    refine hK.out _ _ (hHeld) (fun hHeld => ?_)
    clear hK K
    try simp only [Act.put, List.getElem_toArray, List.getElem_cons_zero, List.setIfInBounds_toArray, List.set_cons_zero, List.set_cons_succ]
    refine wpAnyH_ready (rs := [7]) (by kernel_rfl) (by simp) ?_
    refine AllReadyH.cons rfl (fun K hK => ?_) AllReadyH.nil
    go_simp
    go_at_call 35
    with_reducible refine (unhide hxo _).mono ?_
    rintro e w2 ⟨rfl, hb2⟩
    refine hK.out _ _ (unhide KB _ hb2) (fun hHeld => ?_)
    clear hK K
    try simp only [Act.put, List.getElem_toArray, List.getElem_cons_succ, List.getElem_cons_zero, List.setIfInBounds_toArray, List.set_cons_zero, List.set_cons_succ]
    refine wpAnyH_ready (rs := [8]) (by kernel_rfl) (by simp) ?_
    refine AllReadyH.cons rfl (fun K hK => ?_) AllReadyH.nil
    rw [if_pos (by rfl)]
    refine wp_store_mid 45 (.tmp 3) (.tmp 19) rfl (w.heap.size) 0 (us 16 (xrs (bw (rk key) f m) (rk key (n)))).toArray rfl rfl (by rw [us_size]; exact unhide KT _ hb2) (by rw [us_size]; exact info_bl) (us_one _ _) ?_
    refine hK.out _ _ (unhide KS _ hb2) (fun hHeld => ?_)
    clear hK K
    try simp only [Act.put, List.getElem_toArray, List.getElem_cons_succ, List.getElem_cons_zero]
    refine wpAnyH_done (by kernel_rfl) ?_ _
    have hs2 := hb2.size
    rw [World.size_drew] at hs2
    have B1 := (A1.drew.below hb2 A1.lt).puts (g := xrs (bw (rk key) f m) (rk key (n)))
    have B2 := (A2.drew.below hb2 A2.lt).others (b' := w.heap.size) (o' := 0) (vs := us 16 (xrs (bw (rk key) f m) (rk key (n)))) (Or.inl (by omega))
    have B5 := (A5.drew.below hb2 A5.lt).others (b' := w.heap.size) (o' := 0) (vs := us 16 (xrs (bw (rk key) f m) (rk key (n)))) (Or.inl (by omega))
    have B3 := Go.Proofs.Ytldlhdohkghikaa.below_setCells (b := w.heap.size) (Nat.le_refl _) (us 16 (xrs (bw (rk key) f m) (rk key (n)))) 0 _ (AB.drew.trans (hb2.mono (by rw [World.size_drew]; exact AB.size)))
    clear A1 A2 A5 AB hHeld
    generalize w2.setCells w.heap.size 0 (us 16 (xrs (bw (rk key) f m) (rk key (n)))) = V1 at B1 B2 B3 B5 ⊢
    clear hb2 hs2
    have H1 := hide B1
    have H2 := hide B2
    have H3 := hide B3
    have H5 := hide B5
    clear B1 B2 B3 B5
    have GL := xrs_lt (bw (rk key) f m) (rk key (n)) GL (hRK _)
    go_upto_region 5 with fail
    refine wp_region_list ?_
    refine wpList_load_mid rfl 45 (.tmp 3) rfl w.heap.size 0 rfl (us 16 (xrs (bw (rk key) f m) (rk key (n)))) _ (unhide H1).range hu rfl (unhide HI _) ?_
    have hmi := hide (fun V => unmixed_any (xrs (bw (rk key) f m) (rk key (n))) GL V)
    have hlm : (us 16 (mx3 (xrs (bw (rk key) f m) (rk key (n))))).length = 16 := us_length _ _
    go_wp2_with (go_at_call 43; with_reducible refine (unhide hmi _).mono ?_; rintro e w2 ⟨rfl, hb2⟩)
    have C1 := (unhide H1).below hb2 (unhide H1).lt
    rw [C1.cellsPut]
    clear hmi
    have hs2 := hb2.size
    have B1 := C1.puts (g := mx3 (xrs (bw (rk key) f m) (rk key (n))))
    have B2 := ((unhide H2).below hb2 (unhide H2).lt).others (b' := w.heap.size) (o' := 0) (vs := us 16 (mx3 (xrs (bw (rk key) f m) (rk key (n))))) (Or.inl (by omega))
    have B5 := ((unhide H5).below hb2 (unhide H5).lt).others (b' := w.heap.size) (o' := 0) (vs := us 16 (mx3 (xrs (bw (rk key) f m) (rk key (n))))) (Or.inl (by omega))
    have B3 := Go.Proofs.Ytldlhdohkghikaa.below_setCells (b := w.heap.size) (Nat.le_refl _) (us 16 (mx3 (xrs (bw (rk key) f m) (rk key (n))))) 0 _ ((unhide H3).trans (hb2.mono (unhide H3).size))
    clear H1 H2 H3 H5 C1 hlm
    generalize w2.setCells w.heap.size 0 (us 16 (mx3 (xrs (bw (rk key) f m) (rk key (n))))) = V1 at B1 B2 B3 B5 ⊢
    clear hb2 hs2
    have H1 := hide B1
    have H2 := hide B2
    have H3 := hide B3
    have H5 := hide B5
    clear B1 B2 B3 B5
    have GL := mx3_lt _ GL
    go_upto_region 6 with fail
    refine wp_region_list ?_
    refine wpList_load_mid rfl 45 (.tmp 3) rfl w.heap.size 0 rfl (us 16 (mx3 (xrs (bw (rk key) f m) (rk key (n))))) _ (unhide H1).range hu rfl (unhide HI _) ?_
    have hsh := hide (fun V => shifted3_any (mx3 (xrs (bw (rk key) f m) (rk key (n)))) V)
    have hpu := hide (fun V (h : Ar V tb 0 256 back) => putb_any tb (mx3 (xrs (bw (rk key) f m) (rk key (n)))) GL V h)
    have hlm : (us 16 (ubs (mx3 (xrs (bw (rk key) f m) (rk key (n)))))).length = 16 := us_length _ _
    go_wp2_with (first
      | (go_at_call 37; with_reducible refine (unhide hsh _).mono ?_; rintro e w4 ⟨rfl, b4⟩)
      | (go_at_call 36; with_reducible refine (unhide hpu _ ((unhide H5).below b4 (unhide H5).lt)).mono ?_; rintro e w2 ⟨rfl, b5⟩))
    have hb2 := b4.trans (b5.mono b4.size)
    have C1 := (unhide H1).below hb2 (unhide H1).lt
    rw [C1.cellsPut]
    clear hsh hpu b4 b5
    have hs2 := hb2.size
    have B1 := C1.puts (g := ubs (mx3 (xrs (bw (rk key) f m) (rk key (n)))))
    have B2 := ((unhide H2).below hb2 (unhide H2).lt).others (b' := w.heap.size) (o' := 0) (vs := us 16 (ubs (mx3 (xrs (bw (rk key) f m) (rk key (n)))))) (Or.inl (by omega))
    have B5 := ((unhide H5).below hb2 (unhide H5).lt).others (b' := w.heap.size) (o' := 0) (vs := us 16 (ubs (mx3 (xrs (bw (rk key) f m) (rk key (n)))))) (Or.inl (by omega))
    have B3 := Go.Proofs.Ytldlhdohkghikaa.below_setCells (b := w.heap.size) (Nat.le_refl _) (us 16 (ubs (mx3 (xrs (bw (rk key) f m) (rk key (n)))))) 0 _ ((unhide H3).trans (hb2.mono (unhide H3).size))
    clear H1 H2 H3 H5 C1 hlm
    generalize w2.setCells w.heap.size 0 (us 16 (ubs (mx3 (xrs (bw (rk key) f m) (rk key (n)))))) = V1 at B1 B2 B3 B5 ⊢
    clear hb2 hs2
    have H1 := hide B1
    have H2 := hide B2
    have H3 := hide B3
    have H5 := hide B5
    clear B1 B2 B3 B5
    have H1 : Hid (Ar V1 w.heap.size 0 16 (bw (rk key) f (m + 1))) := by
      rw [bw_next _ _ m n hmn hm1]
      exact H1
    by_cases hl : 1 < n
    · go_wp2_with fail
      go_step3
      refine ⟨rfl, ⟨m + 1, n - 1, tb, by omega, by omega, by omega, htb, ⟨_, _, _, _, _, _, _, _, _, _, _, _, _, _, _, _, _, _, _, _, _, _, _, _, _, _, _, _, _, _, _, _, rfl, by go_num⟩, unhide H1, unhide H2, unhide H5, unhide H3⟩, ?_⟩
      simp [intOf]; omega
    · obtain rfl : n = 1 := by omega
      obtain rfl : m = 9 := by omega
      have GL := unhide HBW 10
      go_wp2_with fail
      have A1 := unhide H1
      have A2 := unhide H2
      have AB := unhide H3
      have A5 := unhide H5
      clear H1 H2 H3 H5
      have kk : Ar V1 cb (0) 16 (rk key (0)) := ck_keys ((unhide HC).below AB hcb) (0) (by omega)
      have hxo := hide (fun V => xored_any (bw (rk key) f 10) (rk key (0)) GL (hRK _) V)
      have R0 := hide kk.drew.range
      have R1 := hide A1.drew.range
      have KB := hide (fun (V : World) (h : Below V1.drew.heap.size V1.drew V) => (kk.drew.below h kk.lt).range)
      have KT := hide (fun (V : World) (h : Below V1.drew.heap.size V1.drew V) => (A2.drew.below h A2.lt).there)
      have KS := hide (fun (V : World) (h : Below V1.drew.heap.size V1.drew V) => ((kk.drew.below h kk.lt).others (b' := w.heap.size + 1) (o' := 0) (vs := us 16 (xrs (bw (rk key) f 10) (rk key (0)))) (Or.inl (by omega))).range)
      refine wp_region_held_drew (S := fun V => V.rangeAt cb (0) (us 16 (rk key (0)))) (by kernel_rfl) (unhide R0) (fun hHeld => ?_)
      refine wpAnyH_take (i := 1) (v := .pointer (some ⟨cb, 0, none⟩)) rfl (by kernel_rfl) (by kernel_rfl) (by kernel_rfl) (fun _ _ _ h => h) (Or.inl ⟨by rfl, ?_⟩) hHeld ?_
      · intro V hSw; go_simp
      try simp only [Act.put, List.getElem_toArray, List.getElem_cons_succ, List.getElem_cons_zero, List.setIfInBounds_toArray, List.set_cons_zero, List.set_cons_succ]
      refine wpAnyH_take (i := 2) (v := .pointer (some ⟨cb, 0, none⟩)) rfl (by kernel_rfl) (by kernel_rfl) (by kernel_rfl) (fun _ _ _ h => h) (Or.inl ⟨by rfl, ?_⟩) hHeld ?_
      · intro V hSw; go_simp
      try simp only [Act.put, List.getElem_toArray, List.getElem_cons_succ, List.getElem_cons_zero, List.setIfInBounds_toArray, List.set_cons_zero, List.set_cons_succ]
      refine wpAnyH_take (i := 3) (v := .pointer (some ⟨cb, 0, none⟩)) rfl (by kernel_rfl) (by kernel_rfl) (by kernel_rfl) (fun _ _ _ h => h) (Or.inl ⟨by rfl, ?_⟩) hHeld ?_
      · intro V hSw; go_simp
      try simp only [Act.put, List.getElem_toArray, List.getElem_cons_succ, List.getElem_cons_zero, List.setIfInBounds_toArray, List.set_cons_zero, List.set_cons_succ]
      refine wpAnyH_take (i := 4) (v := .pointer (some ⟨cb, 0, none⟩)) rfl (by kernel_rfl) (by kernel_rfl) (by kernel_rfl) (fun _ _ _ h => h) (Or.inl ⟨by rfl, ?_⟩) hHeld ?_
      · intro V hSw; go_simp
      try simp only [Act.put, List.getElem_toArray, List.getElem_cons_succ, List.getElem_cons_zero, List.setIfInBounds_toArray, List.set_cons_zero, List.set_cons_succ]
      refine wpAnyH_take (i := 5) (v := .agg (us 16 (rk key (0))).toArray) rfl (by kernel_rfl) (by kernel_rfl) (by kernel_rfl) (fun _ _ _ h => h) (yieldsIf_load_mid (by rfl) 45 (.tmp 35) rfl (cb) (0) rfl (us 16 (rk key (0))) _ (fun V h => h) hu rfl (unhide HI _)) hHeld ?_
      try simp only [Act.put, List.getElem_toArray, List.getElem_cons_succ, List.getElem_cons_zero, List.setIfInBounds_toArray, List.set_cons_zero, List.set_cons_succ]
      refine wpAnyH_ready (rs := [0]) (by kernel_rfl) (by simp) ?_
      refine AllReadyH.cons rfl (fun K hK => ?_) AllReadyH.nil
      rw [if_pos (by rfl)]
      refine wp_load_mid 45 (.tmp 3) rfl w.heap.size 0 rfl (us 16 (bw (rk key) f 10)) _ (unhide R1) hu rfl (unhide HI _) ?_
      refine hK.out _ _ (hHeld) (fun hHeld => ?_)
      clear hK K
      try simp only [Act.put, List.getElem_toArray, List.getElem_cons_zero, List.setIfInBounds_toArray, List.set_cons_zero, List.set_cons_succ]
      refine wpAnyH_ready (rs := [6]) (by kernel_rfl) (by simp) ?_
      refine AllReadyH.cons rfl (fun K hK => ?_) AllReadyH.nil
      go_simp
      go_at_call 35
      with_reducible refine (unhide hxo _).mono ?_
      rintro e w2 ⟨rfl, hb2⟩
      refine hK.out _ _ (unhide KB _ hb2) (fun hHeld => ?_)
      clear hK K
      try simp only [Act.put, List.getElem_toArray, List.getElem_cons_succ, List.getElem_cons_zero, List.setIfInBounds_toArray, List.set_cons_zero, List.set_cons_succ]
      refine wpAnyH_ready (rs := [7]) (by kernel_rfl) (by simp) ?_
      refine AllReadyH.cons rfl (fun K hK => ?_) AllReadyH.nil
      rw [if_pos (by rfl)]
      refine wp_store_mid 45 (.tmp 4) (.tmp 37) rfl (w.heap.size + 1) 0 (us 16 (xrs (bw (rk key) f 10) (rk key (0)))).toArray rfl rfl (by rw [us_size]; exact unhide KT _ hb2) (by rw [us_size]; exact info_bl) (us_one _ _) ?_
      refine hK.out _ _ (unhide KS _ hb2) (fun hHeld => ?_)
      clear hK K
      try simp only [Act.put, List.getElem_toArray, List.getElem_cons_succ, List.getElem_cons_zero]
      refine wpAnyH_done (by kernel_rfl) ?_ _
      have HH := hide ((A2.drew.below hb2 A2.lt).puts (g := xrs (bw (rk key) f 10) (rk key (0))))
      have H3 := hide (AB.drew.trans (hb2.mono (by rw [World.size_drew]; exact AB.size)))
      clear A1 A2 A5 AB hHeld hb2
      go_wp2_with fail
      simp only [Exit.jump]
      refine ret_arr 4 (w.heap.size + 1) 16 45 _ (xrs (bw (rk key) f 10) (rk key 0)) ?r1 ?r2 ?r3 (unhide HH) Try.underlying45 rfl info_bl ?_
      case r1 => rfl
      case r2 => rfl
      case r3 => rfl
      exact ⟨rfl, Go.Proofs.Ytldlhdohkghikaa.below_setCells (by omega) _ _ _ (unhide H3)⟩
end Go.Proofs.Ytldlhdohkghikaa
