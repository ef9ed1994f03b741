/-
  Contracts: the cipher, forward.
-/
import Derived.Test.YtkpodgeinanceaaAbm
import Derived.Test.YtkpodgeinanceaaAbn
import Derived.ScopeJumps
import Derived.WalkMore
namespace Go.Proofs.Ytkpodgeinanceaa
open Go.ChangeShapes Go.WideShapes Go.ChangeAt Go.RowKit
set_option linter.unusedVariables false
set_option maxRecDepth 100000

/-- put through SubByte -/
def pts (f : Nat → Nat) (i : Nat) : Nat := sub (f i)
/-- put through SubByte and shifted -/
def sbs (f : Nat → Nat) (i : Nat) : Nat := pts f ((i + 4 * (i % 4)) % 16)
/-- two blocks xored -/
def xrs (f g : Nat → Nat) (i : Nat) : Nat := f i ^^^ g i
/-- one round -/
def rnd (K : Nat → Nat → Nat) (n : Nat) (f : Nat → Nat) : Nat → Nat := xrs (if n < 10 then mxb (sbs f) else sbs f) (K n)
/-- n rounds -/
def fw (K : Nat → Nat → Nat) (f : Nat → Nat) : Nat → Nat → Nat
  | 0 => xrs f (K 0)
  | n + 1 => rnd K (n + 1) (fw K f n)
theorem pts_lt (f : Nat → Nat) (h : ∀ i, f i < 256) (i : Nat) : pts f i < 256 := sub_lt _ (h i)
theorem sbs_lt (f : Nat → Nat) (h : ∀ i, f i < 256) (i : Nat) : sbs f i < 256 := pts_lt f h _
theorem xrs_lt (f g : Nat → Nat) (hf : ∀ i, f i < 256) (hg : ∀ i, g i < 256) (i : Nat) : xrs f g i < 256 := xor_lt _ _ (hf i) (hg i)
theorem rnd_lt (K : Nat → Nat → Nat) (n : Nat) (f : Nat → Nat) (hK : ∀ i, K n i < 256) (hf : ∀ i, f i < 256) (i : Nat) : rnd K n f i < 256 := by
  unfold rnd
  split
  · exact xrs_lt _ _ (mxb_lt _ (sbs_lt f hf)) hK i
  · exact xrs_lt _ _ (sbs_lt f hf) hK i
theorem fw_lt (K : Nat → Nat → Nat) (f : Nat → Nat) (hK : ∀ n i, K n i < 256) (hf : ∀ i, f i < 256) : ∀ n i, fw K f n i < 256
  | 0, i => xrs_lt _ _ hf (hK 0) i
  | n + 1, i => rnd_lt K (n + 1) _ (hK _) (fw_lt K f hK hf n) i
theorem fw_mid (K : Nat → Nat → Nat) (f : Nat → Nat) (m : Nat) (h : m < 9) : fw K f (m + 1) = xrs (mxb (sbs (fw K f m))) (K (m + 1)) := by
  rw [fw, rnd, if_pos (by omega)]
theorem fw_last (K : Nat → Nat → Nat) (f : Nat → Nat) : fw K f (9 + 1) = xrs (sbs (fw K f 9)) (K (9 + 1)) := by
  rw [fw, rnd, if_neg (by omega)]
theorem ck_keys {w : World} {cb : Nat} {key : Nat → Nat} (h : Ar w cb 0 432 (ck key 10)) (n : Nat) (hn : n ≤ 10) : Ar w cb (n * 16) 16 (rk key n) := by
  have := h.part (n * 16) 16 (by omega)
  rw [Nat.zero_add] at this
  refine this.congr (fun i hi => ?_)
  unfold ck
  rw [if_pos (by omega), show (n * 16 + i) / 16 = n by omega, show (n * 16 + i) % 16 = i by omega]
theorem ck_tab {w : World} {cb : Nat} {key : Nat → Nat} (h : Ar w cb 0 432 (ck key 10)) : Ar w cb 176 256 sub := by
  have := h.part 176 256 (by omega)
  rw [Nat.zero_add] at this
  exact this.congr (ck_box key 10 (by omega))
/-- what a region that reads one block and one key may lean on -/
abbrev Sx (hb cb off : Nat) (g r v : List Value) (W : World) : Prop := W.rangeAt hb 0 g ∧ W.rangeAt cb off r ∧ W.there hb 0 v.length
theorem sx_mk {W : World} {hb cb off : Nat} {g r v : Nat → Nat} (h1 : Ar W hb 0 16 g) (h2 : Ar W cb off 16 r) : Sx hb cb off (us 16 g) (us 16 r) (us 16 v) W := ⟨h1.range, h2.range, by rw [us_length]; exact h1.there⟩

theorem xored_any (a b : Nat → Nat) (ha : ∀ i, a i < 256) (hb : ∀ i, b i < 256) (W : World) :
    Calls Try.prog 71 #[.agg (us 16 a).toArray, .agg (us 16 b).toArray] W fun e w' => e = .returned (.agg (us 16 (xrs a b)).toArray) ∧ Below W.heap.size W w' := implXored a b ha hb W
theorem put_any (cb : Nat) (a : Nat → Nat) (ha : ∀ i, a i < 256) (W : World) (hT : Ar W cb 176 256 sub) :
    Calls Try.prog 89 #[.agg (us 16 a).toArray, .pointer (some ⟨cb, 176, none⟩)] W fun e w' => e = .returned (.agg (us 16 (pts a)).toArray) ∧ Below W.heap.size W w' := implPut a sub ha cb 176 W hT
theorem shifted_any (a : Nat → Nat) (W : World) :
    Calls Try.prog 90 #[.agg (us 16 (pts a)).toArray, .int .i64 1] W fun e w' => e = .returned (.agg (us 16 (sbs a)).toArray) ∧ Below W.heap.size W w' := implShifted1 (pts a) W


set_option maxRecDepth 100000 in
set_option maxHeartbeats 1000000 in
theorem implForward (cb : Nat) (key f : Nat → Nat) (hk : ∀ i, key i < 256) (hf : ∀ i, f i < 256) (w : World) (hC : Ar w cb 0 432 (ck key 10)) :
    Calls Try.prog 66 #[.pointer (some ⟨cb, 0, none⟩), .agg (us 16 f).toArray] w fun e w' => e = .returned (.agg (us 16 (fw (rk key) f 10)).toArray) ∧ Below w.heap.size w w' := by
  have HC := hide hC
  have hcb := hC.lt
  have hRK := rk_lt key hk
  have HFW := hide (fw_lt (rk key) f hRK hf)
  have hu := Try.underlying84
  have hi : ∀ g : Nat → Nat, (Try.prog.info? 84).map (·.size) = some (us 16 g).length := fun g => by rw [us_length]; exact info_bl
  have hone : ∀ g : Nat → Nat, ∀ v ∈ us 16 g, v.oneCell' = true := us_oneL 16
  have HI := hide hi
  have HONE := hide hone
  clear hC hi hone
  go_enter Try.func66, Try.ntmps66
  go_upto_region 1 with fail
  have a1 := (Ar.new w 16 f 84).alloc (.cells #[.int .u8 0, .int .u8 0, .int .u8 0, .int .u8 0, .int .u8 0, .int .u8 0, .int .u8 0, .int .u8 0, .int .u8 0, .int .u8 0, .int .u8 0, .int .u8 0, .int .u8 0, .int .u8 0, .int .u8 0, .int .u8 0] 84)
  have a2 := z16_new (w.alloc (.cells (us 16 f).toArray 84)) 84
  rw [World.size_alloc] at a2
  have a3 := ((Below.refl w.heap.size w).alloc (Nat.le_refl _) (.cells (us 16 f).toArray 84)).alloc (by simp) (.cells #[.int .u8 0, .int .u8 0, .int .u8 0, .int .u8 0, .int .u8 0, .int .u8 0, .int .u8 0, .int .u8 0, .int .u8 0, .int .u8 0, .int .u8 0, .int .u8 0, .int .u8 0, .int .u8 0, .int .u8 0, .int .u8 0] 84)
  have a4 : ((w.alloc (.cells (us 16 f).toArray 84)).alloc (.cells #[.int .u8 0, .int .u8 0, .int .u8 0, .int .u8 0, .int .u8 0, .int .u8 0, .int .u8 0, .int .u8 0, .int .u8 0, .int .u8 0, .int .u8 0, .int .u8 0, .int .u8 0, .int .u8 0, .int .u8 0, .int .u8 0] 84)).heap.size = w.heap.size + 1 + 1 := by simp
  generalize ((w.alloc (.cells (us 16 f).toArray 84)).alloc (.cells #[.int .u8 0, .int .u8 0, .int .u8 0, .int .u8 0, .int .u8 0, .int .u8 0, .int .u8 0, .int .u8 0, .int .u8 0, .int .u8 0, .int .u8 0, .int .u8 0, .int .u8 0, .int .u8 0, .int .u8 0, .int .u8 0] 84)) = W at a1 a2 a3 a4 ⊢
  refine wp_scope_jumps 0 (fun a' w' => ∃ m : Nat, 1 ≤ m ∧ m ≤ 9 ∧ (∃ (u6 u7 u8 u9 u10 u11 u12 u13 u14 u15 u16 u17 u18 u19 u20 u21 u22 u23 u24 u25 u26 u27 u28 u29 u30 u31 u32 u33 u34 u35 : Value), a' = { tmps := #[.pointer (some ⟨cb, 0, none⟩), .agg (us 16 f).toArray, undef, .pointer (some ⟨w.heap.size, 0, none⟩), .pointer (some ⟨w.heap.size + 1, 0, none⟩), .int .i64 ((m : Int) + 1), u6, u7, u8, u9, u10, u11, u12, u13, u14, u15, u16, u17, u18, u19, u20, u21, u22, u23, u24, u25, u26, u27, u28, u29, u30, u31, u32, u33, u34, u35], defers := [] }) ∧ Ar w' w.heap.size 0 16 (fw (rk key) f m) ∧ Ar w' (w.heap.size + 1) 0 16 (fun _ => 0) ∧ w.heap.size + 1 + 1 ≤ w'.heap.size ∧ Below w.heap.size w w') (fun a' _ => 11 - (intOf (a'.tmps.getD 5 undef)).toNat) rfl ?_ ?_
  · go_wp2_with fail
    have A1 := a1
    have A2 := a2
    have AB := a3
    have SZ : w.heap.size + 1 + 1 ≤ W.heap.size := by omega
    have GL := hf
    clear a1 a2 a3 a4
    have kk : Ar W cb (0) 16 (rk key (0)) := ck_keys ((unhide HC).below AB hcb) (0) (by omega)
    have hxo := hide (fun V => xored_any (f) (rk key (0)) GL (hRK _) V)
    have R0 := hide kk.drew.range
    have R1 := hide A1.drew.range
    have KB := hide (fun (V : World) (h : Below W.drew.heap.size W.drew V) => (kk.drew.below h kk.lt).range)
    have KT := hide (fun (V : World) (h : Below W.drew.heap.size W.drew V) => (A1.drew.below h A1.lt).there)
    have KS := hide (fun (V : World) (h : Below W.drew.heap.size W.drew V) => ((kk.drew.below h kk.lt).others (b' := w.heap.size) (o' := 0) (vs := us 16 (xrs (f) (rk key (0)))) (Or.inl (by omega))).range)
    refine wp_region_held_drew (S := fun V => V.rangeAt cb (0) (us 16 (rk key (0)))) (by kernel_rfl) (unhide R0) (fun hHeld => ?_)
    refine wpAnyH_take (i := 1) (v := .pointer (some ⟨cb, 0, none⟩)) rfl (by kernel_rfl) (by kernel_rfl) (by kernel_rfl) (fun _ _ _ h => h) (Or.inl ⟨by rfl, ?_⟩) hHeld ?_
    · intro V hSw; go_simp
    try simp only [Act.put, List.getElem_toArray, List.getElem_cons_succ, List.getElem_cons_zero, List.setIfInBounds_toArray, List.set_cons_zero, List.set_cons_succ]
    refine wpAnyH_take (i := 2) (v := .pointer (some ⟨cb, 0, none⟩)) rfl (by kernel_rfl) (by kernel_rfl) (by kernel_rfl) (fun _ _ _ h => h) (Or.inl ⟨by rfl, ?_⟩) hHeld ?_
    · intro V hSw; go_simp
    try simp only [Act.put, List.getElem_toArray, List.getElem_cons_succ, List.getElem_cons_zero, List.setIfInBounds_toArray, List.set_cons_zero, List.set_cons_succ]
    refine wpAnyH_take (i := 3) (v := .pointer (some ⟨cb, 0, none⟩)) rfl (by kernel_rfl) (by kernel_rfl) (by kernel_rfl) (fun _ _ _ h => h) (Or.inl ⟨by rfl, ?_⟩) hHeld ?_
    · intro V hSw; go_simp
    try simp only [Act.put, List.getElem_toArray, List.getElem_cons_succ, List.getElem_cons_zero, List.setIfInBounds_toArray, List.set_cons_zero, List.set_cons_succ]
    refine wpAnyH_take (i := 4) (v := .pointer (some ⟨cb, 0, none⟩)) rfl (by kernel_rfl) (by kernel_rfl) (by kernel_rfl) (fun _ _ _ h => h) (Or.inl ⟨by rfl, ?_⟩) hHeld ?_
    · intro V hSw; go_simp
    try simp only [Act.put, List.getElem_toArray, List.getElem_cons_succ, List.getElem_cons_zero, List.setIfInBounds_toArray, List.set_cons_zero, List.set_cons_succ]
    refine wpAnyH_take (i := 5) (v := .agg (us 16 (rk key (0))).toArray) rfl (by kernel_rfl) (by kernel_rfl) (by kernel_rfl) (fun _ _ _ h => h) (yieldsIf_load_mid (by rfl) 84 (.tmp 10) rfl (cb) (0) rfl (us 16 (rk key (0))) _ (fun V h => h) hu rfl (unhide HI _)) hHeld ?_
    try simp only [Act.put, List.getElem_toArray, List.getElem_cons_succ, List.getElem_cons_zero, List.setIfInBounds_toArray, List.set_cons_zero, List.set_cons_succ]
    refine wpAnyH_ready (rs := [0]) (by kernel_rfl) (by simp) ?_
    refine AllReadyH.cons rfl (fun K hK => ?_) AllReadyH.nil
    rw [if_pos (by rfl)]
    refine wp_load_mid 84 (.tmp 3) rfl w.heap.size 0 rfl (us 16 (f)) _ (unhide R1) hu rfl (unhide HI _) ?_
    refine hK.out _ _ (hHeld) (fun hHeld => ?_)
    clear hK K
    try simp only [Act.put, List.getElem_toArray, List.getElem_cons_zero, List.setIfInBounds_toArray, List.set_cons_zero, List.set_cons_succ]
    refine wpAnyH_ready (rs := [6]) (by kernel_rfl) (by simp) ?_
    refine AllReadyH.cons rfl (fun K hK => ?_) AllReadyH.nil
    go_simp
    go_at_call 71
    with_reducible refine (unhide hxo _).mono ?_
    rintro e w2 ⟨rfl, hb2⟩
    refine hK.out _ _ (unhide KB _ hb2) (fun hHeld => ?_)
    clear hK K
    try simp only [Act.put, List.getElem_toArray, List.getElem_cons_succ, List.getElem_cons_zero, List.setIfInBounds_toArray, List.set_cons_zero, List.set_cons_succ]
    refine wpAnyH_ready (rs := [7]) (by kernel_rfl) (by simp) ?_
    refine AllReadyH.cons rfl (fun K hK => ?_) AllReadyH.nil
    rw [if_pos (by rfl)]
    refine wp_store_mid 84 (.tmp 3) (.tmp 12) rfl w.heap.size 0 (us 16 (xrs (f) (rk key (0)))).toArray rfl rfl (by rw [us_size]; exact unhide KT _ hb2) (by rw [us_size]; exact info_bl) (us_one _ _) ?_
    refine hK.out _ _ (unhide KS _ hb2) (fun hHeld => ?_)
    clear hK K
    try simp only [Act.put, List.getElem_toArray, List.getElem_cons_succ, List.getElem_cons_zero]
    refine wpAnyH_done (by kernel_rfl) ?_ _
    have hs2 := hb2.size
    rw [World.size_drew] at hs2
    have B1 := (A1.drew.below hb2 A1.lt).puts (g := xrs (f) (rk key (0)))
    have B2 := (A2.drew.below hb2 A2.lt).others (b' := w.heap.size) (o' := 0) (vs := us 16 (xrs (f) (rk key (0)))) (Or.inl (by omega))
    have B3 := Go.Proofs.Ytkpodgeinanceaa.below_setCells (b := w.heap.size) (Nat.le_refl _) (us 16 (xrs (f) (rk key (0)))) 0 _ (AB.drew.trans (hb2.mono (by rw [World.size_drew]; omega)))
    have B4 : w.heap.size + 1 + 1 ≤ (w2.setCells w.heap.size 0 (us 16 (xrs (f) (rk key (0))))).heap.size := by rw [size_setCells]; omega
    clear A1 A2 AB SZ hHeld
    generalize w2.setCells w.heap.size 0 (us 16 (xrs (f) (rk key (0)))) = V1 at B1 B2 B3 B4 ⊢
    clear hb2 hs2
    have A1 := B1
    have A2 := B2
    have AB := B3
    have SZ := B4
    clear B1 B2 B3 B4
    have A1 : Ar V1 w.heap.size 0 16 (fw (rk key) f 0) := A1
    have GL := unhide HFW 0
    have H1 := hide A1
    have H2 := hide A2
    have H3 := hide AB
    clear A1 A2 AB
    go_wp2_with fail
    go_step3
    go_wp2_with fail
    have A1 := unhide H1
    have A2 := unhide H2
    have AB := unhide H3
    clear H1 H2 H3
    have kt : Ar V1 cb 176 256 sub := ck_tab ((unhide HC).below AB hcb)
    have hpu := hide (put_any cb (fw (rk key) f (0)) GL V1.drew kt.drew)
    have hsh := hide (fun V => shifted_any (fw (rk key) f (0)) V)
    have R1 := hide A1.drew.range
    have KT := hide (fun (V : World) (h : Below V1.drew.heap.size V1.drew V) => (A1.drew.below h A1.lt).there)
    refine wp_region_held_drew (S := fun _ => True) (by kernel_rfl) True.intro (fun hHeld => ?_)
    refine wpAnyH_take (i := 1) (v := .pointer (some ⟨cb, 0, none⟩)) rfl (by kernel_rfl) (by kernel_rfl) (by kernel_rfl) (fun _ _ _ h => h) (Or.inl ⟨by rfl, ?_⟩) hHeld ?_
    · intro V hSw; go_simp
    try simp only [Act.put, List.getElem_toArray, List.getElem_cons_succ, List.getElem_cons_zero, List.setIfInBounds_toArray, List.set_cons_zero, List.set_cons_succ]
    refine wpAnyH_take (i := 2) (v := .pointer (some ⟨cb, 0, none⟩)) rfl (by kernel_rfl) (by kernel_rfl) (by kernel_rfl) (fun _ _ _ h => h) (Or.inl ⟨by rfl, ?_⟩) hHeld ?_
    · intro V hSw; go_simp
    try simp only [Act.put, List.getElem_toArray, List.getElem_cons_succ, List.getElem_cons_zero, List.setIfInBounds_toArray, List.set_cons_zero, List.set_cons_succ]
    refine wpAnyH_take (i := 3) (v := .pointer (some ⟨cb, 176, none⟩)) rfl (by kernel_rfl) (by kernel_rfl) (by kernel_rfl) (fun _ _ _ h => h) (Or.inl ⟨by rfl, ?_⟩) hHeld ?_
    · intro V hSw; go_simp
    try simp only [Act.put, List.getElem_toArray, List.getElem_cons_succ, List.getElem_cons_zero, List.setIfInBounds_toArray, List.set_cons_zero, List.set_cons_succ]
    refine wpAnyH_ready (rs := [0]) (by kernel_rfl) (by simp) ?_
    refine AllReadyH.cons rfl (fun K hK => ?_) AllReadyH.nil
    rw [if_pos (by rfl)]
    refine wp_load_mid 84 (.tmp 3) rfl w.heap.size 0 rfl (us 16 (fw (rk key) f (0))) _ (unhide R1) hu rfl (unhide HI _) ?_
    refine hK.out _ _ (True.intro) (fun hHeld => ?_)
    clear hK K
    try simp only [Act.put, List.getElem_toArray, List.getElem_cons_zero, List.setIfInBounds_toArray, List.set_cons_zero, List.set_cons_succ]
    refine wpAnyH_ready (rs := [4]) (by kernel_rfl) (by simp) ?_
    refine AllReadyH.cons rfl (fun K hK => ?_) AllReadyH.nil
    go_simp
    go_at_call 89
    with_reducible refine (unhide hpu).mono ?_
    rintro e w4 ⟨rfl, hb4⟩
    refine hK.out _ _ (True.intro) (fun hHeld => ?_)
    clear hK K
    try simp only [Act.put, List.getElem_toArray, List.getElem_cons_succ, List.getElem_cons_zero, List.setIfInBounds_toArray, List.set_cons_zero, List.set_cons_succ]
    refine wpAnyH_ready (rs := [5]) (by kernel_rfl) (by simp) ?_
    refine AllReadyH.cons rfl (fun K hK => ?_) AllReadyH.nil
    go_simp
    go_at_call 90
    with_reducible refine (unhide hsh _).mono ?_
    rintro e w2 ⟨rfl, hb5⟩
    have hb2 : Below V1.drew.heap.size V1.drew w2 := hb4.trans (hb5.mono hb4.size)
    refine hK.out _ _ (True.intro) (fun hHeld => ?_)
    clear hK K
    try simp only [Act.put, List.getElem_toArray, List.getElem_cons_succ, List.getElem_cons_zero, List.setIfInBounds_toArray, List.set_cons_zero, List.set_cons_succ]
    refine wpAnyH_ready (rs := [6]) (by kernel_rfl) (by simp) ?_
    refine AllReadyH.cons rfl (fun K hK => ?_) AllReadyH.nil
    rw [if_pos (by rfl)]
    refine wp_store_mid 84 (.tmp 3) (.tmp 18) rfl w.heap.size 0 (us 16 (sbs (fw (rk key) f (0)))).toArray rfl rfl (by rw [us_size]; exact unhide KT _ hb2) (by rw [us_size]; exact info_bl) (us_one _ _) ?_
    refine hK.out _ _ (True.intro) (fun hHeld => ?_)
    clear hK K
    try simp only [Act.put, List.getElem_toArray, List.getElem_cons_succ, List.getElem_cons_zero]
    refine wpAnyH_done (by kernel_rfl) ?_ _
    clear hb4 hb5 kt
    have hs2 := hb2.size
    rw [World.size_drew] at hs2
    have B1 := (A1.drew.below hb2 A1.lt).puts (g := sbs (fw (rk key) f (0)))
    have B2 := (A2.drew.below hb2 A2.lt).others (b' := w.heap.size) (o' := 0) (vs := us 16 (sbs (fw (rk key) f (0)))) (Or.inl (by omega))
    have B3 := Go.Proofs.Ytkpodgeinanceaa.below_setCells (b := w.heap.size) (Nat.le_refl _) (us 16 (sbs (fw (rk key) f (0)))) 0 _ (AB.drew.trans (hb2.mono (by rw [World.size_drew]; omega)))
    have B4 : w.heap.size + 1 + 1 ≤ (w2.setCells w.heap.size 0 (us 16 (sbs (fw (rk key) f (0))))).heap.size := by rw [size_setCells]; omega
    clear A1 A2 AB SZ hHeld
    generalize w2.setCells w.heap.size 0 (us 16 (sbs (fw (rk key) f (0)))) = V1 at B1 B2 B3 B4 ⊢
    clear hb2 hs2
    have A1 := B1
    have A2 := B2
    have AB := B3
    have SZ := B4
    clear B1 B2 B3 B4
    have H1 := hide A1
    have H2 := hide A2
    have H3 := hide AB
    clear A1 A2 AB
    have GL := sbs_lt _ (unhide HFW (0))
    go_upto_region 5 with fail
    refine wp_region_list ?_
    refine wpList_load_mid rfl 84 (.tmp 3) rfl w.heap.size 0 rfl (us 16 (sbs (fw (rk key) f (0)))) _ (unhide H1).range hu rfl (unhide HI _) ?_
    have hmi := hide (fun V => implBmixed (sbs (fw (rk key) f (0))) GL V)
    have hlm : (us 16 (mxb (sbs (fw (rk key) f (0))))).length = 16 := us_length _ _
    go_wp2_with (go_at_call 91; with_reducible refine (unhide hmi _).mono ?_; rintro e w2 ⟨rfl, hb2⟩)
    have C1 := (unhide H1).below hb2 (unhide H1).lt
    rw [C1.cellsPut]
    have hs2 := hb2.size
    have B1 := C1.puts (g := mxb (sbs (fw (rk key) f (0))))
    have B2 := ((unhide H2).below hb2 (unhide H2).lt).others (b' := w.heap.size) (o' := 0) (vs := us 16 (mxb (sbs (fw (rk key) f (0))))) (Or.inl (by omega))
    have B3 := Go.Proofs.Ytkpodgeinanceaa.below_setCells (b := w.heap.size) (Nat.le_refl _) (us 16 (mxb (sbs (fw (rk key) f (0))))) 0 _ ((unhide H3).trans (hb2.mono (by omega)))
    have B4 : w.heap.size + 1 + 1 ≤ (w2.setCells w.heap.size 0 (us 16 (mxb (sbs (fw (rk key) f (0)))))).heap.size := by rw [size_setCells]; omega
    clear H1 H2 H3 SZ C1 hlm
    generalize w2.setCells w.heap.size 0 (us 16 (mxb (sbs (fw (rk key) f (0))))) = V1 at B1 B2 B3 B4 ⊢
    clear hb2 hs2
    have H1 := hide B1
    have H2 := hide B2
    have H3 := hide B3
    have SZ := B4
    clear B1 B2 B3 B4
    have GL := mxb_lt _ (sbs_lt _ (unhide HFW (0)))
    go_wp2_with fail
    have A1 := unhide H1
    have A2 := unhide H2
    have AB := unhide H3
    clear H1 H2 H3
    have kk : Ar V1 cb (16) 16 (rk key (1)) := ck_keys ((unhide HC).below AB hcb) (1) (by omega)
    have hxo := hide (fun V => xored_any (mxb (sbs (fw (rk key) f (0)))) (rk key (1)) GL (hRK _) V)
    have R0 := hide kk.drew.range
    have R1 := hide A1.drew.range
    have KB := hide (fun (V : World) (h : Below V1.drew.heap.size V1.drew V) => (kk.drew.below h kk.lt).range)
    have KT := hide (fun (V : World) (h : Below V1.drew.heap.size V1.drew V) => (A1.drew.below h A1.lt).there)
    have KS := hide (fun (V : World) (h : Below V1.drew.heap.size V1.drew V) => ((kk.drew.below h kk.lt).others (b' := w.heap.size) (o' := 0) (vs := us 16 (xrs (mxb (sbs (fw (rk key) f (0)))) (rk key (1)))) (Or.inl (by omega))).range)
    refine wp_region_held_drew (S := fun V => V.rangeAt cb (16) (us 16 (rk key (1)))) (by kernel_rfl) (unhide R0) (fun hHeld => ?_)
    refine wpAnyH_take (i := 1) (v := .pointer (some ⟨cb, 0, none⟩)) rfl (by kernel_rfl) (by kernel_rfl) (by kernel_rfl) (fun _ _ _ h => h) (Or.inl ⟨by rfl, ?_⟩) hHeld ?_
    · intro V hSw; go_simp
    try simp only [Act.put, List.getElem_toArray, List.getElem_cons_succ, List.getElem_cons_zero, List.setIfInBounds_toArray, List.set_cons_zero, List.set_cons_succ]
    refine wpAnyH_take (i := 2) (v := .int .i64 1) rfl (by kernel_rfl) (by kernel_rfl) (by kernel_rfl) (fun _ _ _ h => h) (Or.inl ⟨by rfl, ?_⟩) hHeld ?_
    · intro V hSw; go_simp
    try simp only [Act.put, List.getElem_toArray, List.getElem_cons_succ, List.getElem_cons_zero, List.setIfInBounds_toArray, List.set_cons_zero, List.set_cons_succ]
    refine wpAnyH_take (i := 3) (v := .pointer (some ⟨cb, 0, none⟩)) rfl (by kernel_rfl) (by kernel_rfl) (by kernel_rfl) (fun _ _ _ h => h) (Or.inl ⟨by rfl, ?_⟩) hHeld ?_
    · intro V hSw; go_simp
    try simp only [Act.put, List.getElem_toArray, List.getElem_cons_succ, List.getElem_cons_zero, List.setIfInBounds_toArray, List.set_cons_zero, List.set_cons_succ]
    refine wpAnyH_take (i := 4) (v := .pointer (some ⟨cb, 0, none⟩)) rfl (by kernel_rfl) (by kernel_rfl) (by kernel_rfl) (fun _ _ _ h => h) (Or.inl ⟨by rfl, ?_⟩) hHeld ?_
    · intro V hSw; go_simp
    try simp only [Act.put, List.getElem_toArray, List.getElem_cons_succ, List.getElem_cons_zero, List.setIfInBounds_toArray, List.set_cons_zero, List.set_cons_succ]
    refine wpAnyH_take (i := 5) (v := .pointer (some ⟨cb, 16, none⟩)) rfl (by kernel_rfl) (by kernel_rfl) (by kernel_rfl) (fun _ _ _ h => h) (Or.inl ⟨by rfl, ?_⟩) hHeld ?_
    · intro V hSw; go_simp
    try simp only [Act.put, List.getElem_toArray, List.getElem_cons_succ, List.getElem_cons_zero, List.setIfInBounds_toArray, List.set_cons_zero, List.set_cons_succ]
    refine wpAnyH_take (i := 6) (v := .agg (us 16 (rk key (1))).toArray) rfl (by kernel_rfl) (by kernel_rfl) (by kernel_rfl) (fun _ _ _ h => h) (yieldsIf_load_mid (by rfl) 84 (.tmp 28) rfl (cb) (16) rfl (us 16 (rk key (1))) _ (fun V h => h) hu rfl (unhide HI _)) hHeld ?_
    try simp only [Act.put, List.getElem_toArray, List.getElem_cons_succ, List.getElem_cons_zero, List.setIfInBounds_toArray, List.set_cons_zero, List.set_cons_succ]
    refine wpAnyH_ready (rs := [0]) (by kernel_rfl) (by simp) ?_
    refine AllReadyH.cons rfl (fun K hK => ?_) AllReadyH.nil
    rw [if_pos (by rfl)]
    refine wp_load_mid 84 (.tmp 3) rfl w.heap.size 0 rfl (us 16 (mxb (sbs (fw (rk key) f (0))))) _ (unhide R1) hu rfl (unhide HI _) ?_
    refine hK.out _ _ (hHeld) (fun hHeld => ?_)
    clear hK K
    try simp only [Act.put, List.getElem_toArray, List.getElem_cons_zero, List.setIfInBounds_toArray, List.set_cons_zero, List.set_cons_succ]
    refine wpAnyH_ready (rs := [7]) (by kernel_rfl) (by simp) ?_
    refine AllReadyH.cons rfl (fun K hK => ?_) AllReadyH.nil
    go_simp
    go_at_call 71
    with_reducible refine (unhide hxo _).mono ?_
    rintro e w2 ⟨rfl, hb2⟩
    refine hK.out _ _ (unhide KB _ hb2) (fun hHeld => ?_)
    clear hK K
    try simp only [Act.put, List.getElem_toArray, List.getElem_cons_succ, List.getElem_cons_zero, List.setIfInBounds_toArray, List.set_cons_zero, List.set_cons_succ]
    refine wpAnyH_ready (rs := [8]) (by kernel_rfl) (by simp) ?_
    refine AllReadyH.cons rfl (fun K hK => ?_) AllReadyH.nil
    rw [if_pos (by rfl)]
    refine wp_store_mid 84 (.tmp 3) (.tmp 30) rfl w.heap.size 0 (us 16 (xrs (mxb (sbs (fw (rk key) f (0)))) (rk key (1)))).toArray rfl rfl (by rw [us_size]; exact unhide KT _ hb2) (by rw [us_size]; exact info_bl) (us_one _ _) ?_
    refine hK.out _ _ (unhide KS _ hb2) (fun hHeld => ?_)
    clear hK K
    try simp only [Act.put, List.getElem_toArray, List.getElem_cons_succ, List.getElem_cons_zero]
    refine wpAnyH_done (by kernel_rfl) ?_ _
    have hs2 := hb2.size
    rw [World.size_drew] at hs2
    have B1 := (A1.drew.below hb2 A1.lt).puts (g := xrs (mxb (sbs (fw (rk key) f (0)))) (rk key (1)))
    have B2 := (A2.drew.below hb2 A2.lt).others (b' := w.heap.size) (o' := 0) (vs := us 16 (xrs (mxb (sbs (fw (rk key) f (0)))) (rk key (1)))) (Or.inl (by omega))
    have B3 := Go.Proofs.Ytkpodgeinanceaa.below_setCells (b := w.heap.size) (Nat.le_refl _) (us 16 (xrs (mxb (sbs (fw (rk key) f (0)))) (rk key (1)))) 0 _ (AB.drew.trans (hb2.mono (by rw [World.size_drew]; omega)))
    have B4 : w.heap.size + 1 + 1 ≤ (w2.setCells w.heap.size 0 (us 16 (xrs (mxb (sbs (fw (rk key) f (0)))) (rk key (1))))).heap.size := by rw [size_setCells]; omega
    clear A1 A2 AB SZ hHeld
    generalize w2.setCells w.heap.size 0 (us 16 (xrs (mxb (sbs (fw (rk key) f (0)))) (rk key (1)))) = V1 at B1 B2 B3 B4 ⊢
    clear hb2 hs2
    have A1 := B1
    have A2 := B2
    have AB := B3
    have SZ := B4
    clear B1 B2 B3 B4
    have A1 : Ar V1 w.heap.size 0 16 (fw (rk key) f (0 + 1)) := by
      rw [fw_mid _ _ _ (by omega)]
      exact A1
    have H1 := hide A1
    have H2 := hide A2
    have H3 := hide AB
    clear A1 A2 AB
    go_wp2_with fail
    go_step3
    exact ⟨rfl, 1, by omega, by omega, ⟨_, _, _, _, _, _, _, _, _, _, _, _, _, _, _, _, _, _, _, _, _, _, _, _, _, _, _, _, _, _, rfl⟩, unhide H1, unhide H2, SZ, unhide H3⟩
  · rintro a' V1 ⟨m, hm1, hm9, ⟨u6, u7, u8, u9, u10, u11, u12, u13, u14, u15, u16, u17, u18, u19, u20, u21, u22, u23, u24, u25, u26, u27, u28, u29, u30, u31, u32, u33, u34, u35, rfl⟩, A1, A2, SZ, AB⟩
    have GL := unhide HFW m
    have H1 := hide A1
    have H2 := hide A2
    have H3 := hide AB
    clear A1 A2 AB
    have i1 : IntKind.i64.wrap ((m : Int) + 1) = (m : Int) + 1 := wraps_i64 _ (by omega) (by omega)
    have n1 : (0 : Int) ≤ (m : Int) + 1 ∧ (m : Int) + 1 < 11 := by omega
    have t1 : ((m : Int) + 1).toNat = m + 1 := by omega
    by_cases hlt : m < 9
    · go_wp2_with fail
      have A1 := unhide H1
      have A2 := unhide H2
      have AB := unhide H3
      clear H1 H2 H3
      have kt : Ar V1 cb 176 256 sub := ck_tab ((unhide HC).below AB hcb)
      have hpu := hide (put_any cb (fw (rk key) f (m)) GL V1.drew kt.drew)
      have hsh := hide (fun V => shifted_any (fw (rk key) f (m)) V)
      have R1 := hide A1.drew.range
      have KT := hide (fun (V : World) (h : Below V1.drew.heap.size V1.drew V) => (A1.drew.below h A1.lt).there)
      refine wp_region_held_drew (S := fun _ => True) (by kernel_rfl) True.intro (fun hHeld => ?_)
      refine wpAnyH_take (i := 1) (v := .pointer (some ⟨cb, 0, none⟩)) rfl (by kernel_rfl) (by kernel_rfl) (by kernel_rfl) (fun _ _ _ h => h) (Or.inl ⟨by rfl, ?_⟩) hHeld ?_
      · intro V hSw; go_simp
      try simp only [Act.put, List.getElem_toArray, List.getElem_cons_succ, List.getElem_cons_zero, List.setIfInBounds_toArray, List.set_cons_zero, List.set_cons_succ]
      refine wpAnyH_take (i := 2) (v := .pointer (some ⟨cb, 0, none⟩)) rfl (by kernel_rfl) (by kernel_rfl) (by kernel_rfl) (fun _ _ _ h => h) (Or.inl ⟨by rfl, ?_⟩) hHeld ?_
      · intro V hSw; go_simp
      try simp only [Act.put, List.getElem_toArray, List.getElem_cons_succ, List.getElem_cons_zero, List.setIfInBounds_toArray, List.set_cons_zero, List.set_cons_succ]
      refine wpAnyH_take (i := 3) (v := .pointer (some ⟨cb, 176, none⟩)) rfl (by kernel_rfl) (by kernel_rfl) (by kernel_rfl) (fun _ _ _ h => h) (Or.inl ⟨by rfl, ?_⟩) hHeld ?_
      · intro V hSw; go_simp
      try simp only [Act.put, List.getElem_toArray, List.getElem_cons_succ, List.getElem_cons_zero, List.setIfInBounds_toArray, List.set_cons_zero, List.set_cons_succ]
      refine wpAnyH_ready (rs := [0]) (by kernel_rfl) (by simp) ?_
      refine AllReadyH.cons rfl (fun K hK => ?_) AllReadyH.nil
      rw [if_pos (by rfl)]
      refine wp_load_mid 84 (.tmp 3) rfl w.heap.size 0 rfl (us 16 (fw (rk key) f (m))) _ (unhide R1) hu rfl (unhide HI _) ?_
      refine hK.out _ _ (True.intro) (fun hHeld => ?_)
      clear hK K
      try simp only [Act.put, List.getElem_toArray, List.getElem_cons_zero, List.setIfInBounds_toArray, List.set_cons_zero, List.set_cons_succ]
      refine wpAnyH_ready (rs := [4]) (by kernel_rfl) (by simp) ?_
      refine AllReadyH.cons rfl (fun K hK => ?_) AllReadyH.nil
      go_simp
      go_at_call 89
      with_reducible refine (unhide hpu).mono ?_
      rintro e w4 ⟨rfl, hb4⟩
      refine hK.out _ _ (True.intro) (fun hHeld => ?_)
      clear hK K
      try simp only [Act.put, List.getElem_toArray, List.getElem_cons_succ, List.getElem_cons_zero, List.setIfInBounds_toArray, List.set_cons_zero, List.set_cons_succ]
      refine wpAnyH_ready (rs := [5]) (by kernel_rfl) (by simp) ?_
      refine AllReadyH.cons rfl (fun K hK => ?_) AllReadyH.nil
      go_simp
      go_at_call 90
      with_reducible refine (unhide hsh _).mono ?_
      rintro e w2 ⟨rfl, hb5⟩
      have hb2 : Below V1.drew.heap.size V1.drew w2 := hb4.trans (hb5.mono hb4.size)
      refine hK.out _ _ (True.intro) (fun hHeld => ?_)
      clear hK K
      try simp only [Act.put, List.getElem_toArray, List.getElem_cons_succ, List.getElem_cons_zero, List.setIfInBounds_toArray, List.set_cons_zero, List.set_cons_succ]
      refine wpAnyH_ready (rs := [6]) (by kernel_rfl) (by simp) ?_
      refine AllReadyH.cons rfl (fun K hK => ?_) AllReadyH.nil
      rw [if_pos (by rfl)]
      refine wp_store_mid 84 (.tmp 3) (.tmp 18) rfl w.heap.size 0 (us 16 (sbs (fw (rk key) f (m)))).toArray rfl rfl (by rw [us_size]; exact unhide KT _ hb2) (by rw [us_size]; exact info_bl) (us_one _ _) ?_
      refine hK.out _ _ (True.intro) (fun hHeld => ?_)
      clear hK K
      try simp only [Act.put, List.getElem_toArray, List.getElem_cons_succ, List.getElem_cons_zero]
      refine wpAnyH_done (by kernel_rfl) ?_ _
      clear hb4 hb5 kt
      have hs2 := hb2.size
      rw [World.size_drew] at hs2
      have B1 := (A1.drew.below hb2 A1.lt).puts (g := sbs (fw (rk key) f (m)))
      have B2 := (A2.drew.below hb2 A2.lt).others (b' := w.heap.size) (o' := 0) (vs := us 16 (sbs (fw (rk key) f (m)))) (Or.inl (by omega))
      have B3 := Go.Proofs.Ytkpodgeinanceaa.below_setCells (b := w.heap.size) (Nat.le_refl _) (us 16 (sbs (fw (rk key) f (m)))) 0 _ (AB.drew.trans (hb2.mono (by rw [World.size_drew]; omega)))
      have B4 : w.heap.size + 1 + 1 ≤ (w2.setCells w.heap.size 0 (us 16 (sbs (fw (rk key) f (m))))).heap.size := by rw [size_setCells]; omega
      clear A1 A2 AB SZ hHeld
      generalize w2.setCells w.heap.size 0 (us 16 (sbs (fw (rk key) f (m)))) = V1 at B1 B2 B3 B4 ⊢
      clear hb2 hs2
      have A1 := B1
      have A2 := B2
      have AB := B3
      have SZ := B4
      clear B1 B2 B3 B4
      have H1 := hide A1
      have H2 := hide A2
      have H3 := hide AB
      clear A1 A2 AB
      have GL := sbs_lt _ (unhide HFW (m))
      go_upto_region 5 with fail
      refine wp_region_list ?_
      refine wpList_load_mid rfl 84 (.tmp 3) rfl w.heap.size 0 rfl (us 16 (sbs (fw (rk key) f (m)))) _ (unhide H1).range hu rfl (unhide HI _) ?_
      have hmi := hide (fun V => implBmixed (sbs (fw (rk key) f (m))) GL V)
      have hlm : (us 16 (mxb (sbs (fw (rk key) f (m))))).length = 16 := us_length _ _
      go_wp2_with (go_at_call 91; with_reducible refine (unhide hmi _).mono ?_; rintro e w2 ⟨rfl, hb2⟩)
      have C1 := (unhide H1).below hb2 (unhide H1).lt
      rw [C1.cellsPut]
      have hs2 := hb2.size
      have B1 := C1.puts (g := mxb (sbs (fw (rk key) f (m))))
      have B2 := ((unhide H2).below hb2 (unhide H2).lt).others (b' := w.heap.size) (o' := 0) (vs := us 16 (mxb (sbs (fw (rk key) f (m))))) (Or.inl (by omega))
      have B3 := Go.Proofs.Ytkpodgeinanceaa.below_setCells (b := w.heap.size) (Nat.le_refl _) (us 16 (mxb (sbs (fw (rk key) f (m))))) 0 _ ((unhide H3).trans (hb2.mono (by omega)))
      have B4 : w.heap.size + 1 + 1 ≤ (w2.setCells w.heap.size 0 (us 16 (mxb (sbs (fw (rk key) f (m)))))).heap.size := by rw [size_setCells]; omega
      clear H1 H2 H3 SZ C1 hlm
      generalize w2.setCells w.heap.size 0 (us 16 (mxb (sbs (fw (rk key) f (m))))) = V1 at B1 B2 B3 B4 ⊢
      clear hb2 hs2
      have H1 := hide B1
      have H2 := hide B2
      have H3 := hide B3
      have SZ := B4
      clear B1 B2 B3 B4
      have GL := mxb_lt _ (sbs_lt _ (unhide HFW (m)))
      go_wp2_with fail
      have A1 := unhide H1
      have A2 := unhide H2
      have AB := unhide H3
      clear H1 H2 H3
      have kk : Ar V1 cb ((m + 1) * 16) 16 (rk key (m + 1)) := ck_keys ((unhide HC).below AB hcb) (m + 1) (by omega)
      have hxo := hide (fun V => xored_any (mxb (sbs (fw (rk key) f (m)))) (rk key (m + 1)) GL (hRK _) V)
      have R0 := hide kk.drew.range
      have R1 := hide A1.drew.range
      have KB := hide (fun (V : World) (h : Below V1.drew.heap.size V1.drew V) => (kk.drew.below h kk.lt).range)
      have KT := hide (fun (V : World) (h : Below V1.drew.heap.size V1.drew V) => (A1.drew.below h A1.lt).there)
      have KS := hide (fun (V : World) (h : Below V1.drew.heap.size V1.drew V) => ((kk.drew.below h kk.lt).others (b' := w.heap.size) (o' := 0) (vs := us 16 (xrs (mxb (sbs (fw (rk key) f (m)))) (rk key (m + 1)))) (Or.inl (by omega))).range)
      refine wp_region_held_drew (S := fun V => V.rangeAt cb ((m + 1) * 16) (us 16 (rk key (m + 1)))) (by kernel_rfl) (unhide R0) (fun hHeld => ?_)
      refine wpAnyH_take (i := 1) (v := .pointer (some ⟨cb, 0, none⟩)) rfl (by kernel_rfl) (by kernel_rfl) (by kernel_rfl) (fun _ _ _ h => h) (Or.inl ⟨by rfl, ?_⟩) hHeld ?_
      · intro V hSw; go_simp
      try simp only [Act.put, List.getElem_toArray, List.getElem_cons_succ, List.getElem_cons_zero, List.setIfInBounds_toArray, List.set_cons_zero, List.set_cons_succ]
      refine wpAnyH_take (i := 2) (v := .int .i64 ((m : Int) + 1)) rfl (by kernel_rfl) (by kernel_rfl) (by kernel_rfl) (fun _ _ _ h => h) (Or.inl ⟨by rfl, ?_⟩) hHeld ?_
      · intro V hSw; go_simp
      try simp only [Act.put, List.getElem_toArray, List.getElem_cons_succ, List.getElem_cons_zero, List.setIfInBounds_toArray, List.set_cons_zero, List.set_cons_succ]
      refine wpAnyH_take (i := 3) (v := .pointer (some ⟨cb, 0, none⟩)) rfl (by kernel_rfl) (by kernel_rfl) (by kernel_rfl) (fun _ _ _ h => h) (Or.inl ⟨by rfl, ?_⟩) hHeld ?_
      · intro V hSw; go_simp
      try simp only [Act.put, List.getElem_toArray, List.getElem_cons_succ, List.getElem_cons_zero, List.setIfInBounds_toArray, List.set_cons_zero, List.set_cons_succ]
      refine wpAnyH_take (i := 4) (v := .pointer (some ⟨cb, 0, none⟩)) rfl (by kernel_rfl) (by kernel_rfl) (by kernel_rfl) (fun _ _ _ h => h) (Or.inl ⟨by rfl, ?_⟩) hHeld ?_
      · intro V hSw; go_simp
      try simp only [Act.put, List.getElem_toArray, List.getElem_cons_succ, List.getElem_cons_zero, List.setIfInBounds_toArray, List.set_cons_zero, List.set_cons_succ]
      refine wpAnyH_take (i := 5) (v := .pointer (some ⟨cb, (m + 1) * 16, none⟩)) rfl (by kernel_rfl) (by kernel_rfl) (by kernel_rfl) (fun _ _ _ h => h) (Or.inl ⟨by rfl, ?_⟩) hHeld ?_
      · intro V hSw; go_simp
      try simp only [Act.put, List.getElem_toArray, List.getElem_cons_succ, List.getElem_cons_zero, List.setIfInBounds_toArray, List.set_cons_zero, List.set_cons_succ]
      refine wpAnyH_take (i := 6) (v := .agg (us 16 (rk key (m + 1))).toArray) rfl (by kernel_rfl) (by kernel_rfl) (by kernel_rfl) (fun _ _ _ h => h) (yieldsIf_load_mid (by rfl) 84 (.tmp 28) rfl (cb) ((m + 1) * 16) rfl (us 16 (rk key (m + 1))) _ (fun V h => h) hu rfl (unhide HI _)) hHeld ?_
      try simp only [Act.put, List.getElem_toArray, List.getElem_cons_succ, List.getElem_cons_zero, List.setIfInBounds_toArray, List.set_cons_zero, List.set_cons_succ]
      refine wpAnyH_ready (rs := [0]) (by kernel_rfl) (by simp) ?_
      refine AllReadyH.cons rfl (fun K hK => ?_) AllReadyH.nil
      rw [if_pos (by rfl)]
      refine wp_load_mid 84 (.tmp 3) rfl w.heap.size 0 rfl (us 16 (mxb (sbs (fw (rk key) f (m))))) _ (unhide R1) hu rfl (unhide HI _) ?_
      refine hK.out _ _ (hHeld) (fun hHeld => ?_)
      clear hK K
      try simp only [Act.put, List.getElem_toArray, List.getElem_cons_zero, List.setIfInBounds_toArray, List.set_cons_zero, List.set_cons_succ]
      refine wpAnyH_ready (rs := [7]) (by kernel_rfl) (by simp) ?_
      refine AllReadyH.cons rfl (fun K hK => ?_) AllReadyH.nil
      go_simp
      go_at_call 71
      with_reducible refine (unhide hxo _).mono ?_
      rintro e w2 ⟨rfl, hb2⟩
      refine hK.out _ _ (unhide KB _ hb2) (fun hHeld => ?_)
      clear hK K
      try simp only [Act.put, List.getElem_toArray, List.getElem_cons_succ, List.getElem_cons_zero, List.setIfInBounds_toArray, List.set_cons_zero, List.set_cons_succ]
      refine wpAnyH_ready (rs := [8]) (by kernel_rfl) (by simp) ?_
      refine AllReadyH.cons rfl (fun K hK => ?_) AllReadyH.nil
      rw [if_pos (by rfl)]
      refine wp_store_mid 84 (.tmp 3) (.tmp 30) rfl w.heap.size 0 (us 16 (xrs (mxb (sbs (fw (rk key) f (m)))) (rk key (m + 1)))).toArray rfl rfl (by rw [us_size]; exact unhide KT _ hb2) (by rw [us_size]; exact info_bl) (us_one _ _) ?_
      refine hK.out _ _ (unhide KS _ hb2) (fun hHeld => ?_)
      clear hK K
      try simp only [Act.put, List.getElem_toArray, List.getElem_cons_succ, List.getElem_cons_zero]
      refine wpAnyH_done (by kernel_rfl) ?_ _
      have hs2 := hb2.size
      rw [World.size_drew] at hs2
      have B1 := (A1.drew.below hb2 A1.lt).puts (g := xrs (mxb (sbs (fw (rk key) f (m)))) (rk key (m + 1)))
      have B2 := (A2.drew.below hb2 A2.lt).others (b' := w.heap.size) (o' := 0) (vs := us 16 (xrs (mxb (sbs (fw (rk key) f (m)))) (rk key (m + 1)))) (Or.inl (by omega))
      have B3 := Go.Proofs.Ytkpodgeinanceaa.below_setCells (b := w.heap.size) (Nat.le_refl _) (us 16 (xrs (mxb (sbs (fw (rk key) f (m)))) (rk key (m + 1)))) 0 _ (AB.drew.trans (hb2.mono (by rw [World.size_drew]; omega)))
      have B4 : w.heap.size + 1 + 1 ≤ (w2.setCells w.heap.size 0 (us 16 (xrs (mxb (sbs (fw (rk key) f (m)))) (rk key (m + 1))))).heap.size := by rw [size_setCells]; omega
      clear A1 A2 AB SZ hHeld
      generalize w2.setCells w.heap.size 0 (us 16 (xrs (mxb (sbs (fw (rk key) f (m)))) (rk key (m + 1)))) = V1 at B1 B2 B3 B4 ⊢
      clear hb2 hs2
      have A1 := B1
      have A2 := B2
      have AB := B3
      have SZ := B4
      clear B1 B2 B3 B4
      have A1 : Ar V1 w.heap.size 0 16 (fw (rk key) f (m + 1)) := by
        rw [fw_mid _ _ _ (by omega)]
        exact A1
      have H1 := hide A1
      have H2 := hide A2
      have H3 := hide AB
      clear A1 A2 AB
      go_wp2_with fail
      go_step3
      refine ⟨rfl, ⟨m + 1, by omega, by omega, ⟨_, _, _, _, _, _, _, _, _, _, _, _, _, _, _, _, _, _, _, _, _, _, _, _, _, _, _, _, _, _, rfl⟩, unhide H1, unhide H2, SZ, unhide H3⟩, ?_⟩
      simp [intOf]; omega
    · have e9 : m = 9 := by omega
      subst e9
      go_wp2_with fail
      have A1 := unhide H1
      have A2 := unhide H2
      have AB := unhide H3
      clear H1 H2 H3
      have kt : Ar V1 cb 176 256 sub := ck_tab ((unhide HC).below AB hcb)
      have hpu := hide (put_any cb (fw (rk key) f (9)) GL V1.drew kt.drew)
      have hsh := hide (fun V => shifted_any (fw (rk key) f (9)) V)
      have R1 := hide A1.drew.range
      have KT := hide (fun (V : World) (h : Below V1.drew.heap.size V1.drew V) => (A1.drew.below h A1.lt).there)
      refine wp_region_held_drew (S := fun _ => True) (by kernel_rfl) True.intro (fun hHeld => ?_)
      refine wpAnyH_take (i := 1) (v := .pointer (some ⟨cb, 0, none⟩)) rfl (by kernel_rfl) (by kernel_rfl) (by kernel_rfl) (fun _ _ _ h => h) (Or.inl ⟨by rfl, ?_⟩) hHeld ?_
      · intro V hSw; go_simp
      try simp only [Act.put, List.getElem_toArray, List.getElem_cons_succ, List.getElem_cons_zero, List.setIfInBounds_toArray, List.set_cons_zero, List.set_cons_succ]
      refine wpAnyH_take (i := 2) (v := .pointer (some ⟨cb, 0, none⟩)) rfl (by kernel_rfl) (by kernel_rfl) (by kernel_rfl) (fun _ _ _ h => h) (Or.inl ⟨by rfl, ?_⟩) hHeld ?_
      · intro V hSw; go_simp
      try simp only [Act.put, List.getElem_toArray, List.getElem_cons_succ, List.getElem_cons_zero, List.setIfInBounds_toArray, List.set_cons_zero, List.set_cons_succ]
      refine wpAnyH_take (i := 3) (v := .pointer (some ⟨cb, 176, none⟩)) rfl (by kernel_rfl) (by kernel_rfl) (by kernel_rfl) (fun _ _ _ h => h) (Or.inl ⟨by rfl, ?_⟩) hHeld ?_
      · intro V hSw; go_simp
      try simp only [Act.put, List.getElem_toArray, List.getElem_cons_succ, List.getElem_cons_zero, List.setIfInBounds_toArray, List.set_cons_zero, List.set_cons_succ]
      refine wpAnyH_ready (rs := [0]) (by kernel_rfl) (by simp) ?_
      refine AllReadyH.cons rfl (fun K hK => ?_) AllReadyH.nil
      rw [if_pos (by rfl)]
      refine wp_load_mid 84 (.tmp 3) rfl w.heap.size 0 rfl (us 16 (fw (rk key) f (9))) _ (unhide R1) hu rfl (unhide HI _) ?_
      refine hK.out _ _ (True.intro) (fun hHeld => ?_)
      clear hK K
      try simp only [Act.put, List.getElem_toArray, List.getElem_cons_zero, List.setIfInBounds_toArray, List.set_cons_zero, List.set_cons_succ]
      refine wpAnyH_ready (rs := [4]) (by kernel_rfl) (by simp) ?_
      refine AllReadyH.cons rfl (fun K hK => ?_) AllReadyH.nil
      go_simp
      go_at_call 89
      with_reducible refine (unhide hpu).mono ?_
      rintro e w4 ⟨rfl, hb4⟩
      refine hK.out _ _ (True.intro) (fun hHeld => ?_)
      clear hK K
      try simp only [Act.put, List.getElem_toArray, List.getElem_cons_succ, List.getElem_cons_zero, List.setIfInBounds_toArray, List.set_cons_zero, List.set_cons_succ]
      refine wpAnyH_ready (rs := [5]) (by kernel_rfl) (by simp) ?_
      refine AllReadyH.cons rfl (fun K hK => ?_) AllReadyH.nil
      go_simp
      go_at_call 90
      with_reducible refine (unhide hsh _).mono ?_
      rintro e w2 ⟨rfl, hb5⟩
      have hb2 : Below V1.drew.heap.size V1.drew w2 := hb4.trans (hb5.mono hb4.size)
      refine hK.out _ _ (True.intro) (fun hHeld => ?_)
      clear hK K
      try simp only [Act.put, List.getElem_toArray, List.getElem_cons_succ, List.getElem_cons_zero, List.setIfInBounds_toArray, List.set_cons_zero, List.set_cons_succ]
      refine wpAnyH_ready (rs := [6]) (by kernel_rfl) (by simp) ?_
      refine AllReadyH.cons rfl (fun K hK => ?_) AllReadyH.nil
      rw [if_pos (by rfl)]
      refine wp_store_mid 84 (.tmp 3) (.tmp 18) rfl w.heap.size 0 (us 16 (sbs (fw (rk key) f (9)))).toArray rfl rfl (by rw [us_size]; exact unhide KT _ hb2) (by rw [us_size]; exact info_bl) (us_one _ _) ?_
      refine hK.out _ _ (True.intro) (fun hHeld => ?_)
      clear hK K
      try simp only [Act.put, List.getElem_toArray, List.getElem_cons_succ, List.getElem_cons_zero]
      refine wpAnyH_done (by kernel_rfl) ?_ _
      clear hb4 hb5 kt
      have hs2 := hb2.size
      rw [World.size_drew] at hs2
      have B1 := (A1.drew.below hb2 A1.lt).puts (g := sbs (fw (rk key) f (9)))
      have B2 := (A2.drew.below hb2 A2.lt).others (b' := w.heap.size) (o' := 0) (vs := us 16 (sbs (fw (rk key) f (9)))) (Or.inl (by omega))
      have B3 := Go.Proofs.Ytkpodgeinanceaa.below_setCells (b := w.heap.size) (Nat.le_refl _) (us 16 (sbs (fw (rk key) f (9)))) 0 _ (AB.drew.trans (hb2.mono (by rw [World.size_drew]; omega)))
      have B4 : w.heap.size + 1 + 1 ≤ (w2.setCells w.heap.size 0 (us 16 (sbs (fw (rk key) f (9))))).heap.size := by rw [size_setCells]; omega
      clear A1 A2 AB SZ hHeld
      generalize w2.setCells w.heap.size 0 (us 16 (sbs (fw (rk key) f (9)))) = V1 at B1 B2 B3 B4 ⊢
      clear hb2 hs2
      have A1 := B1
      have A2 := B2
      have AB := B3
      have SZ := B4
      clear B1 B2 B3 B4
      have H1 := hide A1
      have H2 := hide A2
      have H3 := hide AB
      clear A1 A2 AB
      have GL := sbs_lt _ (unhide HFW (9))
      go_wp2_with fail
      have A1 := unhide H1
      have A2 := unhide H2
      have AB := unhide H3
      clear H1 H2 H3
      have kk : Ar V1 cb ((9 + 1) * 16) 16 (rk key (9 + 1)) := ck_keys ((unhide HC).below AB hcb) (9 + 1) (by omega)
      have hxo := hide (fun V => xored_any (sbs (fw (rk key) f (9))) (rk key (9 + 1)) GL (hRK _) V)
      have R0 := hide kk.drew.range
      have R1 := hide A1.drew.range
      have KB := hide (fun (V : World) (h : Below V1.drew.heap.size V1.drew V) => (kk.drew.below h kk.lt).range)
      have KT := hide (fun (V : World) (h : Below V1.drew.heap.size V1.drew V) => (A1.drew.below h A1.lt).there)
      have KS := hide (fun (V : World) (h : Below V1.drew.heap.size V1.drew V) => ((kk.drew.below h kk.lt).others (b' := w.heap.size) (o' := 0) (vs := us 16 (xrs (sbs (fw (rk key) f (9))) (rk key (9 + 1)))) (Or.inl (by omega))).range)
      refine wp_region_held_drew (S := fun V => V.rangeAt cb ((9 + 1) * 16) (us 16 (rk key (9 + 1)))) (by kernel_rfl) (unhide R0) (fun hHeld => ?_)
      refine wpAnyH_take (i := 1) (v := .pointer (some ⟨cb, 0, none⟩)) rfl (by kernel_rfl) (by kernel_rfl) (by kernel_rfl) (fun _ _ _ h => h) (Or.inl ⟨by rfl, ?_⟩) hHeld ?_
      · intro V hSw; go_simp
      try simp only [Act.put, List.getElem_toArray, List.getElem_cons_succ, List.getElem_cons_zero, List.setIfInBounds_toArray, List.set_cons_zero, List.set_cons_succ]
      refine wpAnyH_take (i := 2) (v := .int .i64 (((9 : Nat) : Int) + 1)) rfl (by kernel_rfl) (by kernel_rfl) (by kernel_rfl) (fun _ _ _ h => h) (Or.inl ⟨by rfl, ?_⟩) hHeld ?_
      · intro V hSw; go_simp
      try simp only [Act.put, List.getElem_toArray, List.getElem_cons_succ, List.getElem_cons_zero, List.setIfInBounds_toArray, List.set_cons_zero, List.set_cons_succ]
      refine wpAnyH_take (i := 3) (v := .pointer (some ⟨cb, 0, none⟩)) rfl (by kernel_rfl) (by kernel_rfl) (by kernel_rfl) (fun _ _ _ h => h) (Or.inl ⟨by rfl, ?_⟩) hHeld ?_
      · intro V hSw; go_simp
      try simp only [Act.put, List.getElem_toArray, List.getElem_cons_succ, List.getElem_cons_zero, List.setIfInBounds_toArray, List.set_cons_zero, List.set_cons_succ]
      refine wpAnyH_take (i := 4) (v := .pointer (some ⟨cb, 0, none⟩)) rfl (by kernel_rfl) (by kernel_rfl) (by kernel_rfl) (fun _ _ _ h => h) (Or.inl ⟨by rfl, ?_⟩) hHeld ?_
      · intro V hSw; go_simp
      try simp only [Act.put, List.getElem_toArray, List.getElem_cons_succ, List.getElem_cons_zero, List.setIfInBounds_toArray, List.set_cons_zero, List.set_cons_succ]
      refine wpAnyH_take (i := 5) (v := .pointer (some ⟨cb, (9 + 1) * 16, none⟩)) rfl (by kernel_rfl) (by kernel_rfl) (by kernel_rfl) (fun _ _ _ h => h) (Or.inl ⟨by rfl, ?_⟩) hHeld ?_
      · intro V hSw; go_simp
      try simp only [Act.put, List.getElem_toArray, List.getElem_cons_succ, List.getElem_cons_zero, List.setIfInBounds_toArray, List.set_cons_zero, List.set_cons_succ]
      refine wpAnyH_take (i := 6) (v := .agg (us 16 (rk key (9 + 1))).toArray) rfl (by kernel_rfl) (by kernel_rfl) (by kernel_rfl) (fun _ _ _ h => h) (yieldsIf_load_mid (by rfl) 84 (.tmp 28) rfl (cb) ((9 + 1) * 16) rfl (us 16 (rk key (9 + 1))) _ (fun V h => h) hu rfl (unhide HI _)) hHeld ?_
      try simp only [Act.put, List.getElem_toArray, List.getElem_cons_succ, List.getElem_cons_zero, List.setIfInBounds_toArray, List.set_cons_zero, List.set_cons_succ]
      refine wpAnyH_ready (rs := [0]) (by kernel_rfl) (by simp) ?_
      refine AllReadyH.cons rfl (fun K hK => ?_) AllReadyH.nil
      rw [if_pos (by rfl)]
      refine wp_load_mid 84 (.tmp 3) rfl w.heap.size 0 rfl (us 16 (sbs (fw (rk key) f (9)))) _ (unhide R1) hu rfl (unhide HI _) ?_
      refine hK.out _ _ (hHeld) (fun hHeld => ?_)
      clear hK K
      try simp only [Act.put, List.getElem_toArray, List.getElem_cons_zero, List.setIfInBounds_toArray, List.set_cons_zero, List.set_cons_succ]
      refine wpAnyH_ready (rs := [7]) (by kernel_rfl) (by simp) ?_
      refine AllReadyH.cons rfl (fun K hK => ?_) AllReadyH.nil
      go_simp
      go_at_call 71
      with_reducible refine (unhide hxo _).mono ?_
      rintro e w2 ⟨rfl, hb2⟩
      refine hK.out _ _ (unhide KB _ hb2) (fun hHeld => ?_)
      clear hK K
      try simp only [Act.put, List.getElem_toArray, List.getElem_cons_succ, List.getElem_cons_zero, List.setIfInBounds_toArray, List.set_cons_zero, List.set_cons_succ]
      refine wpAnyH_ready (rs := [8]) (by kernel_rfl) (by simp) ?_
      refine AllReadyH.cons rfl (fun K hK => ?_) AllReadyH.nil
      rw [if_pos (by rfl)]
      refine wp_store_mid 84 (.tmp 3) (.tmp 30) rfl w.heap.size 0 (us 16 (xrs (sbs (fw (rk key) f (9))) (rk key (9 + 1)))).toArray rfl rfl (by rw [us_size]; exact unhide KT _ hb2) (by rw [us_size]; exact info_bl) (us_one _ _) ?_
      refine hK.out _ _ (unhide KS _ hb2) (fun hHeld => ?_)
      clear hK K
      try simp only [Act.put, List.getElem_toArray, List.getElem_cons_succ, List.getElem_cons_zero]
      refine wpAnyH_done (by kernel_rfl) ?_ _
      have hs2 := hb2.size
      rw [World.size_drew] at hs2
      have B1 := (A1.drew.below hb2 A1.lt).puts (g := xrs (sbs (fw (rk key) f (9))) (rk key (9 + 1)))
      have B2 := (A2.drew.below hb2 A2.lt).others (b' := w.heap.size) (o' := 0) (vs := us 16 (xrs (sbs (fw (rk key) f (9))) (rk key (9 + 1)))) (Or.inl (by omega))
      have B3 := Go.Proofs.Ytkpodgeinanceaa.below_setCells (b := w.heap.size) (Nat.le_refl _) (us 16 (xrs (sbs (fw (rk key) f (9))) (rk key (9 + 1)))) 0 _ (AB.drew.trans (hb2.mono (by rw [World.size_drew]; omega)))
      have B4 : w.heap.size + 1 + 1 ≤ (w2.setCells w.heap.size 0 (us 16 (xrs (sbs (fw (rk key) f (9))) (rk key (9 + 1))))).heap.size := by rw [size_setCells]; omega
      clear A1 A2 AB SZ hHeld
      generalize w2.setCells w.heap.size 0 (us 16 (xrs (sbs (fw (rk key) f (9))) (rk key (9 + 1)))) = V1 at B1 B2 B3 B4 ⊢
      clear hb2 hs2
      have A1 := B1
      have A2 := B2
      have AB := B3
      have SZ := B4
      clear B1 B2 B3 B4
      have A1 : Ar V1 w.heap.size 0 16 (fw (rk key) f (9 + 1)) := by
        rw [fw_last]
        exact A1
      have HH := hide (A2.puts (g := fw (rk key) f (9 + 1)))
      go_upto_region 9 with fail
      refine wp_region_list ?_
      refine wpList_load_mid rfl 84 (.tmp 3) rfl w.heap.size 0 rfl (us 16 (fw (rk key) f (9 + 1))) _ A1.range hu rfl (unhide HI _) ?_
      refine wpList_store_mid rfl 84 (.tmp 4) (.tmp 35) rfl (w.heap.size + 1) 0 (us 16 (fw (rk key) f (9 + 1))).toArray rfl rfl (by rw [us_size]; exact A2.there) (by rw [us_size]; exact info_bl) (us_one _ _) ?_
      refine wpList_nil ?_
      have H3 := hide AB
      clear A1 A2 AB
      go_wp2_with fail
      simp only [Exit.jump]
      refine ret_arr 4 (w.heap.size + 1) 16 84 _ (fw (rk key) f (9 + 1)) ?r1 ?r2 ?r3 (unhide HH) Try.underlying84 rfl info_bl ?_
      case r1 => rfl
      case r2 => rfl
      case r3 => rfl
      exact ⟨rfl, Go.Proofs.Ytkpodgeinanceaa.below_setCells (by omega) _ _ _ (unhide H3)⟩
end Go.Proofs.Ytkpodgeinanceaa
