/-
  Contracts: the cipher, forward. Contracts: the program's AesBlock. Contracts: a block that counts, the program's. Blocks of sixteen bytes compared. Contracts: texts that are counted, the program's.
-/
import Derived.Test.YtgoafbhhihfkfaaAbxX
import Derived.Test.YtgoafbhhihfkfaaAbn
import Derived.ScopeJumps
import Derived.WalkMore
import Derived.Test.YtgoafbhhihfkfaaAboX
import Derived.Laws.StructEq
namespace Go.Proofs.Ytgoafbhhihfkfaa
open Go.ChangeShapes Go.WideShapes Go.ChangeAt Go.RowKit
set_option linter.unusedVariables false
set_option maxRecDepth 100000

/-- put through SubByte -/
def pts (f : Nat → Nat) (i : Nat) : Nat := sub (f i)
/-- put through SubByte and shifted -/
def sbs (f : Nat → Nat) (i : Nat) : Nat := pts f ((i + 4 * (i % 4)) % 16)
/-- two blocks xored -/
def xrs (f g : Nat → Nat) (i : Nat) : Nat := f i ^^^ g i
/-- one round -/
def rnd (K : Nat → Nat → Nat) (n : Nat) (f : Nat → Nat) : Nat → Nat := xrs (if n < 10 then mxb (sbs f) else sbs f) (K n)
/-- n rounds -/
def fw (K : Nat → Nat → Nat) (f : Nat → Nat) : Nat → Nat → Nat
  | 0 => xrs f (K 0)
  | n + 1 => rnd K (n + 1) (fw K f n)
theorem pts_lt (f : Nat → Nat) (h : ∀ i, f i < 256) (i : Nat) : pts f i < 256 := sub_lt _ (h i)
theorem sbs_lt (f : Nat → Nat) (h : ∀ i, f i < 256) (i : Nat) : sbs f i < 256 := pts_lt f h _
theorem xrs_lt (f g : Nat → Nat) (hf : ∀ i, f i < 256) (hg : ∀ i, g i < 256) (i : Nat) : xrs f g i < 256 := xor_lt _ _ (hf i) (hg i)
theorem rnd_lt (K : Nat → Nat → Nat) (n : Nat) (f : Nat → Nat) (hK : ∀ i, K n i < 256) (hf : ∀ i, f i < 256) (i : Nat) : rnd K n f i < 256 := by
  unfold rnd
  split
  · exact xrs_lt _ _ (mxb_lt _ (sbs_lt f hf)) hK i
  · exact xrs_lt _ _ (sbs_lt f hf) hK i
theorem fw_lt (K : Nat → Nat → Nat) (f : Nat → Nat) (hK : ∀ n i, K n i < 256) (hf : ∀ i, f i < 256) : ∀ n i, fw K f n i < 256
  | 0, i => xrs_lt _ _ hf (hK 0) i
  | n + 1, i => rnd_lt K (n + 1) _ (hK _) (fw_lt K f hK hf n) i
theorem fw_mid (K : Nat → Nat → Nat) (f : Nat → Nat) (m : Nat) (h : m < 9) : fw K f (m + 1) = xrs (mxb (sbs (fw K f m))) (K (m + 1)) := by
  rw [fw, rnd, if_pos (by omega)]
theorem fw_last (K : Nat → Nat → Nat) (f : Nat → Nat) : fw K f (9 + 1) = xrs (sbs (fw K f 9)) (K (9 + 1)) := by
  rw [fw, rnd, if_neg (by omega)]
theorem ck_keys {w : World} {cb : Nat} {key : Nat → Nat} (h : Ar w cb 0 432 (ck key 10)) (n : Nat) (hn : n ≤ 10) : Ar w cb (n * 16) 16 (rk key n) := by
  have := h.part (n * 16) 16 (by omega)
  rw [Nat.zero_add] at this
  refine this.congr (fun i hi => ?_)
  unfold ck
  rw [if_pos (by omega), show (n * 16 + i) / 16 = n by omega, show (n * 16 + i) % 16 = i by omega]
theorem ck_tab {w : World} {cb : Nat} {key : Nat → Nat} (h : Ar w cb 0 432 (ck key 10)) : Ar w cb 176 256 sub := by
  have := h.part 176 256 (by omega)
  rw [Nat.zero_add] at this
  exact this.congr (ck_box key 10 (by omega))
/-- what a region that reads one block and one key may lean on -/
abbrev Sx (hb cb off : Nat) (g r v : List Value) (W : World) : Prop := W.rangeAt hb 0 g ∧ W.rangeAt cb off r ∧ W.there hb 0 v.length
theorem sx_mk {W : World} {hb cb off : Nat} {g r v : Nat → Nat} (h1 : Ar W hb 0 16 g) (h2 : Ar W cb off 16 r) : Sx hb cb off (us 16 g) (us 16 r) (us 16 v) W := ⟨h1.range, h2.range, by rw [us_length]; exact h1.there⟩

theorem xored_any (a b : Nat → Nat) (ha : ∀ i, a i < 256) (hb : ∀ i, b i < 256) (W : World) :
    Calls Try.prog 58 #[.agg (us 16 a).toArray, .agg (us 16 b).toArray] W fun e w' => e = .returned (.agg (us 16 (xrs a b)).toArray) ∧ Below W.heap.size W w' := implXored a b ha hb W
theorem put_any (cb : Nat) (a : Nat → Nat) (ha : ∀ i, a i < 256) (W : World) (hT : Ar W cb 176 256 sub) :
    Calls Try.prog 68 #[.agg (us 16 a).toArray, .pointer (some ⟨cb, 176, none⟩)] W fun e w' => e = .returned (.agg (us 16 (pts a)).toArray) ∧ Below W.heap.size W w' := implPut a sub ha cb 176 W hT
theorem shifted_any (a : Nat → Nat) (W : World) :
    Calls Try.prog 69 #[.agg (us 16 (pts a)).toArray, .int .i64 1] W fun e w' => e = .returned (.agg (us 16 (sbs a)).toArray) ∧ Below W.heap.size W w' := implShifted1 (pts a) W


set_option maxRecDepth 100000 in
set_option maxHeartbeats 1000000 in
theorem implForward (cb : Nat) (key f : Nat → Nat) (hk : ∀ i, key i < 256) (hf : ∀ i, f i < 256) (w : World) (hC : Ar w cb 0 432 (ck key 10)) :
    Calls Try.prog 56 #[.pointer (some ⟨cb, 0, none⟩), .agg (us 16 f).toArray] w fun e w' => e = .returned (.agg (us 16 (fw (rk key) f 10)).toArray) ∧ Below w.heap.size w w' := by
  have HC := hide hC
  have hcb := hC.lt
  have hRK := rk_lt key hk
  have HFW := hide (fw_lt (rk key) f hRK hf)
  have hu := Try.underlying37
  have hi : ∀ g : Nat → Nat, (Try.prog.info? 37).map (·.size) = some (us 16 g).length := fun g => by rw [us_length]; exact info_bl
  have hone : ∀ g : Nat → Nat, ∀ v ∈ us 16 g, v.oneCell' = true := us_oneL 16
  have HI := hide hi
  have HONE := hide hone
  clear hC hi hone
  go_enter Try.func56, Try.ntmps56
  go_upto_region 1 with fail
  have a1 := (Ar.new w 16 f 37).alloc (.cells #[.int .u8 0, .int .u8 0, .int .u8 0, .int .u8 0, .int .u8 0, .int .u8 0, .int .u8 0, .int .u8 0, .int .u8 0, .int .u8 0, .int .u8 0, .int .u8 0, .int .u8 0, .int .u8 0, .int .u8 0, .int .u8 0] 37)
  have a2 := z16_new (w.alloc (.cells (us 16 f).toArray 37)) 37
  rw [World.size_alloc] at a2
  have a3 := ((Below.refl w.heap.size w).alloc (Nat.le_refl _) (.cells (us 16 f).toArray 37)).alloc (by simp) (.cells #[.int .u8 0, .int .u8 0, .int .u8 0, .int .u8 0, .int .u8 0, .int .u8 0, .int .u8 0, .int .u8 0, .int .u8 0, .int .u8 0, .int .u8 0, .int .u8 0, .int .u8 0, .int .u8 0, .int .u8 0, .int .u8 0] 37)
  have a4 : ((w.alloc (.cells (us 16 f).toArray 37)).alloc (.cells #[.int .u8 0, .int .u8 0, .int .u8 0, .int .u8 0, .int .u8 0, .int .u8 0, .int .u8 0, .int .u8 0, .int .u8 0, .int .u8 0, .int .u8 0, .int .u8 0, .int .u8 0, .int .u8 0, .int .u8 0, .int .u8 0] 37)).heap.size = w.heap.size + 1 + 1 := by simp
  generalize ((w.alloc (.cells (us 16 f).toArray 37)).alloc (.cells #[.int .u8 0, .int .u8 0, .int .u8 0, .int .u8 0, .int .u8 0, .int .u8 0, .int .u8 0, .int .u8 0, .int .u8 0, .int .u8 0, .int .u8 0, .int .u8 0, .int .u8 0, .int .u8 0, .int .u8 0, .int .u8 0] 37)) = W at a1 a2 a3 a4 ⊢
  refine wp_scope_jumps 0 (fun a' w' => ∃ m : Nat, 1 ≤ m ∧ m ≤ 9 ∧ (∃ (u6 u7 u8 u9 u10 u11 u12 u13 u14 u15 u16 u17 u18 u19 u20 u21 u22 u23 u24 u25 u26 u27 u28 u29 u30 u31 u32 u33 u34 u35 : Value), a' = { tmps := #[.pointer (some ⟨cb, 0, none⟩), .agg (us 16 f).toArray, undef, .pointer (some ⟨w.heap.size, 0, none⟩), .pointer (some ⟨w.heap.size + 1, 0, none⟩), .int .i64 ((m : Int) + 1), u6, u7, u8, u9, u10, u11, u12, u13, u14, u15, u16, u17, u18, u19, u20, u21, u22, u23, u24, u25, u26, u27, u28, u29, u30, u31, u32, u33, u34, u35], defers := [] }) ∧ Ar w' w.heap.size 0 16 (fw (rk key) f m) ∧ Ar w' (w.heap.size + 1) 0 16 (fun _ => 0) ∧ w.heap.size + 1 + 1 ≤ w'.heap.size ∧ Below w.heap.size w w') (fun a' _ => 11 - (intOf (a'.tmps.getD 5 undef)).toNat) rfl ?_ ?_
  · go_wp2_with fail
    have A1 := a1
    have A2 := a2
    have AB := a3
    have SZ : w.heap.size + 1 + 1 ≤ W.heap.size := by omega
    have GL := hf
    clear a1 a2 a3 a4
    have kk : Ar W cb (0) 16 (rk key (0)) := ck_keys ((unhide HC).below AB hcb) (0) (by omega)
    have hxo := hide (fun V => xored_any (f) (rk key (0)) GL (hRK _) V)
    have R0 := hide kk.drew.range
    have R1 := hide A1.drew.range
    have KB := hide (fun (V : World) (h : Below W.drew.heap.size W.drew V) => (kk.drew.below h kk.lt).range)
    have KT := hide (fun (V : World) (h : Below W.drew.heap.size W.drew V) => (A1.drew.below h A1.lt).there)
    have KS := hide (fun (V : World) (h : Below W.drew.heap.size W.drew V) => ((kk.drew.below h kk.lt).others (b' := w.heap.size) (o' := 0) (vs := us 16 (xrs (f) (rk key (0)))) (Or.inl (by omega))).range)
    refine wp_region_held_drew (S := fun V => V.rangeAt cb (0) (us 16 (rk key (0)))) (by kernel_rfl) (unhide R0) (fun hHeld => ?_)
    refine wpAnyH_take (i := 1) (v := .pointer (some ⟨cb, 0, none⟩)) rfl (by kernel_rfl) (by kernel_rfl) (by kernel_rfl) (fun _ _ _ h => h) (Or.inl ⟨by rfl, ?_⟩) hHeld ?_
    · intro V hSw; go_simp
    try simp only [Act.put, List.getElem_toArray, List.getElem_cons_succ, List.getElem_cons_zero, List.setIfInBounds_toArray, List.set_cons_zero, List.set_cons_succ]
    refine wpAnyH_take (i := 2) (v := .pointer (some ⟨cb, 0, none⟩)) rfl (by kernel_rfl) (by kernel_rfl) (by kernel_rfl) (fun _ _ _ h => h) (Or.inl ⟨by rfl, ?_⟩) hHeld ?_
    · intro V hSw; go_simp
    try simp only [Act.put, List.getElem_toArray, List.getElem_cons_succ, List.getElem_cons_zero, List.setIfInBounds_toArray, List.set_cons_zero, List.set_cons_succ]
    refine wpAnyH_take (i := 3) (v := .pointer (some ⟨cb, 0, none⟩)) rfl (by kernel_rfl) (by kernel_rfl) (by kernel_rfl) (fun _ _ _ h => h) (Or.inl ⟨by rfl, ?_⟩) hHeld ?_
    · intro V hSw; go_simp
    try simp only [Act.put, List.getElem_toArray, List.getElem_cons_succ, List.getElem_cons_zero, List.setIfInBounds_toArray, List.set_cons_zero, List.set_cons_succ]
    refine wpAnyH_take (i := 4) (v := .pointer (some ⟨cb, 0, none⟩)) rfl (by kernel_rfl) (by kernel_rfl) (by kernel_rfl) (fun _ _ _ h => h) (Or.inl ⟨by rfl, ?_⟩) hHeld ?_
    · intro V hSw; go_simp
    try simp only [Act.put, List.getElem_toArray, List.getElem_cons_succ, List.getElem_cons_zero, List.setIfInBounds_toArray, List.set_cons_zero, List.set_cons_succ]
    refine wpAnyH_take (i := 5) (v := .agg (us 16 (rk key (0))).toArray) rfl (by kernel_rfl) (by kernel_rfl) (by kernel_rfl) (fun _ _ _ h => h) (yieldsIf_load_mid (by rfl) 37 (.tmp 10) rfl (cb) (0) rfl (us 16 (rk key (0))) _ (fun V h => h) hu rfl (unhide HI _)) hHeld ?_
    try simp only [Act.put, List.getElem_toArray, List.getElem_cons_succ, List.getElem_cons_zero, List.setIfInBounds_toArray, List.set_cons_zero, List.set_cons_succ]
    refine wpAnyH_ready (rs := [0]) (by kernel_rfl) (by simp) ?_
    refine AllReadyH.cons rfl (fun K hK => ?_) AllReadyH.nil
    rw [if_pos (by rfl)]
    refine wp_load_mid 37 (.tmp 3) rfl w.heap.size 0 rfl (us 16 (f)) _ (unhide R1) hu rfl (unhide HI _) ?_
    refine hK.out _ _ (hHeld) (fun hHeld => ?_)
    clear hK K
    try simp only [Act.put, List.getElem_toArray, List.getElem_cons_zero, List.setIfInBounds_toArray, List.set_cons_zero, List.set_cons_succ]
    refine wpAnyH_ready (rs := [6]) (by kernel_rfl) (by simp) ?_
    refine AllReadyH.cons rfl (fun K hK => ?_) AllReadyH.nil
    go_simp
    go_at_call 58
    with_reducible refine (unhide hxo _).mono ?_
    rintro e w2 ⟨rfl, hb2⟩
    refine hK.out _ _ (unhide KB _ hb2) (fun hHeld => ?_)
    clear hK K
    try simp only [Act.put, List.getElem_toArray, List.getElem_cons_succ, List.getElem_cons_zero, List.setIfInBounds_toArray, List.set_cons_zero, List.set_cons_succ]
    refine wpAnyH_ready (rs := [7]) (by kernel_rfl) (by simp) ?_
    refine AllReadyH.cons rfl (fun K hK => ?_) AllReadyH.nil
    rw [if_pos (by rfl)]
    refine wp_store_mid 37 (.tmp 3) (.tmp 12) rfl w.heap.size 0 (us 16 (xrs (f) (rk key (0)))).toArray rfl rfl (by rw [us_size]; exact unhide KT _ hb2) (by rw [us_size]; exact info_bl) (us_one _ _) ?_
    refine hK.out _ _ (unhide KS _ hb2) (fun hHeld => ?_)
    clear hK K
    try simp only [Act.put, List.getElem_toArray, List.getElem_cons_succ, List.getElem_cons_zero]
    refine wpAnyH_done (by kernel_rfl) ?_ _
    have hs2 := hb2.size
    rw [World.size_drew] at hs2
    have B1 := (A1.drew.below hb2 A1.lt).puts (g := xrs (f) (rk key (0)))
    have B2 := (A2.drew.below hb2 A2.lt).others (b' := w.heap.size) (o' := 0) (vs := us 16 (xrs (f) (rk key (0)))) (Or.inl (by omega))
    have B3 := Go.Proofs.Ytgoafbhhihfkfaa.below_setCells (b := w.heap.size) (Nat.le_refl _) (us 16 (xrs (f) (rk key (0)))) 0 _ (AB.drew.trans (hb2.mono (by rw [World.size_drew]; omega)))
    have B4 : w.heap.size + 1 + 1 ≤ (w2.setCells w.heap.size 0 (us 16 (xrs (f) (rk key (0))))).heap.size := by rw [size_setCells]; omega
    clear A1 A2 AB SZ hHeld
    generalize w2.setCells w.heap.size 0 (us 16 (xrs (f) (rk key (0)))) = V1 at B1 B2 B3 B4 ⊢
    clear hb2 hs2
    have A1 := B1
    have A2 := B2
    have AB := B3
    have SZ := B4
    clear B1 B2 B3 B4
    have A1 : Ar V1 w.heap.size 0 16 (fw (rk key) f 0) := A1
    have GL := unhide HFW 0
    have H1 := hide A1
    have H2 := hide A2
    have H3 := hide AB
    clear A1 A2 AB
    go_wp2_with fail
    go_step3
    go_wp2_with fail
    have A1 := unhide H1
    have A2 := unhide H2
    have AB := unhide H3
    clear H1 H2 H3
    have kt : Ar V1 cb 176 256 sub := ck_tab ((unhide HC).below AB hcb)
    have hpu := hide (put_any cb (fw (rk key) f (0)) GL V1.drew kt.drew)
    have hsh := hide (fun V => shifted_any (fw (rk key) f (0)) V)
    have R1 := hide A1.drew.range
    have KT := hide (fun (V : World) (h : Below V1.drew.heap.size V1.drew V) => (A1.drew.below h A1.lt).there)
    refine wp_region_held_drew (S := fun _ => True) (by kernel_rfl) True.intro (fun hHeld => ?_)
    refine wpAnyH_take (i := 1) (v := .pointer (some ⟨cb, 0, none⟩)) rfl (by kernel_rfl) (by kernel_rfl) (by kernel_rfl) (fun _ _ _ h => h) (Or.inl ⟨by rfl, ?_⟩) hHeld ?_
    · intro V hSw; go_simp
    try simp only [Act.put, List.getElem_toArray, List.getElem_cons_succ, List.getElem_cons_zero, List.setIfInBounds_toArray, List.set_cons_zero, List.set_cons_succ]
    refine wpAnyH_take (i := 2) (v := .pointer (some ⟨cb, 0, none⟩)) rfl (by kernel_rfl) (by kernel_rfl) (by kernel_rfl) (fun _ _ _ h => h) (Or.inl ⟨by rfl, ?_⟩) hHeld ?_
    · intro V hSw; go_simp
    try simp only [Act.put, List.getElem_toArray, List.getElem_cons_succ, List.getElem_cons_zero, List.setIfInBounds_toArray, List.set_cons_zero, List.set_cons_succ]
    refine wpAnyH_take (i := 3) (v := .pointer (some ⟨cb, 176, none⟩)) rfl (by kernel_rfl) (by kernel_rfl) (by kernel_rfl) (fun _ _ _ h => h) (Or.inl ⟨by rfl, ?_⟩) hHeld ?_
    · intro V hSw; go_simp
    try simp only [Act.put, List.getElem_toArray, List.getElem_cons_succ, List.getElem_cons_zero, List.setIfInBounds_toArray, List.set_cons_zero, List.set_cons_succ]
    refine wpAnyH_ready (rs := [0]) (by kernel_rfl) (by simp) ?_
    refine AllReadyH.cons rfl (fun K hK => ?_) AllReadyH.nil
    rw [if_pos (by rfl)]
    refine wp_load_mid 37 (.tmp 3) rfl w.heap.size 0 rfl (us 16 (fw (rk key) f (0))) _ (unhide R1) hu rfl (unhide HI _) ?_
    refine hK.out _ _ (True.intro) (fun hHeld => ?_)
    clear hK K
    try simp only [Act.put, List.getElem_toArray, List.getElem_cons_zero, List.setIfInBounds_toArray, List.set_cons_zero, List.set_cons_succ]
    refine wpAnyH_ready (rs := [4]) (by kernel_rfl) (by simp) ?_
    refine AllReadyH.cons rfl (fun K hK => ?_) AllReadyH.nil
    go_simp
    go_at_call 68
    with_reducible refine (unhide hpu).mono ?_
    rintro e w4 ⟨rfl, hb4⟩
    refine hK.out _ _ (True.intro) (fun hHeld => ?_)
    clear hK K
    try simp only [Act.put, List.getElem_toArray, List.getElem_cons_succ, List.getElem_cons_zero, List.setIfInBounds_toArray, List.set_cons_zero, List.set_cons_succ]
    refine wpAnyH_ready (rs := [5]) (by kernel_rfl) (by simp) ?_
    refine AllReadyH.cons rfl (fun K hK => ?_) AllReadyH.nil
    go_simp
    go_at_call 69
    with_reducible refine (unhide hsh _).mono ?_
    rintro e w2 ⟨rfl, hb5⟩
    have hb2 : Below V1.drew.heap.size V1.drew w2 := hb4.trans (hb5.mono hb4.size)
    refine hK.out _ _ (True.intro) (fun hHeld => ?_)
    clear hK K
    try simp only [Act.put, List.getElem_toArray, List.getElem_cons_succ, List.getElem_cons_zero, List.setIfInBounds_toArray, List.set_cons_zero, List.set_cons_succ]
    refine wpAnyH_ready (rs := [6]) (by kernel_rfl) (by simp) ?_
    refine AllReadyH.cons rfl (fun K hK => ?_) AllReadyH.nil
    rw [if_pos (by rfl)]
    refine wp_store_mid 37 (.tmp 3) (.tmp 18) rfl w.heap.size 0 (us 16 (sbs (fw (rk key) f (0)))).toArray rfl rfl (by rw [us_size]; exact unhide KT _ hb2) (by rw [us_size]; exact info_bl) (us_one _ _) ?_
    refine hK.out _ _ (True.intro) (fun hHeld => ?_)
    clear hK K
    try simp only [Act.put, List.getElem_toArray, List.getElem_cons_succ, List.getElem_cons_zero]
    refine wpAnyH_done (by kernel_rfl) ?_ _
    clear hb4 hb5 kt
    have hs2 := hb2.size
    rw [World.size_drew] at hs2
    have B1 := (A1.drew.below hb2 A1.lt).puts (g := sbs (fw (rk key) f (0)))
    have B2 := (A2.drew.below hb2 A2.lt).others (b' := w.heap.size) (o' := 0) (vs := us 16 (sbs (fw (rk key) f (0)))) (Or.inl (by omega))
    have B3 := Go.Proofs.Ytgoafbhhihfkfaa.below_setCells (b := w.heap.size) (Nat.le_refl _) (us 16 (sbs (fw (rk key) f (0)))) 0 _ (AB.drew.trans (hb2.mono (by rw [World.size_drew]; omega)))
    have B4 : w.heap.size + 1 + 1 ≤ (w2.setCells w.heap.size 0 (us 16 (sbs (fw (rk key) f (0))))).heap.size := by rw [size_setCells]; omega
    clear A1 A2 AB SZ hHeld
    generalize w2.setCells w.heap.size 0 (us 16 (sbs (fw (rk key) f (0)))) = V1 at B1 B2 B3 B4 ⊢
    clear hb2 hs2
    have A1 := B1
    have A2 := B2
    have AB := B3
    have SZ := B4
    clear B1 B2 B3 B4
    have H1 := hide A1
    have H2 := hide A2
    have H3 := hide AB
    clear A1 A2 AB
    have GL := sbs_lt _ (unhide HFW (0))
    go_upto_region 5 with fail
    refine wp_region_list ?_
    refine wpList_load_mid rfl 37 (.tmp 3) rfl w.heap.size 0 rfl (us 16 (sbs (fw (rk key) f (0)))) _ (unhide H1).range hu rfl (unhide HI _) ?_
    have hmi := hide (fun V => implBmixed (sbs (fw (rk key) f (0))) GL V)
    have hlm : (us 16 (mxb (sbs (fw (rk key) f (0))))).length = 16 := us_length _ _
    go_wp2_with (go_at_call 70; with_reducible refine (unhide hmi _).mono ?_; rintro e w2 ⟨rfl, hb2⟩)
    have C1 := (unhide H1).below hb2 (unhide H1).lt
    rw [C1.cellsPut]
    have hs2 := hb2.size
    have B1 := C1.puts (g := mxb (sbs (fw (rk key) f (0))))
    have B2 := ((unhide H2).below hb2 (unhide H2).lt).others (b' := w.heap.size) (o' := 0) (vs := us 16 (mxb (sbs (fw (rk key) f (0))))) (Or.inl (by omega))
    have B3 := Go.Proofs.Ytgoafbhhihfkfaa.below_setCells (b := w.heap.size) (Nat.le_refl _) (us 16 (mxb (sbs (fw (rk key) f (0))))) 0 _ ((unhide H3).trans (hb2.mono (by omega)))
    have B4 : w.heap.size + 1 + 1 ≤ (w2.setCells w.heap.size 0 (us 16 (mxb (sbs (fw (rk key) f (0)))))).heap.size := by rw [size_setCells]; omega
    clear H1 H2 H3 SZ C1 hlm
    generalize w2.setCells w.heap.size 0 (us 16 (mxb (sbs (fw (rk key) f (0))))) = V1 at B1 B2 B3 B4 ⊢
    clear hb2 hs2
    have H1 := hide B1
    have H2 := hide B2
    have H3 := hide B3
    have SZ := B4
    clear B1 B2 B3 B4
    have GL := mxb_lt _ (sbs_lt _ (unhide HFW (0)))
    go_wp2_with fail
    have A1 := unhide H1
    have A2 := unhide H2
    have AB := unhide H3
    clear H1 H2 H3
    have kk : Ar V1 cb (16) 16 (rk key (1)) := ck_keys ((unhide HC).below AB hcb) (1) (by omega)
    have hxo := hide (fun V => xored_any (mxb (sbs (fw (rk key) f (0)))) (rk key (1)) GL (hRK _) V)
    have R0 := hide kk.drew.range
    have R1 := hide A1.drew.range
    have KB := hide (fun (V : World) (h : Below V1.drew.heap.size V1.drew V) => (kk.drew.below h kk.lt).range)
    have KT := hide (fun (V : World) (h : Below V1.drew.heap.size V1.drew V) => (A1.drew.below h A1.lt).there)
    have KS := hide (fun (V : World) (h : Below V1.drew.heap.size V1.drew V) => ((kk.drew.below h kk.lt).others (b' := w.heap.size) (o' := 0) (vs := us 16 (xrs (mxb (sbs (fw (rk key) f (0)))) (rk key (1)))) (Or.inl (by omega))).range)
    refine wp_region_held_drew (S := fun V => V.rangeAt cb (16) (us 16 (rk key (1)))) (by kernel_rfl) (unhide R0) (fun hHeld => ?_)
    refine wpAnyH_take (i := 1) (v := .pointer (some ⟨cb, 0, none⟩)) rfl (by kernel_rfl) (by kernel_rfl) (by kernel_rfl) (fun _ _ _ h => h) (Or.inl ⟨by rfl, ?_⟩) hHeld ?_
    · intro V hSw; go_simp
    try simp only [Act.put, List.getElem_toArray, List.getElem_cons_succ, List.getElem_cons_zero, List.setIfInBounds_toArray, List.set_cons_zero, List.set_cons_succ]
    refine wpAnyH_take (i := 2) (v := .int .i64 1) rfl (by kernel_rfl) (by kernel_rfl) (by kernel_rfl) (fun _ _ _ h => h) (Or.inl ⟨by rfl, ?_⟩) hHeld ?_
    · intro V hSw; go_simp
    try simp only [Act.put, List.getElem_toArray, List.getElem_cons_succ, List.getElem_cons_zero, List.setIfInBounds_toArray, List.set_cons_zero, List.set_cons_succ]
    refine wpAnyH_take (i := 3) (v := .pointer (some ⟨cb, 0, none⟩)) rfl (by kernel_rfl) (by kernel_rfl) (by kernel_rfl) (fun _ _ _ h => h) (Or.inl ⟨by rfl, ?_⟩) hHeld ?_
    · intro V hSw; go_simp
    try simp only [Act.put, List.getElem_toArray, List.getElem_cons_succ, List.getElem_cons_zero, List.setIfInBounds_toArray, List.set_cons_zero, List.set_cons_succ]
    refine wpAnyH_take (i := 4) (v := .pointer (some ⟨cb, 0, none⟩)) rfl (by kernel_rfl) (by kernel_rfl) (by kernel_rfl) (fun _ _ _ h => h) (Or.inl ⟨by rfl, ?_⟩) hHeld ?_
    · intro V hSw; go_simp
    try simp only [Act.put, List.getElem_toArray, List.getElem_cons_succ, List.getElem_cons_zero, List.setIfInBounds_toArray, List.set_cons_zero, List.set_cons_succ]
    refine wpAnyH_take (i := 5) (v := .pointer (some ⟨cb, 16, none⟩)) rfl (by kernel_rfl) (by kernel_rfl) (by kernel_rfl) (fun _ _ _ h => h) (Or.inl ⟨by rfl, ?_⟩) hHeld ?_
    · intro V hSw; go_simp
    try simp only [Act.put, List.getElem_toArray, List.getElem_cons_succ, List.getElem_cons_zero, List.setIfInBounds_toArray, List.set_cons_zero, List.set_cons_succ]
    refine wpAnyH_take (i := 6) (v := .agg (us 16 (rk key (1))).toArray) rfl (by kernel_rfl) (by kernel_rfl) (by kernel_rfl) (fun _ _ _ h => h) (yieldsIf_load_mid (by rfl) 37 (.tmp 28) rfl (cb) (16) rfl (us 16 (rk key (1))) _ (fun V h => h) hu rfl (unhide HI _)) hHeld ?_
    try simp only [Act.put, List.getElem_toArray, List.getElem_cons_succ, List.getElem_cons_zero, List.setIfInBounds_toArray, List.set_cons_zero, List.set_cons_succ]
    refine wpAnyH_ready (rs := [0]) (by kernel_rfl) (by simp) ?_
    refine AllReadyH.cons rfl (fun K hK => ?_) AllReadyH.nil
    rw [if_pos (by rfl)]
    refine wp_load_mid 37 (.tmp 3) rfl w.heap.size 0 rfl (us 16 (mxb (sbs (fw (rk key) f (0))))) _ (unhide R1) hu rfl (unhide HI _) ?_
    refine hK.out _ _ (hHeld) (fun hHeld => ?_)
    clear hK K
    try simp only [Act.put, List.getElem_toArray, List.getElem_cons_zero, List.setIfInBounds_toArray, List.set_cons_zero, List.set_cons_succ]
    refine wpAnyH_ready (rs := [7]) (by kernel_rfl) (by simp) ?_
    refine AllReadyH.cons rfl (fun K hK => ?_) AllReadyH.nil
    go_simp
    go_at_call 58
    with_reducible refine (unhide hxo _).mono ?_
    rintro e w2 ⟨rfl, hb2⟩
    refine hK.out _ _ (unhide KB _ hb2) (fun hHeld => ?_)
    clear hK K
    try simp only [Act.put, List.getElem_toArray, List.getElem_cons_succ, List.getElem_cons_zero, List.setIfInBounds_toArray, List.set_cons_zero, List.set_cons_succ]
    refine wpAnyH_ready (rs := [8]) (by kernel_rfl) (by simp) ?_
    refine AllReadyH.cons rfl (fun K hK => ?_) AllReadyH.nil
    rw [if_pos (by rfl)]
    refine wp_store_mid 37 (.tmp 3) (.tmp 30) rfl w.heap.size 0 (us 16 (xrs (mxb (sbs (fw (rk key) f (0)))) (rk key (1)))).toArray rfl rfl (by rw [us_size]; exact unhide KT _ hb2) (by rw [us_size]; exact info_bl) (us_one _ _) ?_
    refine hK.out _ _ (unhide KS _ hb2) (fun hHeld => ?_)
    clear hK K
    try simp only [Act.put, List.getElem_toArray, List.getElem_cons_succ, List.getElem_cons_zero]
    refine wpAnyH_done (by kernel_rfl) ?_ _
    have hs2 := hb2.size
    rw [World.size_drew] at hs2
    have B1 := (A1.drew.below hb2 A1.lt).puts (g := xrs (mxb (sbs (fw (rk key) f (0)))) (rk key (1)))
    have B2 := (A2.drew.below hb2 A2.lt).others (b' := w.heap.size) (o' := 0) (vs := us 16 (xrs (mxb (sbs (fw (rk key) f (0)))) (rk key (1)))) (Or.inl (by omega))
    have B3 := Go.Proofs.Ytgoafbhhihfkfaa.below_setCells (b := w.heap.size) (Nat.le_refl _) (us 16 (xrs (mxb (sbs (fw (rk key) f (0)))) (rk key (1)))) 0 _ (AB.drew.trans (hb2.mono (by rw [World.size_drew]; omega)))
    have B4 : w.heap.size + 1 + 1 ≤ (w2.setCells w.heap.size 0 (us 16 (xrs (mxb (sbs (fw (rk key) f (0)))) (rk key (1))))).heap.size := by rw [size_setCells]; omega
    clear A1 A2 AB SZ hHeld
    generalize w2.setCells w.heap.size 0 (us 16 (xrs (mxb (sbs (fw (rk key) f (0)))) (rk key (1)))) = V1 at B1 B2 B3 B4 ⊢
    clear hb2 hs2
    have A1 := B1
    have A2 := B2
    have AB := B3
    have SZ := B4
    clear B1 B2 B3 B4
    have A1 : Ar V1 w.heap.size 0 16 (fw (rk key) f (0 + 1)) := by
      rw [fw_mid _ _ _ (by omega)]
      exact A1
    have H1 := hide A1
    have H2 := hide A2
    have H3 := hide AB
    clear A1 A2 AB
    go_wp2_with fail
    go_step3
    exact ⟨rfl, 1, by omega, by omega, ⟨_, _, _, _, _, _, _, _, _, _, _, _, _, _, _, _, _, _, _, _, _, _, _, _, _, _, _, _, _, _, rfl⟩, unhide H1, unhide H2, SZ, unhide H3⟩
  · rintro a' V1 ⟨m, hm1, hm9, ⟨u6, u7, u8, u9, u10, u11, u12, u13, u14, u15, u16, u17, u18, u19, u20, u21, u22, u23, u24, u25, u26, u27, u28, u29, u30, u31, u32, u33, u34, u35, rfl⟩, A1, A2, SZ, AB⟩
    have GL := unhide HFW m
    have H1 := hide A1
    have H2 := hide A2
    have H3 := hide AB
    clear A1 A2 AB
    have i1 : IntKind.i64.wrap ((m : Int) + 1) = (m : Int) + 1 := wraps_i64 _ (by omega) (by omega)
    have n1 : (0 : Int) ≤ (m : Int) + 1 ∧ (m : Int) + 1 < 11 := by omega
    have t1 : ((m : Int) + 1).toNat = m + 1 := by omega
    by_cases hlt : m < 9
    · go_wp2_with fail
      have A1 := unhide H1
      have A2 := unhide H2
      have AB := unhide H3
      clear H1 H2 H3
      have kt : Ar V1 cb 176 256 sub := ck_tab ((unhide HC).below AB hcb)
      have hpu := hide (put_any cb (fw (rk key) f (m)) GL V1.drew kt.drew)
      have hsh := hide (fun V => shifted_any (fw (rk key) f (m)) V)
      have R1 := hide A1.drew.range
      have KT := hide (fun (V : World) (h : Below V1.drew.heap.size V1.drew V) => (A1.drew.below h A1.lt).there)
      refine wp_region_held_drew (S := fun _ => True) (by kernel_rfl) True.intro (fun hHeld => ?_)
      refine wpAnyH_take (i := 1) (v := .pointer (some ⟨cb, 0, none⟩)) rfl (by kernel_rfl) (by kernel_rfl) (by kernel_rfl) (fun _ _ _ h => h) (Or.inl ⟨by rfl, ?_⟩) hHeld ?_
      · intro V hSw; go_simp
      try simp only [Act.put, List.getElem_toArray, List.getElem_cons_succ, List.getElem_cons_zero, List.setIfInBounds_toArray, List.set_cons_zero, List.set_cons_succ]
      refine wpAnyH_take (i := 2) (v := .pointer (some ⟨cb, 0, none⟩)) rfl (by kernel_rfl) (by kernel_rfl) (by kernel_rfl) (fun _ _ _ h => h) (Or.inl ⟨by rfl, ?_⟩) hHeld ?_
      · intro V hSw; go_simp
      try simp only [Act.put, List.getElem_toArray, List.getElem_cons_succ, List.getElem_cons_zero, List.setIfInBounds_toArray, List.set_cons_zero, List.set_cons_succ]
      refine wpAnyH_take (i := 3) (v := .pointer (some ⟨cb, 176, none⟩)) rfl (by kernel_rfl) (by kernel_rfl) (by kernel_rfl) (fun _ _ _ h => h) (Or.inl ⟨by rfl, ?_⟩) hHeld ?_
      · intro V hSw; go_simp
      try simp only [Act.put, List.getElem_toArray, List.getElem_cons_succ, List.getElem_cons_zero, List.setIfInBounds_toArray, List.set_cons_zero, List.set_cons_succ]
      refine wpAnyH_ready (rs := [0]) (by kernel_rfl) (by simp) ?_
      refine AllReadyH.cons rfl (fun K hK => ?_) AllReadyH.nil
      rw [if_pos (by rfl)]
      refine wp_load_mid 37 (.tmp 3) rfl w.heap.size 0 rfl (us 16 (fw (rk key) f (m))) _ (unhide R1) hu rfl (unhide HI _) ?_
      refine hK.out _ _ (True.intro) (fun hHeld => ?_)
      clear hK K
      try simp only [Act.put, List.getElem_toArray, List.getElem_cons_zero, List.setIfInBounds_toArray, List.set_cons_zero, List.set_cons_succ]
      refine wpAnyH_ready (rs := [4]) (by kernel_rfl) (by simp) ?_
      refine AllReadyH.cons rfl (fun K hK => ?_) AllReadyH.nil
      go_simp
      go_at_call 68
      with_reducible refine (unhide hpu).mono ?_
      rintro e w4 ⟨rfl, hb4⟩
      refine hK.out _ _ (True.intro) (fun hHeld => ?_)
      clear hK K
      try simp only [Act.put, List.getElem_toArray, List.getElem_cons_succ, List.getElem_cons_zero, List.setIfInBounds_toArray, List.set_cons_zero, List.set_cons_succ]
      refine wpAnyH_ready (rs := [5]) (by kernel_rfl) (by simp) ?_
      refine AllReadyH.cons rfl (fun K hK => ?_) AllReadyH.nil
      go_simp
      go_at_call 69
      with_reducible refine (unhide hsh _).mono ?_
      rintro e w2 ⟨rfl, hb5⟩
      have hb2 : Below V1.drew.heap.size V1.drew w2 := hb4.trans (hb5.mono hb4.size)
      refine hK.out _ _ (True.intro) (fun hHeld => ?_)
      clear hK K
      try simp only [Act.put, List.getElem_toArray, List.getElem_cons_succ, List.getElem_cons_zero, List.setIfInBounds_toArray, List.set_cons_zero, List.set_cons_succ]
      refine wpAnyH_ready (rs := [6]) (by kernel_rfl) (by simp) ?_
      refine AllReadyH.cons rfl (fun K hK => ?_) AllReadyH.nil
      rw [if_pos (by rfl)]
      refine wp_store_mid 37 (.tmp 3) (.tmp 18) rfl w.heap.size 0 (us 16 (sbs (fw (rk key) f (m)))).toArray rfl rfl (by rw [us_size]; exact unhide KT _ hb2) (by rw [us_size]; exact info_bl) (us_one _ _) ?_
      refine hK.out _ _ (True.intro) (fun hHeld => ?_)
      clear hK K
      try simp only [Act.put, List.getElem_toArray, List.getElem_cons_succ, List.getElem_cons_zero]
      refine wpAnyH_done (by kernel_rfl) ?_ _
      clear hb4 hb5 kt
      have hs2 := hb2.size
      rw [World.size_drew] at hs2
      have B1 := (A1.drew.below hb2 A1.lt).puts (g := sbs (fw (rk key) f (m)))
      have B2 := (A2.drew.below hb2 A2.lt).others (b' := w.heap.size) (o' := 0) (vs := us 16 (sbs (fw (rk key) f (m)))) (Or.inl (by omega))
      have B3 := Go.Proofs.Ytgoafbhhihfkfaa.below_setCells (b := w.heap.size) (Nat.le_refl _) (us 16 (sbs (fw (rk key) f (m)))) 0 _ (AB.drew.trans (hb2.mono (by rw [World.size_drew]; omega)))
      have B4 : w.heap.size + 1 + 1 ≤ (w2.setCells w.heap.size 0 (us 16 (sbs (fw (rk key) f (m))))).heap.size := by rw [size_setCells]; omega
      clear A1 A2 AB SZ hHeld
      generalize w2.setCells w.heap.size 0 (us 16 (sbs (fw (rk key) f (m)))) = V1 at B1 B2 B3 B4 ⊢
      clear hb2 hs2
      have A1 := B1
      have A2 := B2
      have AB := B3
      have SZ := B4
      clear B1 B2 B3 B4
      have H1 := hide A1
      have H2 := hide A2
      have H3 := hide AB
      clear A1 A2 AB
      have GL := sbs_lt _ (unhide HFW (m))
      go_upto_region 5 with fail
      refine wp_region_list ?_
      refine wpList_load_mid rfl 37 (.tmp 3) rfl w.heap.size 0 rfl (us 16 (sbs (fw (rk key) f (m)))) _ (unhide H1).range hu rfl (unhide HI _) ?_
      have hmi := hide (fun V => implBmixed (sbs (fw (rk key) f (m))) GL V)
      have hlm : (us 16 (mxb (sbs (fw (rk key) f (m))))).length = 16 := us_length _ _
      go_wp2_with (go_at_call 70; with_reducible refine (unhide hmi _).mono ?_; rintro e w2 ⟨rfl, hb2⟩)
      have C1 := (unhide H1).below hb2 (unhide H1).lt
      rw [C1.cellsPut]
      have hs2 := hb2.size
      have B1 := C1.puts (g := mxb (sbs (fw (rk key) f (m))))
      have B2 := ((unhide H2).below hb2 (unhide H2).lt).others (b' := w.heap.size) (o' := 0) (vs := us 16 (mxb (sbs (fw (rk key) f (m))))) (Or.inl (by omega))
      have B3 := Go.Proofs.Ytgoafbhhihfkfaa.below_setCells (b := w.heap.size) (Nat.le_refl _) (us 16 (mxb (sbs (fw (rk key) f (m))))) 0 _ ((unhide H3).trans (hb2.mono (by omega)))
      have B4 : w.heap.size + 1 + 1 ≤ (w2.setCells w.heap.size 0 (us 16 (mxb (sbs (fw (rk key) f (m)))))).heap.size := by rw [size_setCells]; omega
      clear H1 H2 H3 SZ C1 hlm
      generalize w2.setCells w.heap.size 0 (us 16 (mxb (sbs (fw (rk key) f (m))))) = V1 at B1 B2 B3 B4 ⊢
      clear hb2 hs2
      have H1 := hide B1
      have H2 := hide B2
      have H3 := hide B3
      have SZ := B4
      clear B1 B2 B3 B4
      have GL := mxb_lt _ (sbs_lt _ (unhide HFW (m)))
      go_wp2_with fail
      have A1 := unhide H1
      have A2 := unhide H2
      have AB := unhide H3
      clear H1 H2 H3
      have kk : Ar V1 cb ((m + 1) * 16) 16 (rk key (m + 1)) := ck_keys ((unhide HC).below AB hcb) (m + 1) (by omega)
      have hxo := hide (fun V => xored_any (mxb (sbs (fw (rk key) f (m)))) (rk key (m + 1)) GL (hRK _) V)
      have R0 := hide kk.drew.range
      have R1 := hide A1.drew.range
      have KB := hide (fun (V : World) (h : Below V1.drew.heap.size V1.drew V) => (kk.drew.below h kk.lt).range)
      have KT := hide (fun (V : World) (h : Below V1.drew.heap.size V1.drew V) => (A1.drew.below h A1.lt).there)
      have KS := hide (fun (V : World) (h : Below V1.drew.heap.size V1.drew V) => ((kk.drew.below h kk.lt).others (b' := w.heap.size) (o' := 0) (vs := us 16 (xrs (mxb (sbs (fw (rk key) f (m)))) (rk key (m + 1)))) (Or.inl (by omega))).range)
      refine wp_region_held_drew (S := fun V => V.rangeAt cb ((m + 1) * 16) (us 16 (rk key (m + 1)))) (by kernel_rfl) (unhide R0) (fun hHeld => ?_)
      refine wpAnyH_take (i := 1) (v := .pointer (some ⟨cb, 0, none⟩)) rfl (by kernel_rfl) (by kernel_rfl) (by kernel_rfl) (fun _ _ _ h => h) (Or.inl ⟨by rfl, ?_⟩) hHeld ?_
      · intro V hSw; go_simp
      try simp only [Act.put, List.getElem_toArray, List.getElem_cons_succ, List.getElem_cons_zero, List.setIfInBounds_toArray, List.set_cons_zero, List.set_cons_succ]
      refine wpAnyH_take (i := 2) (v := .int .i64 ((m : Int) + 1)) rfl (by kernel_rfl) (by kernel_rfl) (by kernel_rfl) (fun _ _ _ h => h) (Or.inl ⟨by rfl, ?_⟩) hHeld ?_
      · intro V hSw; go_simp
      try simp only [Act.put, List.getElem_toArray, List.getElem_cons_succ, List.getElem_cons_zero, List.setIfInBounds_toArray, List.set_cons_zero, List.set_cons_succ]
      refine wpAnyH_take (i := 3) (v := .pointer (some ⟨cb, 0, none⟩)) rfl (by kernel_rfl) (by kernel_rfl) (by kernel_rfl) (fun _ _ _ h => h) (Or.inl ⟨by rfl, ?_⟩) hHeld ?_
      · intro V hSw; go_simp
      try simp only [Act.put, List.getElem_toArray, List.getElem_cons_succ, List.getElem_cons_zero, List.setIfInBounds_toArray, List.set_cons_zero, List.set_cons_succ]
      refine wpAnyH_take (i := 4) (v := .pointer (some ⟨cb, 0, none⟩)) rfl (by kernel_rfl) (by kernel_rfl) (by kernel_rfl) (fun _ _ _ h => h) (Or.inl ⟨by rfl, ?_⟩) hHeld ?_
      · intro V hSw; go_simp
      try simp only [Act.put, List.getElem_toArray, List.getElem_cons_succ, List.getElem_cons_zero, List.setIfInBounds_toArray, List.set_cons_zero, List.set_cons_succ]
      refine wpAnyH_take (i := 5) (v := .pointer (some ⟨cb, (m + 1) * 16, none⟩)) rfl (by kernel_rfl) (by kernel_rfl) (by kernel_rfl) (fun _ _ _ h => h) (Or.inl ⟨by rfl, ?_⟩) hHeld ?_
      · intro V hSw; go_simp
      try simp only [Act.put, List.getElem_toArray, List.getElem_cons_succ, List.getElem_cons_zero, List.setIfInBounds_toArray, List.set_cons_zero, List.set_cons_succ]
      refine wpAnyH_take (i := 6) (v := .agg (us 16 (rk key (m + 1))).toArray) rfl (by kernel_rfl) (by kernel_rfl) (by kernel_rfl) (fun _ _ _ h => h) (yieldsIf_load_mid (by rfl) 37 (.tmp 28) rfl (cb) ((m + 1) * 16) rfl (us 16 (rk key (m + 1))) _ (fun V h => h) hu rfl (unhide HI _)) hHeld ?_
      try simp only [Act.put, List.getElem_toArray, List.getElem_cons_succ, List.getElem_cons_zero, List.setIfInBounds_toArray, List.set_cons_zero, List.set_cons_succ]
      refine wpAnyH_ready (rs := [0]) (by kernel_rfl) (by simp) ?_
      refine AllReadyH.cons rfl (fun K hK => ?_) AllReadyH.nil
      rw [if_pos (by rfl)]
      refine wp_load_mid 37 (.tmp 3) rfl w.heap.size 0 rfl (us 16 (mxb (sbs (fw (rk key) f (m))))) _ (unhide R1) hu rfl (unhide HI _) ?_
      refine hK.out _ _ (hHeld) (fun hHeld => ?_)
      clear hK K
      try simp only [Act.put, List.getElem_toArray, List.getElem_cons_zero, List.setIfInBounds_toArray, List.set_cons_zero, List.set_cons_succ]
      refine wpAnyH_ready (rs := [7]) (by kernel_rfl) (by simp) ?_
      refine AllReadyH.cons rfl (fun K hK => ?_) AllReadyH.nil
      go_simp
      go_at_call 58
      with_reducible refine (unhide hxo _).mono ?_
      rintro e w2 ⟨rfl, hb2⟩
      refine hK.out _ _ (unhide KB _ hb2) (fun hHeld => ?_)
      clear hK K
      try simp only [Act.put, List.getElem_toArray, List.getElem_cons_succ, List.getElem_cons_zero, List.setIfInBounds_toArray, List.set_cons_zero, List.set_cons_succ]
      refine wpAnyH_ready (rs := [8]) (by kernel_rfl) (by simp) ?_
      refine AllReadyH.cons rfl (fun K hK => ?_) AllReadyH.nil
      rw [if_pos (by rfl)]
      refine wp_store_mid 37 (.tmp 3) (.tmp 30) rfl w.heap.size 0 (us 16 (xrs (mxb (sbs (fw (rk key) f (m)))) (rk key (m + 1)))).toArray rfl rfl (by rw [us_size]; exact unhide KT _ hb2) (by rw [us_size]; exact info_bl) (us_one _ _) ?_
      refine hK.out _ _ (unhide KS _ hb2) (fun hHeld => ?_)
      clear hK K
      try simp only [Act.put, List.getElem_toArray, List.getElem_cons_succ, List.getElem_cons_zero]
      refine wpAnyH_done (by kernel_rfl) ?_ _
      have hs2 := hb2.size
      rw [World.size_drew] at hs2
      have B1 := (A1.drew.below hb2 A1.lt).puts (g := xrs (mxb (sbs (fw (rk key) f (m)))) (rk key (m + 1)))
      have B2 := (A2.drew.below hb2 A2.lt).others (b' := w.heap.size) (o' := 0) (vs := us 16 (xrs (mxb (sbs (fw (rk key) f (m)))) (rk key (m + 1)))) (Or.inl (by omega))
      have B3 := Go.Proofs.Ytgoafbhhihfkfaa.below_setCells (b := w.heap.size) (Nat.le_refl _) (us 16 (xrs (mxb (sbs (fw (rk key) f (m)))) (rk key (m + 1)))) 0 _ (AB.drew.trans (hb2.mono (by rw [World.size_drew]; omega)))
      have B4 : w.heap.size + 1 + 1 ≤ (w2.setCells w.heap.size 0 (us 16 (xrs (mxb (sbs (fw (rk key) f (m)))) (rk key (m + 1))))).heap.size := by rw [size_setCells]; omega
      clear A1 A2 AB SZ hHeld
      generalize w2.setCells w.heap.size 0 (us 16 (xrs (mxb (sbs (fw (rk key) f (m)))) (rk key (m + 1)))) = V1 at B1 B2 B3 B4 ⊢
      clear hb2 hs2
      have A1 := B1
      have A2 := B2
      have AB := B3
      have SZ := B4
      clear B1 B2 B3 B4
      have A1 : Ar V1 w.heap.size 0 16 (fw (rk key) f (m + 1)) := by
        rw [fw_mid _ _ _ (by omega)]
        exact A1
      have H1 := hide A1
      have H2 := hide A2
      have H3 := hide AB
      clear A1 A2 AB
      go_wp2_with fail
      go_step3
      refine ⟨rfl, ⟨m + 1, by omega, by omega, ⟨_, _, _, _, _, _, _, _, _, _, _, _, _, _, _, _, _, _, _, _, _, _, _, _, _, _, _, _, _, _, rfl⟩, unhide H1, unhide H2, SZ, unhide H3⟩, ?_⟩
      simp [intOf]; omega
    · have e9 : m = 9 := by omega
      subst e9
      go_wp2_with fail
      have A1 := unhide H1
      have A2 := unhide H2
      have AB := unhide H3
      clear H1 H2 H3
      have kt : Ar V1 cb 176 256 sub := ck_tab ((unhide HC).below AB hcb)
      have hpu := hide (put_any cb (fw (rk key) f (9)) GL V1.drew kt.drew)
      have hsh := hide (fun V => shifted_any (fw (rk key) f (9)) V)
      have R1 := hide A1.drew.range
      have KT := hide (fun (V : World) (h : Below V1.drew.heap.size V1.drew V) => (A1.drew.below h A1.lt).there)
      refine wp_region_held_drew (S := fun _ => True) (by kernel_rfl) True.intro (fun hHeld => ?_)
      refine wpAnyH_take (i := 1) (v := .pointer (some ⟨cb, 0, none⟩)) rfl (by kernel_rfl) (by kernel_rfl) (by kernel_rfl) (fun _ _ _ h => h) (Or.inl ⟨by rfl, ?_⟩) hHeld ?_
      · intro V hSw; go_simp
      try simp only [Act.put, List.getElem_toArray, List.getElem_cons_succ, List.getElem_cons_zero, List.setIfInBounds_toArray, List.set_cons_zero, List.set_cons_succ]
      refine wpAnyH_take (i := 2) (v := .pointer (some ⟨cb, 0, none⟩)) rfl (by kernel_rfl) (by kernel_rfl) (by kernel_rfl) (fun _ _ _ h => h) (Or.inl ⟨by rfl, ?_⟩) hHeld ?_
      · intro V hSw; go_simp
      try simp only [Act.put, List.getElem_toArray, List.getElem_cons_succ, List.getElem_cons_zero, List.setIfInBounds_toArray, List.set_cons_zero, List.set_cons_succ]
      refine wpAnyH_take (i := 3) (v := .pointer (some ⟨cb, 176, none⟩)) rfl (by kernel_rfl) (by kernel_rfl) (by kernel_rfl) (fun _ _ _ h => h) (Or.inl ⟨by rfl, ?_⟩) hHeld ?_
      · intro V hSw; go_simp
      try simp only [Act.put, List.getElem_toArray, List.getElem_cons_succ, List.getElem_cons_zero, List.setIfInBounds_toArray, List.set_cons_zero, List.set_cons_succ]
      refine wpAnyH_ready (rs := [0]) (by kernel_rfl) (by simp) ?_
      refine AllReadyH.cons rfl (fun K hK => ?_) AllReadyH.nil
      rw [if_pos (by rfl)]
      refine wp_load_mid 37 (.tmp 3) rfl w.heap.size 0 rfl (us 16 (fw (rk key) f (9))) _ (unhide R1) hu rfl (unhide HI _) ?_
      refine hK.out _ _ (True.intro) (fun hHeld => ?_)
      clear hK K
      try simp only [Act.put, List.getElem_toArray, List.getElem_cons_zero, List.setIfInBounds_toArray, List.set_cons_zero, List.set_cons_succ]
      refine wpAnyH_ready (rs := [4]) (by kernel_rfl) (by simp) ?_
      refine AllReadyH.cons rfl (fun K hK => ?_) AllReadyH.nil
      go_simp
      go_at_call 68
      with_reducible refine (unhide hpu).mono ?_
      rintro e w4 ⟨rfl, hb4⟩
      refine hK.out _ _ (True.intro) (fun hHeld => ?_)
      clear hK K
      try simp only [Act.put, List.getElem_toArray, List.getElem_cons_succ, List.getElem_cons_zero, List.setIfInBounds_toArray, List.set_cons_zero, List.set_cons_succ]
      refine wpAnyH_ready (rs := [5]) (by kernel_rfl) (by simp) ?_
      refine AllReadyH.cons rfl (fun K hK => ?_) AllReadyH.nil
      go_simp
      go_at_call 69
      with_reducible refine (unhide hsh _).mono ?_
      rintro e w2 ⟨rfl, hb5⟩
      have hb2 : Below V1.drew.heap.size V1.drew w2 := hb4.trans (hb5.mono hb4.size)
      refine hK.out _ _ (True.intro) (fun hHeld => ?_)
      clear hK K
      try simp only [Act.put, List.getElem_toArray, List.getElem_cons_succ, List.getElem_cons_zero, List.setIfInBounds_toArray, List.set_cons_zero, List.set_cons_succ]
      refine wpAnyH_ready (rs := [6]) (by kernel_rfl) (by simp) ?_
      refine AllReadyH.cons rfl (fun K hK => ?_) AllReadyH.nil
      rw [if_pos (by rfl)]
      refine wp_store_mid 37 (.tmp 3) (.tmp 18) rfl w.heap.size 0 (us 16 (sbs (fw (rk key) f (9)))).toArray rfl rfl (by rw [us_size]; exact unhide KT _ hb2) (by rw [us_size]; exact info_bl) (us_one _ _) ?_
      refine hK.out _ _ (True.intro) (fun hHeld => ?_)
      clear hK K
      try simp only [Act.put, List.getElem_toArray, List.getElem_cons_succ, List.getElem_cons_zero]
      refine wpAnyH_done (by kernel_rfl) ?_ _
      clear hb4 hb5 kt
      have hs2 := hb2.size
      rw [World.size_drew] at hs2
      have B1 := (A1.drew.below hb2 A1.lt).puts (g := sbs (fw (rk key) f (9)))
      have B2 := (A2.drew.below hb2 A2.lt).others (b' := w.heap.size) (o' := 0) (vs := us 16 (sbs (fw (rk key) f (9)))) (Or.inl (by omega))
      have B3 := Go.Proofs.Ytgoafbhhihfkfaa.below_setCells (b := w.heap.size) (Nat.le_refl _) (us 16 (sbs (fw (rk key) f (9)))) 0 _ (AB.drew.trans (hb2.mono (by rw [World.size_drew]; omega)))
      have B4 : w.heap.size + 1 + 1 ≤ (w2.setCells w.heap.size 0 (us 16 (sbs (fw (rk key) f (9))))).heap.size := by rw [size_setCells]; omega
      clear A1 A2 AB SZ hHeld
      generalize w2.setCells w.heap.size 0 (us 16 (sbs (fw (rk key) f (9)))) = V1 at B1 B2 B3 B4 ⊢
      clear hb2 hs2
      have A1 := B1
      have A2 := B2
      have AB := B3
      have SZ := B4
      clear B1 B2 B3 B4
      have H1 := hide A1
      have H2 := hide A2
      have H3 := hide AB
      clear A1 A2 AB
      have GL := sbs_lt _ (unhide HFW (9))
      go_wp2_with fail
      have A1 := unhide H1
      have A2 := unhide H2
      have AB := unhide H3
      clear H1 H2 H3
      have kk : Ar V1 cb ((9 + 1) * 16) 16 (rk key (9 + 1)) := ck_keys ((unhide HC).below AB hcb) (9 + 1) (by omega)
      have hxo := hide (fun V => xored_any (sbs (fw (rk key) f (9))) (rk key (9 + 1)) GL (hRK _) V)
      have R0 := hide kk.drew.range
      have R1 := hide A1.drew.range
      have KB := hide (fun (V : World) (h : Below V1.drew.heap.size V1.drew V) => (kk.drew.below h kk.lt).range)
      have KT := hide (fun (V : World) (h : Below V1.drew.heap.size V1.drew V) => (A1.drew.below h A1.lt).there)
      have KS := hide (fun (V : World) (h : Below V1.drew.heap.size V1.drew V) => ((kk.drew.below h kk.lt).others (b' := w.heap.size) (o' := 0) (vs := us 16 (xrs (sbs (fw (rk key) f (9))) (rk key (9 + 1)))) (Or.inl (by omega))).range)
      refine wp_region_held_drew (S := fun V => V.rangeAt cb ((9 + 1) * 16) (us 16 (rk key (9 + 1)))) (by kernel_rfl) (unhide R0) (fun hHeld => ?_)
      refine wpAnyH_take (i := 1) (v := .pointer (some ⟨cb, 0, none⟩)) rfl (by kernel_rfl) (by kernel_rfl) (by kernel_rfl) (fun _ _ _ h => h) (Or.inl ⟨by rfl, ?_⟩) hHeld ?_
      · intro V hSw; go_simp
      try simp only [Act.put, List.getElem_toArray, List.getElem_cons_succ, List.getElem_cons_zero, List.setIfInBounds_toArray, List.set_cons_zero, List.set_cons_succ]
      refine wpAnyH_take (i := 2) (v := .int .i64 (((9 : Nat) : Int) + 1)) rfl (by kernel_rfl) (by kernel_rfl) (by kernel_rfl) (fun _ _ _ h => h) (Or.inl ⟨by rfl, ?_⟩) hHeld ?_
      · intro V hSw; go_simp
      try simp only [Act.put, List.getElem_toArray, List.getElem_cons_succ, List.getElem_cons_zero, List.setIfInBounds_toArray, List.set_cons_zero, List.set_cons_succ]
      refine wpAnyH_take (i := 3) (v := .pointer (some ⟨cb, 0, none⟩)) rfl (by kernel_rfl) (by kernel_rfl) (by kernel_rfl) (fun _ _ _ h => h) (Or.inl ⟨by rfl, ?_⟩) hHeld ?_
      · intro V hSw; go_simp
      try simp only [Act.put, List.getElem_toArray, List.getElem_cons_succ, List.getElem_cons_zero, List.setIfInBounds_toArray, List.set_cons_zero, List.set_cons_succ]
      refine wpAnyH_take (i := 4) (v := .pointer (some ⟨cb, 0, none⟩)) rfl (by kernel_rfl) (by kernel_rfl) (by kernel_rfl) (fun _ _ _ h => h) (Or.inl ⟨by rfl, ?_⟩) hHeld ?_
      · intro V hSw; go_simp
      try simp only [Act.put, List.getElem_toArray, List.getElem_cons_succ, List.getElem_cons_zero, List.setIfInBounds_toArray, List.set_cons_zero, List.set_cons_succ]
      refine wpAnyH_take (i := 5) (v := .pointer (some ⟨cb, (9 + 1) * 16, none⟩)) rfl (by kernel_rfl) (by kernel_rfl) (by kernel_rfl) (fun _ _ _ h => h) (Or.inl ⟨by rfl, ?_⟩) hHeld ?_
      · intro V hSw; go_simp
      try simp only [Act.put, List.getElem_toArray, List.getElem_cons_succ, List.getElem_cons_zero, List.setIfInBounds_toArray, List.set_cons_zero, List.set_cons_succ]
      refine wpAnyH_take (i := 6) (v := .agg (us 16 (rk key (9 + 1))).toArray) rfl (by kernel_rfl) (by kernel_rfl) (by kernel_rfl) (fun _ _ _ h => h) (yieldsIf_load_mid (by rfl) 37 (.tmp 28) rfl (cb) ((9 + 1) * 16) rfl (us 16 (rk key (9 + 1))) _ (fun V h => h) hu rfl (unhide HI _)) hHeld ?_
      try simp only [Act.put, List.getElem_toArray, List.getElem_cons_succ, List.getElem_cons_zero, List.setIfInBounds_toArray, List.set_cons_zero, List.set_cons_succ]
      refine wpAnyH_ready (rs := [0]) (by kernel_rfl) (by simp) ?_
      refine AllReadyH.cons rfl (fun K hK => ?_) AllReadyH.nil
      rw [if_pos (by rfl)]
      refine wp_load_mid 37 (.tmp 3) rfl w.heap.size 0 rfl (us 16 (sbs (fw (rk key) f (9)))) _ (unhide R1) hu rfl (unhide HI _) ?_
      refine hK.out _ _ (hHeld) (fun hHeld => ?_)
      clear hK K
      try simp only [Act.put, List.getElem_toArray, List.getElem_cons_zero, List.setIfInBounds_toArray, List.set_cons_zero, List.set_cons_succ]
      refine wpAnyH_ready (rs := [7]) (by kernel_rfl) (by simp) ?_
      refine AllReadyH.cons rfl (fun K hK => ?_) AllReadyH.nil
      go_simp
      go_at_call 58
      with_reducible refine (unhide hxo _).mono ?_
      rintro e w2 ⟨rfl, hb2⟩
      refine hK.out _ _ (unhide KB _ hb2) (fun hHeld => ?_)
      clear hK K
      try simp only [Act.put, List.getElem_toArray, List.getElem_cons_succ, List.getElem_cons_zero, List.setIfInBounds_toArray, List.set_cons_zero, List.set_cons_succ]
      refine wpAnyH_ready (rs := [8]) (by kernel_rfl) (by simp) ?_
      refine AllReadyH.cons rfl (fun K hK => ?_) AllReadyH.nil
      rw [if_pos (by rfl)]
      refine wp_store_mid 37 (.tmp 3) (.tmp 30) rfl w.heap.size 0 (us 16 (xrs (sbs (fw (rk key) f (9))) (rk key (9 + 1)))).toArray rfl rfl (by rw [us_size]; exact unhide KT _ hb2) (by rw [us_size]; exact info_bl) (us_one _ _) ?_
      refine hK.out _ _ (unhide KS _ hb2) (fun hHeld => ?_)
      clear hK K
      try simp only [Act.put, List.getElem_toArray, List.getElem_cons_succ, List.getElem_cons_zero]
      refine wpAnyH_done (by kernel_rfl) ?_ _
      have hs2 := hb2.size
      rw [World.size_drew] at hs2
      have B1 := (A1.drew.below hb2 A1.lt).puts (g := xrs (sbs (fw (rk key) f (9))) (rk key (9 + 1)))
      have B2 := (A2.drew.below hb2 A2.lt).others (b' := w.heap.size) (o' := 0) (vs := us 16 (xrs (sbs (fw (rk key) f (9))) (rk key (9 + 1)))) (Or.inl (by omega))
      have B3 := Go.Proofs.Ytgoafbhhihfkfaa.below_setCells (b := w.heap.size) (Nat.le_refl _) (us 16 (xrs (sbs (fw (rk key) f (9))) (rk key (9 + 1)))) 0 _ (AB.drew.trans (hb2.mono (by rw [World.size_drew]; omega)))
      have B4 : w.heap.size + 1 + 1 ≤ (w2.setCells w.heap.size 0 (us 16 (xrs (sbs (fw (rk key) f (9))) (rk key (9 + 1))))).heap.size := by rw [size_setCells]; omega
      clear A1 A2 AB SZ hHeld
      generalize w2.setCells w.heap.size 0 (us 16 (xrs (sbs (fw (rk key) f (9))) (rk key (9 + 1)))) = V1 at B1 B2 B3 B4 ⊢
      clear hb2 hs2
      have A1 := B1
      have A2 := B2
      have AB := B3
      have SZ := B4
      clear B1 B2 B3 B4
      have A1 : Ar V1 w.heap.size 0 16 (fw (rk key) f (9 + 1)) := by
        rw [fw_last]
        exact A1
      have HH := hide (A2.puts (g := fw (rk key) f (9 + 1)))
      go_upto_region 9 with fail
      refine wp_region_list ?_
      refine wpList_load_mid rfl 37 (.tmp 3) rfl w.heap.size 0 rfl (us 16 (fw (rk key) f (9 + 1))) _ A1.range hu rfl (unhide HI _) ?_
      refine wpList_store_mid rfl 37 (.tmp 4) (.tmp 35) rfl (w.heap.size + 1) 0 (us 16 (fw (rk key) f (9 + 1))).toArray rfl rfl (by rw [us_size]; exact A2.there) (by rw [us_size]; exact info_bl) (us_one _ _) ?_
      refine wpList_nil ?_
      have H3 := hide AB
      clear A1 A2 AB
      go_wp2_with fail
      simp only [Exit.jump]
      refine ret_arr 4 (w.heap.size + 1) 16 37 _ (fw (rk key) f (9 + 1)) ?r1 ?r2 ?r3 (unhide HH) Try.underlying37 rfl info_bl ?_
      case r1 => rfl
      case r2 => rfl
      case r3 => rfl
      exact ⟨rfl, Go.Proofs.Ytgoafbhhihfkfaa.below_setCells (by omega) _ _ _ (unhide H3)⟩
end Go.Proofs.Ytgoafbhhihfkfaa
namespace Go.Proofs.Ytgoafbhhihfkfaa
open Go.ChangeShapes Go.WideShapes Go.ChangeAt Go.RowKit
set_option linter.unusedVariables false
set_option maxRecDepth 100000


end Go.Proofs.Ytgoafbhhihfkfaa
namespace Go.Proofs.Ytgoafbhhihfkfaa
open Go.ChangeShapes Go.WideShapes Go.ChangeAt Go.RowKit
set_option linter.unusedVariables false
set_option maxRecDepth 100000

/-- the byte k of a number -/
def byV (v k : Nat) : Nat := v / 256 ^ k % 256
theorem byV_lt (v k : Nat) : byV v k < 256 := Nat.mod_lt _ (by omega)
/-- the number in the last four bytes -/
def nb4 (f : Nat → Nat) : Nat := f 12 * 16777216 + f 13 * 65536 + f 14 * 256 + f 15
/-- a block that has counted n further -/
def plB (f : Nat → Nat) (n i : Nat) : Nat := if i < 12 then f i else byV (nb4 f + n) (15 - i)
theorem plB_def (f : Nat → Nat) (n i : Nat) : plB f n i = if i < 12 then f i else byV (nb4 f + n) (15 - i) := by unfold plB; rfl
theorem plB_lt (f : Nat → Nat) (hf : ∀ i, f i < 256) (n i : Nat) : plB f n i < 256 := by
  unfold plB
  split
  · exact hf i
  · exact byV_lt _ _
theorem byV_eq (a b : Nat) (h : ∀ k, k < 4 → byV a k = byV b k) : a % 4294967296 = b % 4294967296 := by
  have h0 := h 0 (by omega)
  have h1 := h 1 (by omega)
  have h2 := h 2 (by omega)
  have h3 := h 3 (by omega)
  unfold byV at h0 h1 h2 h3
  omega
theorem plB_ne (s : Nat → Nat) (j N : Nat) (hj : j < N) (hN : N ≤ 100000) : ∃ i, i < 16 ∧ plB s j i ≠ plB s N i := by
  refine Classical.byContradiction fun hno => ?_
  have h : ∀ i, i < 16 → plB s j i = plB s N i := fun i hi => Classical.byContradiction fun h9 => hno ⟨i, hi, h9⟩
  have h2 := byV_eq (nb4 s + j) (nb4 s + N) (fun k hk => by
    have h3 := h (15 - k) (by omega)
    unfold plB at h3
    rw [if_neg (by omega), if_neg (by omega), show 15 - (15 - k) = k by omega] at h3
    exact h3)
  omega
theorem plB_zero (s : Nat → Nat) (hs : ∀ i, s i < 256) (i : Nat) (hi : i < 16) : plB s 0 i = s i := by
  unfold plB
  by_cases e : i < 12
  · rw [if_pos e]
  · rw [if_neg e]
    have h12 := hs 12
    have h13 := hs 13
    have h14 := hs 14
    have h15 := hs 15
    have h : i = 12 ∨ i = 13 ∨ i = 14 ∨ i = 15 := by omega
    unfold byV nb4
    rcases h with rfl | rfl | rfl | rfl
    · show (s 12 * 16777216 + s 13 * 65536 + s 14 * 256 + s 15 + 0) / 256 ^ 3 % 256 = s 12
      omega
    · show (s 12 * 16777216 + s 13 * 65536 + s 14 * 256 + s 15 + 0) / 256 ^ 2 % 256 = s 13
      omega
    · show (s 12 * 16777216 + s 13 * 65536 + s 14 * 256 + s 15 + 0) / 256 ^ 1 % 256 = s 14
      omega
    · show (s 12 * 16777216 + s 13 * 65536 + s 14 * 256 + s 15 + 0) / 256 ^ 0 % 256 = s 15
      omega
theorem nb4_plB (s : Nat → Nat) (j : Nat) : nb4 (plB s j) = (nb4 s + j) % 4294967296 := by
  have e12 : plB s j 12 = byV (nb4 s + j) 3 := by unfold plB; rw [if_neg (by omega)]
  have e13 : plB s j 13 = byV (nb4 s + j) 2 := by unfold plB; rw [if_neg (by omega)]
  have e14 : plB s j 14 = byV (nb4 s + j) 1 := by unfold plB; rw [if_neg (by omega)]
  have e15 : plB s j 15 = byV (nb4 s + j) 0 := by unfold plB; rw [if_neg (by omega)]
  generalize hg : plB s j = g at *
  have hd : nb4 g = g 12 * 16777216 + g 13 * 65536 + g 14 * 256 + g 15 := by unfold nb4; rfl
  rw [hd, e12, e13, e14, e15]
  generalize nb4 s + j = a
  unfold byV
  omega
theorem plB_next (s : Nat → Nat) (j i : Nat) : plB (plB s j) 1 i = plB s (j + 1) i := by
  rw [plB_def (plB s j) 1 i, nb4_plB]
  by_cases e : i < 12
  · rw [if_pos e, plB_def s j i, if_pos e, plB_def s (j + 1) i, if_pos e]
  · rw [if_neg e, plB_def s (j + 1) i, if_neg e, ← Nat.add_assoc]
    generalize nb4 s + j = a
    have h : 15 - i = 0 ∨ 15 - i = 1 ∨ 15 - i = 2 ∨ 15 - i = 3 := by omega
    unfold byV
    rcases h with h | h | h | h <;> rw [h] <;> omega
/-- what is carried behind j bytes -/
def crr (f : Nat → Nat) (n : Nat) : Nat → Nat
  | 0 => n
  | j + 1 => (crr f n j + f (15 - j)) / 256
theorem crr_le (f : Nat → Nat) (n : Nat) (hf : ∀ i, f i < 256) (hn : n ≤ 100000) : ∀ j, crr f n j ≤ 100000
  | 0 => hn
  | j + 1 => by
    have h1 := crr_le f n hf hn j
    have h2 := hf (15 - j)
    unfold crr
    omega
/-- a block of which j bytes have counted -/
def plj (f : Nat → Nat) (n j i : Nat) : Nat := if 16 - j ≤ i ∧ i < 16 then (crr f n (15 - i) + f i) % 256 else f i
theorem plj_none (f : Nat → Nat) (n i : Nat) (h : i < 16) : plj f n 0 i = f i := by unfold plj; rw [if_neg (by omega)]
theorem plj_here (f : Nat → Nat) (n j : Nat) (h : j < 4) : plj f n (j + 1) (15 - j) = (crr f n j + f (15 - j)) % 256 := by
  unfold plj
  rw [if_pos (by omega), show 15 - (15 - j) = j by omega]
theorem plj_other (f : Nat → Nat) (n j i : Nat) (h : j < 4) (hi : i < 16) (hne : i ≠ 15 - j) : plj f n (j + 1) i = plj f n j i := by
  unfold plj
  by_cases e : 16 - j ≤ i ∧ i < 16
  · rw [if_pos e, if_pos (by omega)]
  · rw [if_neg e, if_neg (by omega)]
theorem plj_end (f : Nat → Nat) (n i : Nat) (hi : i < 16) : plj f n 4 i = plB f n i := by
  unfold plj plB
  by_cases e : i < 12
  · rw [if_neg (by omega), if_pos e]
  · rw [if_pos (by omega), if_neg e]
    have h : i = 12 ∨ i = 13 ∨ i = 14 ∨ i = 15 := by omega
    rcases h with rfl | rfl | rfl | rfl
    · show ((((n + f 15) / 256 + f 14) / 256 + f 13) / 256 + f 12) % 256 = byV (nb4 f + n) 3
      unfold byV nb4
      omega
    · show (((n + f 15) / 256 + f 14) / 256 + f 13) % 256 = byV (nb4 f + n) 2
      unfold byV nb4
      omega
    · show ((n + f 15) / 256 + f 14) % 256 = byV (nb4 f + n) 1
      unfold byV nb4
      omega
    · show (n + f 15) % 256 = byV (nb4 f + n) 0
      unfold byV nb4
      omega
set_option maxRecDepth 100000 in
set_option maxHeartbeats 1000000 in
theorem implPlus (f : Nat → Nat) (n : Nat) (hf : ∀ i, f i < 256) (hn : n ≤ 100000) (w : World) :
    Calls Try.prog 44 #[.agg (us 16 f).toArray, .int .i64 n] w fun e w' => e = .returned (.agg (us 16 (plB f n)).toArray) ∧ Below w.heap.size w w' := by
  have HF := hide hf
  go_enter Try.func44, Try.ntmps44
  have HCR := hide (crr_le f n hf hn)
  have HPE := hide (fun i (h : i < 16) => plj_end f n i h)
  have a1 := (Ar.new w 16 f 37).alloc (.cells #[.int .u8 0, .int .u8 0, .int .u8 0, .int .u8 0, .int .u8 0, .int .u8 0, .int .u8 0, .int .u8 0, .int .u8 0, .int .u8 0, .int .u8 0, .int .u8 0, .int .u8 0, .int .u8 0, .int .u8 0, .int .u8 0] 37)
  have a2 := z16_new (w.alloc (.cells (us 16 f).toArray 37)) 37
  rw [World.size_alloc] at a2
  have a3 := ((Below.refl w.heap.size w).alloc (Nat.le_refl _) (.cells (us 16 f).toArray 37)).alloc (by simp) (.cells #[.int .u8 0, .int .u8 0, .int .u8 0, .int .u8 0, .int .u8 0, .int .u8 0, .int .u8 0, .int .u8 0, .int .u8 0, .int .u8 0, .int .u8 0, .int .u8 0, .int .u8 0, .int .u8 0, .int .u8 0, .int .u8 0] 37)
  have A1 : Hid (Ar _ w.heap.size 0 16 (plj f n 0)) := a1.congr (fun i hi => (plj_none f n i hi).symm)
  have A2 := hide a2
  have A3 := hide a3
  clear a1 a2 a3
  go_wp2_with fail
  go_loopw [1, 5] (fun nv iv wr => ∃ j : Nat, j ≤ 4 ∧ nv = .int .i64 (crr f n j : Nat) ∧ iv = .int .i64 (15 - (j : Int)) ∧ Ar wr w.heap.size 0 16 (plj f n j) ∧ Ar wr (w.heap.size + 1) 0 16 (fun _ => 0) ∧ Below w.heap.size w wr) (fun _ iv _ => (intOf iv).toNat)
  case atStart => exact ⟨0, by omega, rfl, rfl, unhide A1, unhide A2, unhide A3⟩
  case round =>
    obtain ⟨j, hj, rfl, rfl, h1, h2, h3⟩ := hrel
    clear A1 A2 A3
    by_cases hlt : j < 4
    · obtain ⟨k, hk⟩ : ∃ k : Nat, k = 15 - j := ⟨_, rfl⟩
      have hkI : 15 - (j : Int) = (k : Int) := by omega
      rw [hkI]
      have hk16 : k < 16 := by omega
      have hk12 : (12 : Int) ≤ (k : Int) := by omega
      have hc := h1.c0 k hk16
      have hfz := h1.f0 k hk16
      have e0 : plj f n j k = f k := by unfold plj; rw [if_neg (by omega)]
      rw [e0] at hc
      have hcj := unhide HCR j
      have hfk := unhide HF k
      have hcs : crr f n (j + 1) = (crr f n j + f k) / 256 := by rw [hk]; rfl
      have A1 := hide (h1.put0 (g := plj f n (j + 1)) (k := k) (x := (crr f n j + f k) % 256) hk16 (by rw [hk]; exact plj_here f n j hlt) (fun i hi hne => plj_other f n j i hlt hi (by omega)))
      have A2 := hide (h2.other (a := ⟨w.heap.size, k, none⟩) (v := .int .u8 (((crr f n j + f k) % 256 : Nat) : Int)) (by show w.heap.size ≠ w.heap.size + 1; omega))
      have A3 := hide (h3.setCell (p := ⟨w.heap.size, k, none⟩) (Nat.le_refl _) (.int .u8 (((crr f n j + f k) % 256 : Nat) : Int)))
      rw [show (((crr f n j + f k) % 256 : Nat) : Int) = ((crr f n j : Int) + (f k : Int)) % 256 by omega] at A1 A2 A3
      have HKI := hide (And.intro hk hkI)
      have HCS := hide hcs
      clear h1 h2 h3 e0 hk hkI hcs
      generalize f k = y at *
      generalize crr f n j = x at *
      go_wp2
      exact ⟨⟨j + 1, by omega, by rw [unhide HCS]; congr 1, by obtain ⟨_, h2⟩ := unhide HKI; congr 1; omega, unhide A1, unhide A2, unhide A3⟩, by simp [intOf]; omega⟩
    · obtain rfl : j = 4 := by omega
      have h4 := h1.congr (g := plB f n) (fun i hi => unhide HPE i hi)
      have h5 := h2.puts (g := plB f n)
      generalize hr : plB f n = r at *
      have HR := hide hr
      clear hr
      go_upto_region 7 with fail
      refine wp_region_list ?_
      refine wpList_load_mid rfl 37 (.tmp 2) rfl w.heap.size 0 rfl (us 16 r) _ h4.range Try.underlying37 rfl (by rw [us_length]; exact info_bl) ?_
      refine wpList_store_mid rfl 37 (.tmp 4) (.tmp 22) rfl (w.heap.size + 1) 0 (us 16 r).toArray rfl rfl (by rw [us_size]; exact h2.there) (by rw [us_size]; exact info_bl) (us_one _ _) ?_
      refine wpList_nil ?_
      have HB := hide h3
      clear h1 h2 h3 h4
      have HH := hide h5
      clear h5
      go_wp2
      refine ret_arr 4 (w.heap.size + 1) 16 37 _ r ?r1 ?r2 ?r3 (unhide HH) Try.underlying37 rfl info_bl ?_
      case r1 => rfl
      case r2 => rfl
      case r3 => rfl
      exact ⟨by rw [unhide HR], below_setCells (by omega) _ _ _ (unhide HB)⟩
end Go.Proofs.Ytgoafbhhihfkfaa
namespace Go.Proofs.Ytgoafbhhihfkfaa
open Go.ChangeShapes Go.WideShapes Go.ChangeAt Go.RowKit
set_option linter.unusedVariables false
set_option maxRecDepth 100000

theorem part_us (n : Nat) (f : Nat → Nat) (i : Nat) (h : i < n) (w : World) : (part 5 (us n f).toArray (i * 1)).run Try.prog w = .ok (.int .u8 (f i : Nat)) w := by
  have hus : (us n f)[i]? = some (.int .u8 (f i : Nat)) := by simp [us_def, h]
  have hs := size_u8 w
  simp [part, isAgg, run_underlying Try.underlying5, hus, go_sem]
set_option maxHeartbeats 1000000 in
theorem eqN (d n : Nat) (t : TypeId) (f g : Nat → Nat) (hu : Try.prog.underlying t = some (.array n 5)) (w : World) :
    (Op.equalIn (d + 1 + 1) t (.agg (us n f).toArray) (.agg (us n g).toArray)).run Try.prog w = .ok ((List.range n).all fun i => f i == g i) w := by
  have hE : ∀ (a b : Nat) (w : World), (Op.equalIn (d + 1) 5 (.int .u8 (a : Int)) (.int .u8 (b : Int))).run Try.prog w = .ok (a == b) w := fun a b w => by
    rw [run_equalIn_int w d 5 .u8 .u8 a b Try.underlying5]
    by_cases h : a = b
    · subst h; simp
    · have h2 : ¬ ((a : Int) = (b : Int)) := by omega
      rw [beq_eq_false_iff_ne.2 h, beq_eq_false_iff_ne.2 h2]
  generalize d + 1 = e at hE ⊢
  have hs := size_u8 w
  simp only [Op.equalIn, Sem.run_bind, run_underlying hu, Result.andThen_ok, hs, Std.Legacy.Range.forIn_eq_forIn_range', Std.Legacy.Range.size]
  have key : ∀ l : List Nat, (∀ i ∈ l, i < n) → Sem.run Try.prog (forIn l ((none : Option Bool), ()) fun i __s => do
      let a ← part 5 (us n f).toArray (i * 1)
      let b ← part 5 (us n g).toArray (i * 1)
      let r ← Op.equalIn e 5 a b
      if (!r) = true then pure (ForInStep.done (some false, ())) else pure (ForInStep.yield (none, ()))) w = .ok (if l.all (fun i => f i == g i) then (none, ()) else (some false, ())) w := by
    intro l
    induction l with
    | nil => intro _; simp
    | cons i l ih =>
      intro h
      have hi := h i (by simp)
      simp only [List.forIn_cons, Sem.run_bind, part_us n f i hi, part_us n g i hi, Result.andThen_ok, hE]
      by_cases hfg : f i = g i
      · have e1 : (f i == g i) = true := by simp [hfg]
        simp only [e1, Bool.not_true, Bool.false_eq_true, if_false, Sem.run_pure, Result.andThen_ok, List.all_cons, Bool.true_and]
        exact ih (fun j hj => h j (by simp [hj]))
      · have e1 : (f i == g i) = false := by simp [hfg]
        simp only [e1, Bool.not_false, if_true, Sem.run_pure, Result.andThen_ok, List.all_cons, Bool.false_and, Bool.false_eq_true, if_false]
  rw [show (n - 0 + 1 - 1) / 1 = n by omega, ← List.range_eq_range', key _ (by simp)]
  by_cases h : ((List.range n).all fun i => f i == g i) = true
  · rw [if_pos h, h]
    simp
  · rw [if_neg h, Bool.not_eq_true _ |>.mp h]
    simp
theorem eq16_yes (t : TypeId) (f g : Nat → Nat) (hu : Try.prog.underlying t = some (.array 16 5)) (h : ∀ i, i < 16 → f i = g i) (w : World) :
    (Op.equalIn 10000 t (.agg (us 16 f).toArray) (.agg (us 16 g).toArray)).run Try.prog w = .ok true w := by
  rw [show (10000 : Nat) = 9998 + 1 + 1 from rfl, eqN 9998 16 t f g hu w]
  congr 1
  rw [List.all_eq_true]
  intro i hi
  simp [h i (by simpa using hi)]
theorem eq16_no (t : TypeId) (f g : Nat → Nat) (hu : Try.prog.underlying t = some (.array 16 5)) (i : Nat) (hi : i < 16) (h : f i ≠ g i) (w : World) :
    (Op.equalIn 10000 t (.agg (us 16 f).toArray) (.agg (us 16 g).toArray)).run Try.prog w = .ok false w := by
  rw [show (10000 : Nat) = 9998 + 1 + 1 from rfl, eqN 9998 16 t f g hu w]
  congr 1
  rw [List.all_eq_false]
  exact ⟨i, by simpa using hi, by simp [h]⟩
theorem guard16 : Try.prog.eqGuardType Try.prog.depth 37 = false := by kernel_rfl
end Go.Proofs.Ytgoafbhhihfkfaa
namespace Go.Proofs.Ytgoafbhhihfkfaa
open Go.ChangeShapes Go.WideShapes Go.ChangeAt Go.RowKit
set_option linter.unusedVariables false
set_option maxRecDepth 100000

/-- the bytes that cover a text -/
def cvW (K : Nat → Nat → Nat) (s : Nat → Nat) (i : Nat) : Nat := fw K (plB s (i / 16)) 10 (i % 16)
/-- a text of which n bytes are covered -/
def cvT (K : Nat → Nat → Nat) (s : Nat → Nat) (t : ByteArray) (n i : Nat) : Nat := if i < n then at8 t i ^^^ cvW K s i else at8 t i
/-- a block of sixteen bytes in a new variable -/
theorem fresh16 (w : World) (f : Nat → Nat) : Ar ((w.alloc (.cells #[.int .u8 0, .int .u8 0, .int .u8 0, .int .u8 0, .int .u8 0, .int .u8 0, .int .u8 0, .int .u8 0, .int .u8 0, .int .u8 0, .int .u8 0, .int .u8 0, .int .u8 0, .int .u8 0, .int .u8 0, .int .u8 0] 37)).setCells w.heap.size 0 (us 16 f)) w.heap.size 0 16 f ∧ Below w.heap.size w ((w.alloc (.cells #[.int .u8 0, .int .u8 0, .int .u8 0, .int .u8 0, .int .u8 0, .int .u8 0, .int .u8 0, .int .u8 0, .int .u8 0, .int .u8 0, .int .u8 0, .int .u8 0, .int .u8 0, .int .u8 0, .int .u8 0, .int .u8 0] 37)).setCells w.heap.size 0 (us 16 f)) ∧ ((w.alloc (.cells #[.int .u8 0, .int .u8 0, .int .u8 0, .int .u8 0, .int .u8 0, .int .u8 0, .int .u8 0, .int .u8 0, .int .u8 0, .int .u8 0, .int .u8 0, .int .u8 0, .int .u8 0, .int .u8 0, .int .u8 0, .int .u8 0] 37)).setCells w.heap.size 0 (us 16 f)).heap.size = w.heap.size + 1 :=
  ⟨(z16_new w 37).puts, Go.Proofs.Ytgoafbhhihfkfaa.below_setCells (Nat.le_refl _) _ _ _ ((Below.refl w.heap.size w).alloc (Nat.le_refl _) _), by rw [size_setCells, World.size_alloc]⟩
set_option maxRecDepth 100000 in
set_option maxHeartbeats 1000000 in
theorem implCounted (cb : Nat) (key s : Nat → Nat) (t : ByteArray) (hk : ∀ i, key i < 256) (hs : ∀ i, s i < 256) (ht : t.size ≤ 2000) (w : World) (hC : Ar w cb 0 432 (ck key 10)) :
    Calls Try.prog 43 #[.pointer (some ⟨cb, 0, none⟩), .agg (us 16 s).toArray, .string t] w fun e w' => e = .returned (.string (bq t.size (fun i => at8 t i ^^^ cvW (rk key) s i))) ∧ Below w.heap.size w w' := by
  have HC := hide hC
  have hcl := hC.lt
  clear hC
  obtain ⟨N, hN⟩ : ∃ N : Nat, N = (t.size + 15) / 16 := ⟨_, rfl⟩
  have HP : Hid (∀ W, Calls Try.prog 44 #[.agg (us 16 s).toArray, .int .i64 N] W fun e w' => e = .returned (.agg (us 16 (plB s N)).toArray) ∧ Below W.heap.size W w') := fun W => implPlus s N hs (by omega) W
  have hNI : ((t.size : Int) + 16 - 1) / 16 = (N : Int) := by omega
  have HNI := hide hNI
  have HNN := hide hN
  clear hN hNI
  go_enter Try.func43, Try.ntmps43
  go_wp2_with fail
  have a0 := Ar.new w 16 s 37
  have b0 := (Below.refl w.heap.size w).alloc (Nat.le_refl _) (.cells (us 16 s).toArray 37)
  have z0 : (w.alloc (.cells (us 16 s).toArray 37)).heap.size = w.heap.size + 1 := by simp
  generalize w.alloc (.cells (us 16 s).toArray 37) = W0 at a0 b0 z0 ⊢
  obtain ⟨cap, W, hcv, hbW, hcW, hsz⟩ := conv_ar W0 t
  rw [hcv]
  rw [z0] at hcW hsz hbW
  have A0 := hide (a0.below hbW (by omega))
  have T0 := hide hcW
  have B0 := hide (b0.trans (hbW.mono (by omega)))
  rw [z0]
  clear hcv a0 b0 z0 hbW hcW
  go_upto_region 2 with fail
  refine wp_region_list ?_
  refine wpList_load_mid rfl 37 (.tmp 4) rfl w.heap.size 0 rfl (us 16 s) _ (unhide A0).range Try.underlying37 rfl (by rw [us_length]; exact info_bl) ?_
  go_wp2_with fail
  rw [unhide HNI]
  refine (unhide HP _).mono ?_
  rintro e w1 ⟨rfl, b1⟩
  have A1 := hide ((unhide A0).below b1 (by omega))
  have T1 := hide ((unhide T0).below b1 (by omega))
  have B1 := hide ((unhide B0).trans (b1.mono (by omega)))
  have hs1 : w.heap.size + 1 + 1 ≤ w1.heap.size := by have := b1.size; omega
  clear b1 A0 T0 B0 HP hsz
  have hl := us_length 16 (plB s N)
  go_wp2_with fail
  have e0 := z16_new w1 37
  have f0 := (unhide B1).alloc (unhide B1).size (.cells #[.int .u8 0, .int .u8 0, .int .u8 0, .int .u8 0, .int .u8 0, .int .u8 0, .int .u8 0, .int .u8 0, .int .u8 0, .int .u8 0, .int .u8 0, .int .u8 0, .int .u8 0, .int .u8 0, .int .u8 0, .int .u8 0] 37)
  have A1' := (unhide A1).alloc (.cells #[.int .u8 0, .int .u8 0, .int .u8 0, .int .u8 0, .int .u8 0, .int .u8 0, .int .u8 0, .int .u8 0, .int .u8 0, .int .u8 0, .int .u8 0, .int .u8 0, .int .u8 0, .int .u8 0, .int .u8 0, .int .u8 0] 37)
  have T1' := (unhide T1).alloc (.cells #[.int .u8 0, .int .u8 0, .int .u8 0, .int .u8 0, .int .u8 0, .int .u8 0, .int .u8 0, .int .u8 0, .int .u8 0, .int .u8 0, .int .u8 0, .int .u8 0, .int .u8 0, .int .u8 0, .int .u8 0, .int .u8 0] 37)
  have hz2 : (w1.alloc (.cells #[.int .u8 0, .int .u8 0, .int .u8 0, .int .u8 0, .int .u8 0, .int .u8 0, .int .u8 0, .int .u8 0, .int .u8 0, .int .u8 0, .int .u8 0, .int .u8 0, .int .u8 0, .int .u8 0, .int .u8 0, .int .u8 0] 37)).heap.size = w1.heap.size + 1 := by simp
  generalize w1.alloc (.cells #[.int .u8 0, .int .u8 0, .int .u8 0, .int .u8 0, .int .u8 0, .int .u8 0, .int .u8 0, .int .u8 0, .int .u8 0, .int .u8 0, .int .u8 0, .int .u8 0, .int .u8 0, .int .u8 0, .int .u8 0, .int .u8 0] 37) = W2 at e0 f0 A1' T1' hz2 ⊢
  rw [e0.cellsPut]
  have E2 := e0.puts (g := plB s N)
  have A2 := A1'.others (b' := w1.heap.size) (o' := 0) (vs := us 16 (plB s N)) (Or.inl (by omega))
  have T2 := T1'.others (b' := w1.heap.size) (o' := 0) (vs := us 16 (plB s N)) (Or.inl (by omega))
  have B2 := Go.Proofs.Ytgoafbhhihfkfaa.below_setCells (b := w1.heap.size) (by omega) (us 16 (plB s N)) 0 _ f0
  have hz3 := size_setCells w1.heap.size (us 16 (plB s N)) 0 W2
  rw [hz2] at hz3
  generalize W2.setCells w1.heap.size 0 (us 16 (plB s N)) = W3 at E2 A2 T2 B2 hz3 ⊢
  clear e0 f0 A1' T1' hz2 A1 T1 B1 hl
  have HE2 := hide E2
  have HA2 := hide A2
  have HT2 := hide T2
  have HB2 := hide B2
  clear E2 A2 T2 B2
  go_upto_region 4 with fail
  refine wp_region_list ?_
  refine wpList_load_mid rfl 37 (.tmp 4) rfl w.heap.size 0 rfl (us 16 s) _ (unhide HA2).range Try.underlying37 rfl (by rw [us_length]; exact info_bl) ?_
  have hl := us_length 16 s
  have HZ3 := hide hz3
  clear hz3
  go_wp2_with fail
  rw [(z16_new W3 37).cellsPut]
  obtain ⟨n1, n2, n3⟩ := fresh16 W3 s
  generalize (W3.alloc (.cells #[.int .u8 0, .int .u8 0, .int .u8 0, .int .u8 0, .int .u8 0, .int .u8 0, .int .u8 0, .int .u8 0, .int .u8 0, .int .u8 0, .int .u8 0, .int .u8 0, .int .u8 0, .int .u8 0, .int .u8 0, .int .u8 0] 37)).setCells W3.heap.size 0 (us 16 s) = W4 at n1 n2 n3 ⊢
  have E4 := hide ((unhide HE2).below n2 (unhide HE2).lt)
  have T4 := hide ((unhide HT2).below n2 (unhide HT2).lt)
  have B4 := hide ((unhide HB2).trans (n2.mono (unhide HB2).size))
  have N4 := hide n1
  clear n1 n2 hl HE2 HA2 HT2 HB2
  have hgg : w1.heap.size < W3.heap.size := by have := unhide HZ3; omega
  clear HZ3 n3
  generalize w1.heap.size = ge at *
  generalize W3.heap.size = ga at *
  go_wp2_with fail
  have htb : w.heap.size < w.heap.size + 1 := by omega
  generalize hcvd : w.heap.size + 1 = tb at *
  clear hcvd
  have HPB := hide (fun j => plB_lt s hs j)
  have HZR : Hid (∀ i, i < 16 → plB s 0 i = s i) := fun i hi => plB_zero s hs i hi
  have HFWD := hide (fun f (hf : ∀ i, f i < 256) W (hC : Ar W cb 0 432 (ck key 10)) => implForward cb key f hk hf W hC)
  have HPL : Hid (∀ f : Nat → Nat, (∀ i, f i < 256) → ∀ W, Calls Try.prog 44 #[.agg (us 16 f).toArray, .int .i64 1] W fun e w' => e = .returned (.agg (us 16 (plB f 1)).toArray) ∧ Below W.heap.size W w') := fun f hf W => implPlus f 1 hf (by omega) W
  have hguard := guard16
  go_loopw [9, 10] (fun fv av wx => ∃ j p : Nat, j ≤ N ∧ fv = .int .i64 ((16 * j : Nat) : Int) ∧ av = .pointer (some ⟨p, 0, none⟩) ∧ ge < p ∧ Ar wx p 0 16 (plB s j) ∧ Ar wx ge 0 16 (plB s N) ∧ Ar wx tb 0 t.size (cvT (rk key) s t (16 * j)) ∧ Below w.heap.size w wx) (fun fv _ _ => 20000 - (intOf fv).toNat)
  case atStart => exact ⟨0, ga, by omega, rfl, rfl, hgg, (unhide N4).congr (fun i hi => (unhide HZR i hi).symm), unhide E4, (unhide T4).congr (fun i hi => by unfold cvT; rw [if_neg (by omega)]), unhide B4⟩
  case round =>
    obtain ⟨j, p, hj, rfl, rfl, hp, hA, hE, hT, hB⟩ := hrel
    clear N4 E4 T4 B4
    by_cases hlt : j < N
    · obtain ⟨ix, hix, hne⟩ := plB_ne s j N hlt (by have := unhide HNN; omega)
      have heq := eq16_no 37 (plB s j) (plB s N) Try.underlying37 ix hix hne wr
      clear hne hix
      go_upto_region 5 with fail
      refine wp_region_list ?_
      refine wpList_load_mid rfl 37 (.tmp 10) rfl p 0 rfl (us 16 (plB s j)) _ hA.range Try.underlying37 rfl (by rw [us_length]; exact info_bl) ?_
      refine wpList_load_mid rfl 37 (.tmp 8) rfl ge 0 rfl (us 16 (plB s N)) _ hE.range Try.underlying37 rfl (by rw [us_length]; exact info_bl) ?_
      have A0 := hide hA
      have E0 := hide hE
      have T0 := hide hT
      have B0 := hide hB
      clear hA hE hT hB
      go_upto_region 7 with fail
      refine wp_region_list ?_
      refine wpList_plain rfl (fun K hK => ?_)
      go_simp
      refine hK _ _ ?_
      clear hK K
      refine wpList_load_mid rfl 37 (.tmp 10) rfl p 0 rfl (us 16 (plB s j)) _ (unhide A0).range Try.underlying37 rfl (by rw [us_length]; exact info_bl) ?_
      have hFo := hide (unhide HFWD (plB s j) (unhide HPB j) wr ((unhide HC).below (unhide B0) hcl))
      have hlf : (us 16 (fw (rk key) (plB s j) 10)).length = 16 := us_length _ _
      have hsw := (unhide B0).size
      go_wp2_with (go_at_call 56; with_reducible refine (unhide hFo).mono ?_; rintro e w5 ⟨rfl, b5⟩; have HB5 := hide b5; clear b5)
      have A5 := hide ((unhide A0).below (unhide HB5) (unhide A0).lt)
      have E5 := hide ((unhide E0).below (unhide HB5) (unhide E0).lt)
      have T5 := hide ((unhide T0).below (unhide HB5) (unhide T0).lt)
      have B5 := hide ((unhide B0).trans ((unhide HB5).mono hsw))
      have hs5 := (unhide B5).size
      clear HB5 A0 E0 T0 B0 hFo
      rw [(z16_new w5 37).cellsPut]
      obtain ⟨n1, n2, n3⟩ := fresh16 w5 (fw (rk key) (plB s j) 10)
      generalize (w5.alloc (.cells #[.int .u8 0, .int .u8 0, .int .u8 0, .int .u8 0, .int .u8 0, .int .u8 0, .int .u8 0, .int .u8 0, .int .u8 0, .int .u8 0, .int .u8 0, .int .u8 0, .int .u8 0, .int .u8 0, .int .u8 0, .int .u8 0] 37)).setCells w5.heap.size 0 (us 16 (fw (rk key) (plB s j) 10)) = W6 at n1 n2 n3 ⊢
      have A6 := hide ((unhide A5).below n2 (unhide A5).lt)
      have E6 := hide ((unhide E5).below n2 (unhide E5).lt)
      have T6 := hide ((unhide T5).below n2 (unhide T5).lt)
      have B6 := hide ((unhide B5).trans (n2.mono hs5))
      have C6 := hide n1
      have hgc1 : p < w5.heap.size := (unhide A5).lt
      clear n1 n2 n3 hlf A5 E5 T5 B5
      generalize w5.heap.size = gc at *
      obtain ⟨x, hx⟩ : ∃ x : Nat, x = t.size - 16 * j := ⟨_, rfl⟩
      have hxx : 16 * j + x = t.size := by have := unhide HNN; omega
      have hxI : (t.size : Int) - 16 * (j : Int) = (x : Int) := by omega
      have HFL := hide (fun j => fw_lt (rk key) (plB s j) (fun n i => rk_lt key hk n i) (unhide HPB j) 10)
      clear hx
      by_cases h16 : 16 ≤ x
      · have h16I : (16 : Int) ≤ (x : Int) := by omega
        go_wp2_with fail
        go_loopw [36] (fun iv wx => ∃ i : Nat, i ≤ 16 ∧ iv = .int .i64 i ∧ Ar wx gc 0 16 (fw (rk key) (plB s j) 10) ∧ Ar wx p 0 16 (plB s j) ∧ Ar wx ge 0 16 (plB s N) ∧ Ar wx tb 0 t.size (cvT (rk key) s t (16 * j + i)) ∧ Below w.heap.size w wx) (fun iv _ => 16 - (intOf iv).toNat)
        case atStart => exact ⟨0, by omega, rfl, unhide C6, unhide A6, unhide E6, unhide T6, unhide B6⟩
        case round =>
          obtain ⟨i, hi, rfl, hC, hA, hE, hT, hB⟩ := hrel
          clear C6 A6 E6 T6 B6
          by_cases hli : i < 16
          · obtain ⟨q, hq⟩ : ∃ q : Nat, q = 16 * j + i := ⟨_, rfl⟩
            have hqt : q < t.size := by omega
            have hi16 : i < 16 := by omega
            have hqI : 16 * (j : Int) + (i : Int) = (q : Int) := by omega
            have s1 := hT.c0 q hqt
            have e0 : cvT (rk key) s t (16 * j + i) q = at8 t q := by unfold cvT; rw [if_neg (by omega)]
            rw [e0] at s1
            have f1 := hT.f0 q hqt
            have s2 := hC.c0 i hi16
            have ecv : cvW (rk key) s q = fw (rk key) (plB s j) 10 i := by unfold cvW; rw [show q / 16 = j by omega, show q % 16 = i by omega]
            have x1 := xorI (at8 t q) (fw (rk key) (plB s j) 10 i) (at8_lt t q) (unhide HFL j i)
            have T7 := hide (hT.put0 (g := cvT (rk key) s t (16 * j + (i + 1))) (k := q) (x := at8 t q ^^^ fw (rk key) (plB s j) 10 i) hqt (by unfold cvT; rw [if_pos (by omega), ecv]) (fun k hk hne => by
              unfold cvT
              by_cases e : k < 16 * j + i
              · rw [if_pos e, if_pos (by omega)]
              · rw [if_neg e, if_neg (by omega)]))
            have C7 := hide (hC.other (a := ⟨tb, q, none⟩) (v := .int .u8 ((at8 t q ^^^ fw (rk key) (plB s j) 10 i : Nat) : Int)) (by show tb ≠ gc; omega))
            have A7 := hide (hA.other (a := ⟨tb, q, none⟩) (v := .int .u8 ((at8 t q ^^^ fw (rk key) (plB s j) 10 i : Nat) : Int)) (by show tb ≠ p; omega))
            have E7 := hide (hE.other (a := ⟨tb, q, none⟩) (v := .int .u8 ((at8 t q ^^^ fw (rk key) (plB s j) 10 i : Nat) : Int)) (by show tb ≠ ge; omega))
            have B7 := hide (hB.setCell (p := ⟨tb, q, none⟩) (show w.heap.size ≤ tb by omega) (.int .u8 ((at8 t q ^^^ fw (rk key) (plB s j) 10 i : Nat) : Int)))
            have X1 := hide x1
            have b1 := at8_lt t q
            have b2 := unhide HFL j i
            clear hC hA hE hT hB e0 ecv x1
            generalize hy : at8 t q ^^^ fw (rk key) (plB s j) 10 i = y at *
            clear hy
            generalize at8 t q = x0 at *
            generalize fw (rk key) (plB s j) 10 i = y0 at *
            have v1 : IntKind.i64.wrap (16 * (j : Int) + (i : Int)) = (q : Int) := by rw [hqI]; exact wraps_i64 _ (by omega) (by omega)
            have n1 : (0 : Int) ≤ (q : Int) ∧ (q : Int) < (t.size : Int) := by omega
            have n2 : (0 : Int) ≤ (i : Int) ∧ (i : Int) < 16 := by omega
            have HQ := hide hq
            clear hq
            go_wp2_with fail
            go_region
            go_wp2
            rw [unhide X1]
            exact ⟨⟨i + 1, by omega, by go_num, (unhide C7).drew, (unhide A7).drew, (unhide E7).drew, (unhide T7).drew, (unhide B7).drew⟩, by simp [intOf]; omega⟩
          · have hiL : i = 16 := by omega
            have T8 := hide (hT.congr (g := cvT (rk key) s t (16 * (j + 1))) (fun k hk => by
              unfold cvT
              by_cases e : k < 16 * j + i
              · rw [if_pos e, if_pos (by omega)]
              · rw [if_neg e, if_neg (by omega)]))
            have A8 := hide hA
            have E8 := hide hE
            have B8 := hide hB
            have hs8 := hB.size
            have hgp : p < wr.heap.size := hA.lt
            clear hC hA hE hT hB
            subst hiL
            go_upto_region 14 with fail
            refine wp_region_list ?_
            refine wpList_load_mid rfl 37 (.tmp 10) rfl p 0 rfl (us 16 (plB s j)) _ (unhide A8).range Try.underlying37 rfl (by rw [us_length]; exact info_bl) ?_
            have hl := us_length 16 (plB s j)
            go_wp2_with fail
            rw [(z16_new wr 37).cellsPut]
            obtain ⟨n1, n2, n3⟩ := fresh16 wr (plB s j)
            generalize (wr.alloc (.cells #[.int .u8 0, .int .u8 0, .int .u8 0, .int .u8 0, .int .u8 0, .int .u8 0, .int .u8 0, .int .u8 0, .int .u8 0, .int .u8 0, .int .u8 0, .int .u8 0, .int .u8 0, .int .u8 0, .int .u8 0, .int .u8 0] 37)).setCells wr.heap.size 0 (us 16 (plB s j)) = W8 at n1 n2 n3 ⊢
            have A9 := hide n1
            have E9 := hide ((unhide E8).below n2 (unhide E8).lt)
            have T9 := hide ((unhide T8).below n2 (unhide T8).lt)
            have B9 := hide ((unhide B8).trans (n2.mono hs8))
            clear n1 n2 n3 A8 E8 T8 B8
            generalize wr.heap.size = pn at *
            go_upto_region 6 with fail
            refine wp_region_list ?_
            refine wpList_load_mid rfl 37 (.tmp 10) rfl pn 0 rfl (us 16 (plB s j)) _ (unhide A9).range Try.underlying37 rfl (by rw [us_length]; exact info_bl) ?_
            have hPl := hide (unhide HPL (plB s j) (unhide HPB j) W8)
            have hl2 := us_length 16 (plB (plB s j) 1)
            go_wp2_with (go_at_call 44; with_reducible refine (unhide hPl).mono ?_; rintro e w9 ⟨rfl, b9⟩; have HB9 := hide b9; clear b9)
            have aa := (unhide A9).below (unhide HB9) (unhide A9).lt
            rw [aa.cellsPut]
            have A10 := hide ((aa.puts (g := plB (plB s j) 1)).congr (fun k _ => plB_next s j k))
            have E10 := hide (((unhide E9).below (unhide HB9) (unhide E9).lt).others (b' := pn) (o' := 0) (vs := us 16 (plB (plB s j) 1)) (Or.inl (by omega)))
            have T10 := hide (((unhide T9).below (unhide HB9) (unhide T9).lt).others (b' := pn) (o' := 0) (vs := us 16 (plB (plB s j) 1)) (Or.inl (by omega)))
            have B10 := hide (Go.Proofs.Ytgoafbhhihfkfaa.below_setCells (b := pn) (by omega) (us 16 (plB (plB s j) 1)) 0 _ ((unhide B9).trans ((unhide HB9).mono (unhide B9).size)))
            clear aa A9 E9 T9 B9 HB9 hPl hl hl2
            generalize w9.setCells pn 0 (us 16 (plB (plB s j) 1)) = W10 at A10 E10 T10 B10 ⊢
            go_wp2
            exact ⟨⟨j + 1, pn, by omega, by go_num, rfl, by omega, unhide A10, unhide E10, unhide T10, unhide B10⟩, by simp [intOf]; omega⟩
      · have h16I : (x : Int) < 16 := by omega
        have h16J : ¬ (16 : Int) ≤ (x : Int) := by omega
        go_wp2_with fail
        go_loopw [36] (fun iv wx => ∃ i : Nat, i ≤ x ∧ iv = .int .i64 i ∧ Ar wx gc 0 16 (fw (rk key) (plB s j) 10) ∧ Ar wx p 0 16 (plB s j) ∧ Ar wx ge 0 16 (plB s N) ∧ Ar wx tb 0 t.size (cvT (rk key) s t (16 * j + i)) ∧ Below w.heap.size w wx) (fun iv _ => x - (intOf iv).toNat)
        case atStart => exact ⟨0, by omega, rfl, unhide C6, unhide A6, unhide E6, unhide T6, unhide B6⟩
        case round =>
          obtain ⟨i, hi, rfl, hC, hA, hE, hT, hB⟩ := hrel
          clear C6 A6 E6 T6 B6
          by_cases hli : i < x
          · obtain ⟨q, hq⟩ : ∃ q : Nat, q = 16 * j + i := ⟨_, rfl⟩
            have hqt : q < t.size := by omega
            have hi16 : i < 16 := by omega
            have hqI : 16 * (j : Int) + (i : Int) = (q : Int) := by omega
            have s1 := hT.c0 q hqt
            have e0 : cvT (rk key) s t (16 * j + i) q = at8 t q := by unfold cvT; rw [if_neg (by omega)]
            rw [e0] at s1
            have f1 := hT.f0 q hqt
            have s2 := hC.c0 i hi16
            have ecv : cvW (rk key) s q = fw (rk key) (plB s j) 10 i := by unfold cvW; rw [show q / 16 = j by omega, show q % 16 = i by omega]
            have x1 := xorI (at8 t q) (fw (rk key) (plB s j) 10 i) (at8_lt t q) (unhide HFL j i)
            have T7 := hide (hT.put0 (g := cvT (rk key) s t (16 * j + (i + 1))) (k := q) (x := at8 t q ^^^ fw (rk key) (plB s j) 10 i) hqt (by unfold cvT; rw [if_pos (by omega), ecv]) (fun k hk hne => by
              unfold cvT
              by_cases e : k < 16 * j + i
              · rw [if_pos e, if_pos (by omega)]
              · rw [if_neg e, if_neg (by omega)]))
            have C7 := hide (hC.other (a := ⟨tb, q, none⟩) (v := .int .u8 ((at8 t q ^^^ fw (rk key) (plB s j) 10 i : Nat) : Int)) (by show tb ≠ gc; omega))
            have A7 := hide (hA.other (a := ⟨tb, q, none⟩) (v := .int .u8 ((at8 t q ^^^ fw (rk key) (plB s j) 10 i : Nat) : Int)) (by show tb ≠ p; omega))
            have E7 := hide (hE.other (a := ⟨tb, q, none⟩) (v := .int .u8 ((at8 t q ^^^ fw (rk key) (plB s j) 10 i : Nat) : Int)) (by show tb ≠ ge; omega))
            have B7 := hide (hB.setCell (p := ⟨tb, q, none⟩) (show w.heap.size ≤ tb by omega) (.int .u8 ((at8 t q ^^^ fw (rk key) (plB s j) 10 i : Nat) : Int)))
            have X1 := hide x1
            have b1 := at8_lt t q
            have b2 := unhide HFL j i
            clear hC hA hE hT hB e0 ecv x1
            generalize hy : at8 t q ^^^ fw (rk key) (plB s j) 10 i = y at *
            clear hy
            generalize at8 t q = x0 at *
            generalize fw (rk key) (plB s j) 10 i = y0 at *
            have v1 : IntKind.i64.wrap (16 * (j : Int) + (i : Int)) = (q : Int) := by rw [hqI]; exact wraps_i64 _ (by omega) (by omega)
            have n1 : (0 : Int) ≤ (q : Int) ∧ (q : Int) < (t.size : Int) := by omega
            have n2 : (0 : Int) ≤ (i : Int) ∧ (i : Int) < 16 := by omega
            have HQ := hide hq
            clear hq
            go_wp2_with fail
            go_region
            go_wp2
            rw [unhide X1]
            exact ⟨⟨i + 1, by omega, by go_num, (unhide C7).drew, (unhide A7).drew, (unhide E7).drew, (unhide T7).drew, (unhide B7).drew⟩, by simp [intOf]; omega⟩
          · have hiL : i = x := by omega
            have T8 := hide (hT.congr (g := cvT (rk key) s t (16 * (j + 1))) (fun k hk => by
              unfold cvT
              by_cases e : k < 16 * j + i
              · rw [if_pos e, if_pos (by omega)]
              · rw [if_neg e, if_neg (by omega)]))
            have A8 := hide hA
            have E8 := hide hE
            have B8 := hide hB
            have hs8 := hB.size
            have hgp : p < wr.heap.size := hA.lt
            clear hC hA hE hT hB
            subst hiL
            go_upto_region 14 with fail
            refine wp_region_list ?_
            refine wpList_load_mid rfl 37 (.tmp 10) rfl p 0 rfl (us 16 (plB s j)) _ (unhide A8).range Try.underlying37 rfl (by rw [us_length]; exact info_bl) ?_
            have hl := us_length 16 (plB s j)
            go_wp2_with fail
            rw [(z16_new wr 37).cellsPut]
            obtain ⟨n1, n2, n3⟩ := fresh16 wr (plB s j)
            generalize (wr.alloc (.cells #[.int .u8 0, .int .u8 0, .int .u8 0, .int .u8 0, .int .u8 0, .int .u8 0, .int .u8 0, .int .u8 0, .int .u8 0, .int .u8 0, .int .u8 0, .int .u8 0, .int .u8 0, .int .u8 0, .int .u8 0, .int .u8 0] 37)).setCells wr.heap.size 0 (us 16 (plB s j)) = W8 at n1 n2 n3 ⊢
            have A9 := hide n1
            have E9 := hide ((unhide E8).below n2 (unhide E8).lt)
            have T9 := hide ((unhide T8).below n2 (unhide T8).lt)
            have B9 := hide ((unhide B8).trans (n2.mono hs8))
            clear n1 n2 n3 A8 E8 T8 B8
            generalize wr.heap.size = pn at *
            go_upto_region 6 with fail
            refine wp_region_list ?_
            refine wpList_load_mid rfl 37 (.tmp 10) rfl pn 0 rfl (us 16 (plB s j)) _ (unhide A9).range Try.underlying37 rfl (by rw [us_length]; exact info_bl) ?_
            have hPl := hide (unhide HPL (plB s j) (unhide HPB j) W8)
            have hl2 := us_length 16 (plB (plB s j) 1)
            go_wp2_with (go_at_call 44; with_reducible refine (unhide hPl).mono ?_; rintro e w9 ⟨rfl, b9⟩; have HB9 := hide b9; clear b9)
            have aa := (unhide A9).below (unhide HB9) (unhide A9).lt
            rw [aa.cellsPut]
            have A10 := hide ((aa.puts (g := plB (plB s j) 1)).congr (fun k _ => plB_next s j k))
            have E10 := hide (((unhide E9).below (unhide HB9) (unhide E9).lt).others (b' := pn) (o' := 0) (vs := us 16 (plB (plB s j) 1)) (Or.inl (by omega)))
            have T10 := hide (((unhide T9).below (unhide HB9) (unhide T9).lt).others (b' := pn) (o' := 0) (vs := us 16 (plB (plB s j) 1)) (Or.inl (by omega)))
            have B10 := hide (Go.Proofs.Ytgoafbhhihfkfaa.below_setCells (b := pn) (by omega) (us 16 (plB (plB s j) 1)) 0 _ ((unhide B9).trans ((unhide HB9).mono (unhide B9).size)))
            clear aa A9 E9 T9 B9 HB9 hPl hl hl2
            generalize w9.setCells pn 0 (us 16 (plB (plB s j) 1)) = W10 at A10 E10 T10 B10 ⊢
            go_wp2
            exact ⟨⟨j + 1, pn, by omega, by go_num, rfl, by omega, unhide A10, unhide E10, unhide T10, unhide B10⟩, by simp [intOf]; omega⟩
    · obtain rfl : j = N := by omega
      have heq := eq16_yes 37 (plB s j) (plB s j) Try.underlying37 (fun _ _ => rfl) wr
      go_upto_region 5 with fail
      refine wp_region_list ?_
      refine wpList_load_mid rfl 37 (.tmp 10) rfl p 0 rfl (us 16 (plB s j)) _ hA.range Try.underlying37 rfl (by rw [us_length]; exact info_bl) ?_
      refine wpList_load_mid rfl 37 (.tmp 8) rfl ge 0 rfl (us 16 (plB s j)) _ hE.range Try.underlying37 rfl (by rw [us_length]; exact info_bl) ?_
      have hT2 := hT.congr (g := fun i => at8 t i ^^^ cvW (rk key) s i) (fun k hk => by unfold cvT; rw [if_pos (by have := unhide HNN; omega)])
      have hst := ar_string hT2 (fun i _ => xor_lt _ _ (at8_lt t i) (fw_lt (rk key) _ (fun n i => rk_lt key hk n i) (unhide HPB _) 10 _)) cap
      have B9 := hide hB
      clear hA hE hT hB hT2
      go_wp2
      go_ret
      exact ⟨rfl, unhide B9⟩
end Go.Proofs.Ytgoafbhhihfkfaa
