/-
  Contracts: the program's tag.
-/
import Derived.Test.YtidkbnbnnhbbiaaE5k
namespace Go.Proofs.Ytidkbnbnnhbbiaa
open Go.ChangeShapes Go.WideShapes Go.ChangeAt Go.RowKit
set_option linter.unusedVariables false

/-- what is hashed for a tag: both texts filled up, and how many bits they have -/
def tgF (nb nc : Nat) (fb fc : Nat → Nat) (i : Nat) : Nat := if i < flN nb then flF nb fb i else if i < flN nb + flN nc then flF nc fc (i - flN nb) else blF (8 * nb) (8 * nc) (i - (flN nb + flN nc))
theorem tgF_lt (nb nc : Nat) (fb fc : Nat → Nat) (h1 : ∀ i, fb i < 256) (h2 : ∀ i, fc i < 256) (i : Nat) : tgF nb nc fb fc i < 256 := by
  unfold tgF
  split
  · exact flF_lt _ _ h1 _
  · split
    · exact flF_lt _ _ h2 _
    · exact blF_lt _ _ _
/-- its hash -/
def tgP (key : ByteArray) (nb nc : Nat) (fb fc : Nat → Nat) : Nat × Nat := ghF (hkH key) (hkL key) (tgF nb nc fb fc) (flN nb / 16 + flN nc / 16 + 1)
/-- the tag's bytes -/
def tgB (key nonce : ByteArray) (nb nc : Nat) (fb fc : Nat → Nat) (i : Nat) : Nat := blF (tgP key nb nc fb fc).1 (tgP key nb nc fb fc).2 i ^^^ fw (rk (at8 key)) (plB (at8 nonce) 1) 10 i
theorem tgP_lt (key : ByteArray) (nb nc : Nat) (fb fc : Nat → Nat) : (tgP key nb nc fb fc).1 < 18446744073709551616 ∧ (tgP key nb nc fb fc).2 < 18446744073709551616 := ghF_lt _ _ _ (hkH_lt key) (hkL_lt key) _
theorem tgB_lt (key nonce : ByteArray) (nb nc : Nat) (fb fc : Nat → Nat) (i : Nat) : tgB key nonce nb nc fb fc i < 256 := xor_lt _ _ (blF_lt _ _ _) (fw_lt (rk (at8 key)) _ (fun n i => rk_lt (at8 key) (at8_lt key) n i) (plB_lt _ (at8_lt nonce) _) 10 _)
theorem sg_ot {g b o n cap : Nat} {f : Nat → Nat} {w w' : World} (h : Ot g w w') (hs : Sg w b o n cap f) (hne : b ≠ g) : Sg w' b o n cap f := by
  have e := h.2 b hs.ar.lt hne
  exact ⟨h.ar hs.ar hne, hs.le, fun j h1 h2 => by rw [World.cell?_of_block (a := ⟨b, o + j, none⟩) e, World.frozen?_of_block (a := ⟨b, o + j, none⟩) e]; exact hs.sp j h1 h2⟩
theorem q2_ot {g b x y : Nat} {w w' : World} (h : Ot g w w') (hs : Q2 w b x y) (hne : b ≠ g) (hl : b < w.heap.size) : Q2 w' b x y := by
  have e := h.2 b hl hne
  exact ⟨(World.cell?_of_block (a := ⟨b, 0, none⟩) e).trans hs.c0, (World.cell?_of_block (a := ⟨b, 1, none⟩) e).trans hs.c1, (World.frozen?_of_block (a := ⟨b, 0, none⟩) e).trans hs.f0, (World.frozen?_of_block (a := ⟨b, 1, none⟩) e).trans hs.f1⟩
theorem Tx.alloc {w : World} {m tb : Nat} {b o len cp st f : Nat → Nat} (h : Tx w m tb b o len cp st f) (x : Obj) : Tx (w.alloc x) m tb b o len cp st f := h.below ((Below.refl _ _).alloc (Nat.le_refl _) x)
/-- what stands while the tag is made -/
structure Fr (W V : World) (B gb r gl : Nat) (lf : Nat → Nat) (c : Prop) : Prop where
  bel : Below B W V
  beg : c → Below gb W V
  res : Ar V r 0 16 (fun _ => 0)
  len : Ar V gl 0 16 lf
  sz : W.heap.size ≤ V.heap.size
  hB : B ≤ W.heap.size
  hg : gb ≤ W.heap.size
theorem Fr.below {W V V' : World} {B gb r gl : Nat} {lf : Nat → Nat} {c : Prop} (h : Fr W V B gb r gl lf c) (b : Below V.heap.size V V') : Fr W V' B gb r gl lf c :=
  ⟨h.bel.trans (b.mono (Nat.le_trans h.hB h.sz)), fun x => (h.beg x).trans (b.mono (Nat.le_trans h.hg h.sz)), h.res.below b h.res.lt, h.len.below b h.len.lt, Nat.le_trans h.sz b.size, h.hB, h.hg⟩
theorem Fr.alloc {W V : World} {B gb r gl : Nat} {lf : Nat → Nat} {c : Prop} (h : Fr W V B gb r gl lf c) (o : Obj) : Fr W (V.alloc o) B gb r gl lf c := h.below ((Below.refl _ _).alloc (Nat.le_refl _) o)
theorem Fr.fill {W V V' : World} {B gb r gl g : Nat} {lf : Nat → Nat} {c : Prop} (h : Fr W V B gb r gl lf c) (ot : Ot g V V') (bl : ∀ b, b ≤ g → b ≤ V.heap.size → Below b V V') (hc : c → Below gb V V') (h1 : B ≤ g) (h2 : B ≤ W.heap.size) (hr : r ≠ g) (hl : gl ≠ g) : Fr W V' B gb r gl lf c :=
  ⟨h.bel.trans (bl B h1 (Nat.le_trans h2 h.sz)), fun x => (h.beg x).trans (hc x), ot.ar h.res hr, ot.ar h.len hl, Nat.le_trans h.sz ot.1, h.hB, h.hg⟩
theorem Fr.two {W V : World} {B gb r gl gh : Nat} {lf : Nat → Nat} {c : Prop} {x y : Value} (h : Fr W V B gb r gl lf c) (h1 : gh ≠ r) (h2 : gh ≠ gl) (h3 : B ≤ gh) (h4 : gb ≤ gh) : Fr W ((V.setCell ⟨gh, 0, none⟩ x).setCell ⟨gh, 1, none⟩ y) B gb r gl lf c :=
  ⟨(h.bel.setCell (p := ⟨gh, 0, none⟩) h3 x).setCell (p := ⟨gh, 1, none⟩) h3 y, fun z => ((h.beg z).setCell (p := ⟨gh, 0, none⟩) h4 x).setCell (p := ⟨gh, 1, none⟩) h4 y, (h.res.other (a := ⟨gh, 0, none⟩) h1).other (a := ⟨gh, 1, none⟩) h1, (h.len.other (a := ⟨gh, 0, none⟩) h2).other (a := ⟨gh, 1, none⟩) h2, by simp only [World.setCell, Array.size_modify]; exact h.sz, h.hB, h.hg⟩
/-- one of three -/
def t3 (a b c i : Nat) : Nat := if i = 0 then a else if i = 1 then b else c
/-- where the texts of a tag begin, in blocks -/
def stT (nb nc i : Nat) : Nat := if i = 0 then 0 else if i = 1 then flN nb / 16 else if i = 2 then flN nb / 16 + flN nc / 16 else flN nb / 16 + flN nc / 16 + 1
theorem tx_three (V : World) (gl g5 o5 c5 g7 o7 c7 nb nc : Nat) (fb fc lf : Nat → Nat) (hlf : Hid (blF (8 * nb) (8 * nc) = lf)) (hnb : nb ≤ 1500) (hnc : nc ≤ 1500) (l5 : flN nb ≤ c5) (l7 : flN nc ≤ c7) (A5 : Ar V g5 o5 (flN nb) (flF nb fb)) (A7 : Ar V g7 o7 (flN nc) (flF nc fc)) (A9 : Ar V gl 0 16 lf) (t : TypeId) :
    Tx (V.alloc (.cells #[.slice (some ⟨g5, o5, none⟩) (flN nb) c5, .slice (some ⟨g7, o7, none⟩) (flN nc) c7, .slice (some ⟨gl, 0, none⟩) 16 16] t)) 3 V.heap.size (t3 g5 g7 gl) (t3 o5 o7 0) (t3 (flN nb) (flN nc) 16) (t3 c5 c7 16) (stT nb nc) (tgF nb nc fb fc) := by
  obtain ⟨h1, h2, h3⟩ := flN_le nb
  obtain ⟨h4, h5, h6⟩ := flN_le nc
  have hs1 : stT nb nc 1 = flN nb / 16 := rfl
  have hs2 : stT nb nc 2 = flN nb / 16 + flN nc / 16 := rfl
  have hs3 : stT nb nc 3 = flN nb / 16 + flN nc / 16 + 1 := rfl
  have hs0 : stT nb nc 0 = 0 := rfl
  have e : ∀ i, i < 3 → i = 0 ∨ i = 1 ∨ i = 2 := fun i hi => by omega
  refine ⟨rfl, fun i hi => ?_, fun i hi => ?_, fun i hi => ?_, fun i hi => ?_, fun i hi => ?_, by simp⟩
  · rcases e i hi with rfl | rfl | rfl
    · show 16 * stT nb nc 1 = 16 * stT nb nc 0 + flN nb
      omega
    · show 16 * stT nb nc 2 = 16 * stT nb nc 1 + flN nc
      omega
    · show 16 * stT nb nc 3 = 16 * stT nb nc 2 + 16
      omega
  · rcases e i hi with rfl | rfl | rfl
    · show flN nb ≤ 4000
      omega
    · show flN nc ≤ 4000
      omega
    · show 16 ≤ 4000
      omega
  · rcases e i hi with rfl | rfl | rfl
    · simp [t3]
    · simp [t3]
    · simp [t3]
  · rcases e i hi with rfl | rfl | rfl
    · exact l5
    · exact l7
    · exact Nat.le_refl 16
  · rcases e i hi with rfl | rfl | rfl
    · exact (A5.alloc _).congr (fun j hj => by
        show flF nb fb j = tgF nb nc fb fc (16 * stT nb nc 0 + j)
        unfold tgF
        rw [hs0, if_pos (by omega), Nat.mul_zero, Nat.zero_add])
    · exact (A7.alloc _).congr (fun j hj => by
        show flF nc fc j = tgF nb nc fb fc (16 * stT nb nc 1 + j)
        unfold tgF
        rw [hs1, if_neg (by omega), if_pos (by omega), show 16 * (flN nb / 16) + j - flN nb = j by omega])
    · exact (A9.alloc _).congr (fun j hj => by
        show lf j = tgF nb nc fb fc (16 * stT nb nc 2 + j)
        unfold tgF
        rw [hs2, if_neg (by omega), if_neg (by omega), unhide hlf, show 16 * (flN nb / 16 + flN nc / 16) + j - (flN nb + flN nc) = j by omega])
set_option maxRecDepth 100000 in
set_option maxHeartbeats 1000000 in
theorem implTag (kb cb : Nat) (key nonce : ByteArray) (gb ob nb capb : Nat) (fb : Nat → Nat) (gc oc nc capc : Nat) (fc : Nat → Nat) (hfb : ∀ i, fb i < 256) (hfc : ∀ i, fc i < 256) (hnb : nb ≤ 1500) (hnc : nc ≤ 1500) (w : World) (hK : SK w kb cb key nonce) (hb : Sg w gb ob nb capb fb) (hc : Sg w gc oc nc capc fc) (hne : gb ≠ gc) (B : Nat) (hB1 : kb < B) (hB2 : cb < B) (hB3 : B ≤ gb) (hB4 : B ≤ gc) :
    Calls Try.prog 28 #[.pointer (some ⟨kb, 0, none⟩), .slice (some ⟨gb, ob, none⟩) nb capb, .slice (some ⟨gc, oc, none⟩) nc capc] w fun e w' => e = .returned (.agg (us 16 (tgB key nonce nb nc fb fc)).toArray) ∧ Below B w w' ∧ (capc = nc → gc < gb → Below gb w w') := by
  have HK := hide hK
  have HB := hide hb
  have HC := hide hc
  clear hK hb hc
  go_enter Try.func28, Try.ntmps28
  have HLB := hide (fun W => implBlock (8 * nb) (8 * nc) (by omega) (by omega) W)
  go_wp2_with fail
  have r0 := z16_new w 54
  have a0 := (Below.refl w.heap.size w).alloc (Nat.le_refl _) (.cells #[.int .u8 0, .int .u8 0, .int .u8 0, .int .u8 0, .int .u8 0, .int .u8 0, .int .u8 0, .int .u8 0, .int .u8 0, .int .u8 0, .int .u8 0, .int .u8 0, .int .u8 0, .int .u8 0, .int .u8 0, .int .u8 0] 54)
  generalize w.alloc (.cells #[.int .u8 0, .int .u8 0, .int .u8 0, .int .u8 0, .int .u8 0, .int .u8 0, .int .u8 0, .int .u8 0, .int .u8 0, .int .u8 0, .int .u8 0, .int .u8 0, .int .u8 0, .int .u8 0, .int .u8 0, .int .u8 0] 54) = W1 at r0 a0 ⊢
  rw [show (8 : Int) * (nb : Int) = ((8 * nb : Nat) : Int) by omega, show (8 : Int) * (nc : Int) = ((8 * nc : Nat) : Int) by omega]
  refine (unhide HLB _).mono ?_
  rintro e w2 ⟨rfl, b2⟩
  have R2 := hide (r0.below b2 r0.lt)
  have A2 := hide (a0.trans (b2.mono a0.size))
  have hz2 : w.heap.size < w2.heap.size := Nat.lt_of_lt_of_le r0.lt b2.size
  clear r0 a0 b2
  have HLL := hide (blF_lt (8 * nb) (8 * nc))
  generalize hlf : blF (8 * nb) (8 * nc) = lf at *
  have HLF := hide hlf
  clear hlf
  have hlr : (us 16 lf).length = 16 := us_length _ _
  go_wp2_with fail
  rw [(z16_new w2 54).cellsPut]
  obtain ⟨n1, n2, n3⟩ := fr16 w2 lf
  generalize (w2.alloc (.cells #[.int .u8 0, .int .u8 0, .int .u8 0, .int .u8 0, .int .u8 0, .int .u8 0, .int .u8 0, .int .u8 0, .int .u8 0, .int .u8 0, .int .u8 0, .int .u8 0, .int .u8 0, .int .u8 0, .int .u8 0, .int .u8 0] 54)).setCells w2.heap.size 0 (us 16 lf) = W3 at n1 n2 n3 ⊢
  have R3 := hide ((unhide R2).below n2 (unhide R2).lt)
  have A3 := hide ((unhide A2).trans (n2.mono (unhide A2).size))
  have L3 := hide n1
  clear n1 n2 n3 hlr R2 A2
  generalize w2.heap.size = gl at *
  have K3 := hide ((unhide HK).keep (unhide A3))
  have SB3 := hide ((unhide HB).below (unhide A3) (unhide HB).ar.lt)
  have SC3 := hide ((unhide HC).below (unhide A3) (unhide HC).ar.lt)
  have hgbw : gb < w.heap.size := (unhide HB).ar.lt
  have hgcw : gc < w.heap.size := (unhide HC).ar.lt
  have hAs := (unhide A3).size
  have hlW3 : gl < W3.heap.size := (unhide L3).lt
  have hrW3 : w.heap.size < W3.heap.size := (unhide R3).lt
  have P : Fr W3.drew W3.drew B gb w.heap.size gl lf (capc = nc ∧ gc < gb) := ⟨Below.refl _ _, fun _ => Below.refl _ _, (unhide R3).drew, (unhide L3).drew, Nat.le_refl _, by rw [World.size_drew]; omega, by rw [World.size_drew]; omega⟩
  have SB := (unhide SB3).drew
  have SC := (unhide SC3).drew
  have hBW : B ≤ W3.drew.heap.size := P.hB
  have hgbW : gb ≤ W3.drew.heap.size := P.hg
  have hgbW' : gb < W3.drew.heap.size := by rw [World.size_drew]; omega
  have hgcW : gc < W3.drew.heap.size := by rw [World.size_drew]; omega
  have hrW : w.heap.size < W3.drew.heap.size := by rw [World.size_drew]; omega
  have hlW : gl < W3.drew.heap.size := by rw [World.size_drew]; omega
  have hr1 : w.heap.size ≠ gb := by omega
  have hr2 : w.heap.size ≠ gc := by omega
  have hl1 : gl ≠ gb := by omega
  have hl2 : gl ≠ gc := by omega
  have KQ : Hid (∀ V, Below B W3.drew V → V.cell? ⟨kb, 1, none⟩ = some (.int .u64 (hkH key : Nat)) ∧ V.cell? ⟨kb, 2, none⟩ = some (.int .u64 (hkL key : Nat))) := fun V hV => ⟨(hV.cell (p := ⟨kb, 1, none⟩) hB1).trans (unhide K3).c1, (hV.cell (p := ⟨kb, 2, none⟩) hB1).trans (unhide K3).c2⟩
  have HHO : Hid (∀ gs g5 o5 c5 g7 o7 c7 (V : World), Tx V 3 gs (t3 g5 g7 gl) (t3 o5 o7 0) (t3 (flN nb) (flN nc) 16) (t3 c5 c7 16) (stT nb nc) (tgF nb nc fb fc) → Calls Try.prog 38 #[.agg #[.int .u64 (hkH key : Nat), .int .u64 (hkL key : Nat)], .slice (some ⟨gs, 0, none⟩) 3 3] V fun e w' => e = .returned (.agg #[.int .u64 ((tgP key nb nc fb fc).1 : Nat), .int .u64 ((tgP key nb nc fb fc).2 : Nat)]) ∧ Below V.heap.size V w') := fun gs g5 o5 c5 g7 o7 c7 V hT => implHashOf (hkH key) (hkL key) (hkH_lt key) (hkL_lt key) 3 gs 3 _ _ _ _ _ _ (tgF_lt nb nc fb fc hfb hfc) (by omega) V hT
  have KA : Hid (∀ V, Below B W3.drew V → SK V kb cb key nonce) := fun V hV => (⟨(unhide K3).c0, (unhide K3).c1, (unhide K3).c2, (unhide K3).st.drew, (unhide K3).ci.drew⟩ : SK W3.drew kb cb key nonce).below hV hB1 hB2
  have A3d := hide (unhide A3).drew
  clear K3 SB3 SC3 R3 L3 A3 HK HB HC hAs hlW3 hrW3 HLB
  go_wp2_with fail
  rename_i Q9 K9 hK9
  have FIN : Hid (∀ (VF : World) (gh : Nat) (u1 u2 u3 u4 u5 u7 u9 u10 u11 u12 u13 u14 u15 u16 u17 u18 u19 u20 u21 u22 u23 u24 u25 u26 u27 u28 u29 : Value), Fr W3.drew VF B gb w.heap.size gl lf (capc = nc ∧ gc < gb) → Q2 VF gh (tgP key nb nc fb fc).1 (tgP key nb nc fb fc).2 → gh < VF.heap.size → W3.drew.heap.size ≤ gh → Exit.then K9 Q9 .normal { tmps := #[.pointer (some ⟨kb, 0, none⟩), u1, u2, u3, u4, u5, .pointer (some ⟨w.heap.size, 0, none⟩), u7, .pointer (some ⟨gh, 0, none⟩), u9, u10, u11, u12, u13, u14, u15, u16, u17, u18, u19, u20, u21, u22, u23, u24, u25, u26, u27, u28, u29, undef, undef, undef, undef, undef, undef, undef, undef, undef, undef, undef, undef, undef], defers := [] } VF) := by
    intro VF gh u1 u2 u3 u4 u5 u7 u9 u10 u11 u12 u13 u14 u15 u16 u17 u18 u19 u20 u21 u22 u23 u24 u25 u26 u27 u28 u29 P hH hg2 hgh
    refine hK9 _ _ ?_
    have A0 := unhide KA _ P.bel
    have D0 : Below VF.drew.heap.size VF.drew VF.drew := Below.refl _ _
    have KS : Hid (∀ V, Below VF.drew.heap.size VF.drew V → V.cell? ⟨gh, 0, none⟩ = some (.int .u64 ((tgP key nb nc fb fc).1 : Nat)) ∧ V.cell? ⟨gh, 1, none⟩ = some (.int .u64 ((tgP key nb nc fb fc).2 : Nat)) ∧ V.cell? ⟨kb, 0, none⟩ = some (.pointer (some ⟨cb, 0, none⟩)) ∧ V.rangeAt kb 3 (us 16 (at8 nonce))) := fun V hV => by
      have q := hH.drew.keep hV (by rw [World.size_drew]; exact hg2)
      have a := (⟨A0.c0, A0.c1, A0.c2, A0.st.drew, A0.ci.drew⟩ : SK VF.drew kb cb key nonce).keep hV
      exact ⟨q.c0, q.c1, a.c0, a.st.range⟩
    have KC : Hid (∀ V, Below VF.drew.heap.size VF.drew V → Ar V cb 0 432 (ck (at8 key) 10)) := fun V hV => A0.ci.drew.below hV A0.ci.lt
    have KR : Hid (∀ V, Below VF.drew.heap.size VF.drew V → Ar V w.heap.size 0 16 (fun _ => 0)) := fun V hV => P.res.drew.below hV P.res.lt
    have hu := Try.underlying54
    have hi16 : (Try.prog.info? 54).map (·.size) = some (us 16 (at8 nonce)).length := by rw [us_length]; exact info_bl
    have hpl := tgP_lt key nb nc fb fc
    have HBL := hide (fun V => implBlock (tgP key nb nc fb fc).1 (tgP key nb nc fb fc).2 hpl.1 hpl.2 V)
    have HPL : Hid (∀ V, Calls Try.prog 27 #[.agg (us 16 (at8 nonce)).toArray, .int .i64 1] V fun e w' => e = .returned (.agg (us 16 (plB (at8 nonce) 1)).toArray) ∧ Below V.heap.size V w') := fun V => implPlus (at8 nonce) 1 (at8_lt nonce) (by omega) V
    have HFO := hide (fun V (h : Ar V cb 0 432 (ck (at8 key) 10)) => implForward cb (at8 key) (plB (at8 nonce) 1) (at8_lt key) (plB_lt _ (at8_lt nonce) 1) V h)
    have HXO : Hid (∀ V, Calls Try.prog 40 #[.agg (us 16 (blF (tgP key nb nc fb fc).1 (tgP key nb nc fb fc).2)).toArray, .agg (us 16 (fw (rk (at8 key)) (plB (at8 nonce) 1) 10)).toArray] V fun e w' => e = .returned (.agg (us 16 (tgB key nonce nb nc fb fc)).toArray) ∧ Below V.heap.size V w') := fun V => implXored (blF (tgP key nb nc fb fc).1 (tgP key nb nc fb fc).2) (fw (rk (at8 key)) (plB (at8 nonce) 1) 10) (blF_lt _ _) (fw_lt (rk (at8 key)) _ (fun n i => rk_lt (at8 key) (at8_lt key) n i) (plB_lt _ (at8_lt nonce) 1) 10) V
    have P1 : Fr W3.drew VF.drew B gb w.heap.size gl lf (capc = nc ∧ gc < gb) := ⟨P.bel.drew, fun h => (P.beg h).drew, P.res.drew, P.len.drew, P.sz, P.hB, P.hg⟩
    have HP := hide P1
    have hg3 : gh < VF.drew.heap.size := by rw [World.size_drew]; exact hg2
    clear P P1 hH A0 hpl
    generalize htb : tgB key nonce nb nc fb fc = tb at *
    have HTB := hide htb
    clear htb
    generalize blF (tgP key nb nc fb fc).1 (tgP key nb nc fb fc).2 = bb at *
    generalize fw (rk (at8 key)) (plB (at8 nonce) 1) 10 = ff at *
    generalize plB (at8 nonce) 1 = pp at *
    generalize (tgP key nb nc fb fc).1 = x at *
    generalize (tgP key nb nc fb fc).2 = y at *
    go_wp2_with fail
    refine wp_region_held_drew (S := fun V => V.cell? ⟨gh, 0, none⟩ = some (.int .u64 (x : Nat)) ∧ V.cell? ⟨gh, 1, none⟩ = some (.int .u64 (y : Nat)) ∧ V.cell? ⟨kb, 0, none⟩ = some (.pointer (some ⟨cb, 0, none⟩)) ∧ V.rangeAt kb 3 (us 16 (at8 nonce))) (by kernel_rfl) (unhide KS _ D0) (fun hHeld => ?_)
    generalize VF.drew = V0 at *
    refine wpAnyH_take (i := 0) (v := ?_) rfl (by kernel_rfl) (by kernel_rfl) (by kernel_rfl) (fun _ _ _ h => h) (Or.inl ⟨by rfl, ?_⟩) hHeld ?_
    rotate_left
    · intro V hSw; go_simp; rfl
    simp only [Act.put, List.getElem_toArray, List.getElem_cons_zero, List.setIfInBounds_toArray, List.set_cons_zero, List.set_cons_succ]
    refine wpAnyH_take (i := 2) (v := ?_) rfl (by kernel_rfl) (by kernel_rfl) (by kernel_rfl) (fun _ _ _ h => h) (Or.inl ⟨by rfl, ?_⟩) hHeld ?_
    rotate_left
    · intro V hSw; go_simp; rfl
    simp only [Act.put, List.getElem_toArray, List.getElem_cons_succ, List.getElem_cons_zero, List.setIfInBounds_toArray, List.set_cons_zero, List.set_cons_succ]
    refine wpAnyH_take (i := 3) (v := ?_) rfl (by kernel_rfl) (by kernel_rfl) (by kernel_rfl) (fun _ _ _ h => h) (Or.inl ⟨by rfl, ?_⟩) hHeld ?_
    rotate_left
    · intro V hSw; go_simp; rfl
    simp only [Act.put, List.getElem_toArray, List.getElem_cons_succ, List.getElem_cons_zero, List.setIfInBounds_toArray, List.set_cons_zero, List.set_cons_succ]
    refine wpAnyH_take (i := 4) (v := ?_) rfl (by kernel_rfl) (by kernel_rfl) (by kernel_rfl) (fun _ _ _ h => h) (Or.inl ⟨by rfl, ?_⟩) hHeld ?_
    rotate_left
    · intro V hSw; go_simp; rfl
    simp only [Act.put, List.getElem_toArray, List.getElem_cons_succ, List.getElem_cons_zero, List.setIfInBounds_toArray, List.set_cons_zero, List.set_cons_succ]
    refine wpAnyH_take (i := 5) (v := ?_) rfl (by kernel_rfl) (by kernel_rfl) (by kernel_rfl) (fun _ _ _ h => h) (Or.inl ⟨by rfl, ?_⟩) hHeld ?_
    rotate_left
    · intro V hSw; go_simp; rfl
    simp only [Act.put, List.getElem_toArray, List.getElem_cons_succ, List.getElem_cons_zero, List.setIfInBounds_toArray, List.set_cons_zero, List.set_cons_succ]
    refine wpAnyH_take (i := 6) (v := ?_) rfl (by kernel_rfl) (by kernel_rfl) (by kernel_rfl) (fun _ _ _ h => h) (Or.inl ⟨by rfl, ?_⟩) hHeld ?_
    rotate_left
    · intro V hSw; go_simp; rfl
    simp only [Act.put, List.getElem_toArray, List.getElem_cons_succ, List.getElem_cons_zero, List.setIfInBounds_toArray, List.set_cons_zero, List.set_cons_succ]
    refine wpAnyH_take (i := 7) (v := ?_) rfl (by kernel_rfl) (by kernel_rfl) (by kernel_rfl) (fun _ _ _ h => h) (Or.inl ⟨by rfl, ?_⟩) hHeld ?_
    rotate_left
    · intro V hSw; go_simp; rfl
    simp only [Act.put, List.getElem_toArray, List.getElem_cons_succ, List.getElem_cons_zero, List.setIfInBounds_toArray, List.set_cons_zero, List.set_cons_succ]
    refine wpAnyH_take (i := 8) (v := ?_) rfl (by kernel_rfl) (by kernel_rfl) (by kernel_rfl) (fun _ _ _ h => h) (Or.inl ⟨by rfl, ?_⟩) hHeld ?_
    rotate_left
    · intro V hSw; go_simp; rfl
    simp only [Act.put, List.getElem_toArray, List.getElem_cons_succ, List.getElem_cons_zero, List.setIfInBounds_toArray, List.set_cons_zero, List.set_cons_succ]
    refine wpAnyH_take (i := 9) (v := .agg (us 16 (at8 nonce)).toArray) rfl (by kernel_rfl) (by kernel_rfl) (by kernel_rfl) (fun _ _ _ h => h) (yieldsIf_load_mid (by rfl) 54 (.tmp 38) rfl kb 3 rfl (us 16 (at8 nonce)) _ (fun V h => h.2.2.2) hu rfl hi16) hHeld ?_
    try simp only [Act.put, List.getElem_toArray, List.getElem_cons_succ, List.getElem_cons_zero, List.setIfInBounds_toArray, List.set_cons_zero, List.set_cons_succ]
    refine wpAnyH_ready (rs := [1]) (by kernel_rfl) (by simp) ?_
    refine AllReadyH.cons rfl (fun K hK => ?_) AllReadyH.nil
    go_simp
    go_at_call 37
    refine (unhide HBL _).mono ?_
    rintro e w5 ⟨rfl, b5⟩
    refine hK.out _ _ (unhide KS _ b5) (fun hHeld => ?_)
    clear hK K
    try simp only [Act.put, List.getElem_toArray, List.getElem_cons_succ, List.getElem_cons_zero, List.setIfInBounds_toArray, List.set_cons_zero, List.set_cons_succ]
    refine wpAnyH_ready (rs := [10]) (by kernel_rfl) (by simp) ?_
    refine AllReadyH.cons rfl (fun K hK => ?_) AllReadyH.nil
    go_simp
    go_at_call 27
    refine (unhide HPL _).mono ?_
    rintro e w6 ⟨rfl, b6⟩
    have b56 := b5.trans (b6.mono b5.size)
    refine hK.out _ _ (unhide KS _ b56) (fun hHeld => ?_)
    clear hK K
    try simp only [Act.put, List.getElem_toArray, List.getElem_cons_succ, List.getElem_cons_zero, List.setIfInBounds_toArray, List.set_cons_zero, List.set_cons_succ]
    refine wpAnyH_ready (rs := [11]) (by kernel_rfl) (by simp) ?_
    refine AllReadyH.cons rfl (fun K hK => ?_) AllReadyH.nil
    go_simp
    go_at_call 35
    refine (unhide HFO _ (unhide KC _ b56)).mono ?_
    rintro e w7 ⟨rfl, b7⟩
    have b57 := b56.trans (b7.mono b56.size)
    refine hK.out _ _ (unhide KS _ b57) (fun hHeld => ?_)
    clear hK K
    try simp only [Act.put, List.getElem_toArray, List.getElem_cons_succ, List.getElem_cons_zero, List.setIfInBounds_toArray, List.set_cons_zero, List.set_cons_succ]
    refine wpAnyH_ready (rs := [12]) (by kernel_rfl) (by simp) ?_
    refine AllReadyH.cons rfl (fun K hK => ?_) AllReadyH.nil
    go_simp
    go_at_call 40
    refine (unhide HXO _).mono ?_
    rintro e w8 ⟨rfl, b8⟩
    have b58 := b57.trans (b8.mono b57.size)
    refine hK.out _ _ (unhide KS _ b58) (fun hHeld => ?_)
    clear hK K
    try simp only [Act.put, List.getElem_toArray, List.getElem_cons_succ, List.getElem_cons_zero, List.setIfInBounds_toArray, List.set_cons_zero, List.set_cons_succ]
    refine wpAnyH_ready (rs := [13]) (by kernel_rfl) (by simp) ?_
    refine AllReadyH.cons rfl (fun K hK => ?_) AllReadyH.nil
    rw [if_pos (by rfl)]
    refine wp_store_mid 54 (.tmp 6) (.tmp 42) rfl w.heap.size 0 (us 16 tb).toArray rfl rfl (by rw [us_size]; exact (unhide KR _ b58).there) (by rw [us_size]; exact info_bl) (us_one _ _) ?_
    have PE := (unhide HP).below b58
    have RE := (unhide KR _ b58).puts (g := tb)
    have BE := Go.Proofs.Ytidkbnbnnhbbiaa.below_setCells (b := w.heap.size) (show B ≤ w.heap.size by omega) (us 16 tb) 0 _ PE.bel
    have GE := fun h => Go.Proofs.Ytidkbnbnnhbbiaa.below_setCells (b := w.heap.size) (show gb ≤ w.heap.size by omega) (us 16 tb) 0 _ (PE.beg h)
    have SE : ((w8.setCells w.heap.size 0 (us 16 tb)).cell? ⟨gh, 0, none⟩ = some (.int .u64 (x : Nat)) ∧ (w8.setCells w.heap.size 0 (us 16 tb)).cell? ⟨gh, 1, none⟩ = some (.int .u64 (y : Nat)) ∧ (w8.setCells w.heap.size 0 (us 16 tb)).cell? ⟨kb, 0, none⟩ = some (.pointer (some ⟨cb, 0, none⟩)) ∧ (w8.setCells w.heap.size 0 (us 16 tb)).rangeAt kb 3 (us 16 (at8 nonce))) := by
      obtain ⟨z1, z2, z3, z4⟩ := unhide KS _ b58
      refine ⟨?_, ?_, ?_, World.rangeAt_setCells_apart z4 w.heap.size 0 (us 16 tb) (Or.inl (by omega))⟩
      · rw [World.cell?_setCells_out w.heap.size _ 0 w8 _ (fun h _ => absurd h (by show gh ≠ w.heap.size; omega))]; exact z1
      · rw [World.cell?_setCells_out w.heap.size _ 0 w8 _ (fun h _ => absurd h (by show gh ≠ w.heap.size; omega))]; exact z2
      · rw [World.cell?_setCells_out w.heap.size _ 0 w8 _ (fun h _ => absurd h (by show kb ≠ w.heap.size; omega))]; exact z3
    refine hK.out _ _ (by rw [List.toList_toArray]; exact SE) (fun hHeld => ?_)
    clear hK K
    try simp only [Act.put, List.getElem_toArray, List.getElem_cons_succ, List.getElem_cons_zero]
    refine wpAnyH_done (by kernel_rfl) ?_ _
    have HRE := hide RE
    have HBE := hide (((unhide A3d).mono (by omega)).trans BE)
    have HGE := hide (fun h => ((unhide A3d).mono (show gb ≤ w.heap.size by omega)).trans (GE h))
    clear RE BE GE SE PE hHeld b5 b6 b7 b8 b56 b57 b58
    generalize w8.setCells w.heap.size 0 (us 16 tb) = W9 at HRE HBE HGE ⊢
    go_wp2
    refine ret_arr 6 w.heap.size 16 54 _ tb ?r1 ?r2 ?r3 (unhide HRE) Try.underlying54 rfl info_bl ?_
    case r1 => rfl
    case r2 => rfl
    case r3 => rfl
    exact ⟨by rw [unhide HTB], unhide HBE, fun h1 h2 => unhide HGE ⟨h1, h2⟩⟩
  refine wp_region_held_drew (S := fun V => V.cell? ⟨kb, 1, none⟩ = some (.int .u64 (hkH key : Nat)) ∧ V.cell? ⟨kb, 2, none⟩ = some (.int .u64 (hkL key : Nat))) (by kernel_rfl) (unhide KQ _ (Below.refl _ _)) (fun hHeld => ?_)
  generalize W3.drew = W0 at *
  refine wpAnyH_take (i := 0) (v := ?_) rfl (by kernel_rfl) (by kernel_rfl) (by kernel_rfl) (fun _ _ _ h => h) (Or.inl ⟨by rfl, ?_⟩) hHeld ?_
  rotate_left
  · intro V hSw; go_simp; rfl
  simp only [Act.put, List.getElem_toArray, List.getElem_cons_zero, List.setIfInBounds_toArray, List.set_cons_zero, List.set_cons_succ]
  refine wpAnyH_take (i := 1) (v := ?_) rfl (by kernel_rfl) (by kernel_rfl) (by kernel_rfl) (fun _ _ _ h => h) (Or.inl ⟨by rfl, ?_⟩) hHeld ?_
  rotate_left
  · intro V hSw; go_simp; rfl
  simp only [Act.put, List.getElem_toArray, List.getElem_cons_succ, List.getElem_cons_zero, List.setIfInBounds_toArray, List.set_cons_zero, List.set_cons_succ]
  refine wpAnyH_take (i := 2) (v := ?_) rfl (by kernel_rfl) (by kernel_rfl) (by kernel_rfl) (fun _ _ _ h => h) (Or.inl ⟨by rfl, ?_⟩) hHeld ?_
  rotate_left
  · intro V hSw; go_simp; rfl
  simp only [Act.put, List.getElem_toArray, List.getElem_cons_succ, List.getElem_cons_zero, List.setIfInBounds_toArray, List.set_cons_zero, List.set_cons_succ]
  refine wpAnyH_take (i := 3) (v := ?_) rfl (by kernel_rfl) (by kernel_rfl) (by kernel_rfl) (fun _ _ _ h => h) (Or.inl ⟨by rfl, ?_⟩) hHeld ?_
  rotate_left
  · intro V hSw; go_simp; rfl
  simp only [Act.put, List.getElem_toArray, List.getElem_cons_succ, List.getElem_cons_zero, List.setIfInBounds_toArray, List.set_cons_zero, List.set_cons_succ]
  refine wpAnyH_take (i := 4) (v := ?_) rfl (by kernel_rfl) (by kernel_rfl) (by kernel_rfl) (fun _ _ _ h => h) (Or.inl ⟨by rfl, ?_⟩) hHeld ?_
  rotate_left
  · intro V hSw; go_simp; rfl
  simp only [Act.put, List.getElem_toArray, List.getElem_cons_succ, List.getElem_cons_zero, List.setIfInBounds_toArray, List.set_cons_zero, List.set_cons_succ]
  refine wpAnyH_take (i := 6) (v := ?_) rfl (by kernel_rfl) (by kernel_rfl) (by kernel_rfl) (fun _ _ _ h => h) (Or.inl ⟨by rfl, ?_⟩) hHeld ?_
  rotate_left
  · intro V hSw; go_simp; rfl
  simp only [Act.put, List.getElem_toArray, List.getElem_cons_succ, List.getElem_cons_zero, List.setIfInBounds_toArray, List.set_cons_zero, List.set_cons_succ]
  refine wpAnyH_take (i := 8) (v := ?_) rfl (by kernel_rfl) (by kernel_rfl) (by kernel_rfl) (fun _ _ _ h => h) (Or.inl ⟨by rfl, ?_⟩) hHeld ?_
  rotate_left
  · intro V hSw; go_simp; rfl
  simp only [Act.put, List.getElem_toArray, List.getElem_cons_succ, List.getElem_cons_zero, List.setIfInBounds_toArray, List.set_cons_zero, List.set_cons_succ]
  refine wpAnyH_ready (rs := [5, 11]) (by kernel_rfl) (by simp) ?_
  refine AllReadyH.cons rfl (fun K hK => ?_) (AllReadyH.cons rfl (fun K hK => ?_) AllReadyH.nil)
  go_simp
  go_at_call 39
  refine (implFilled gb ob nb capb fb (by omega) _ SB).mono ?_
  have hz0 := P.sz
  rintro e V1 ⟨v, rfl, F⟩
  obtain ⟨g5, o5, c5, rfl, s5, hg5, ot, bl, be⟩ := F
  have hq5 : g5 = gb ∨ W0.heap.size ≤ g5 := by omega
  clear hg5 hz0
  have P := P.fill ot bl (fun _ => bl gb (Nat.le_refl _) (Nat.le_trans hgbW P.sz)) hB3 hBW hr1 hl1
  refine hK.out _ _ (unhide KQ _ P.bel) (fun hHeld => ?_)
  clear hK K
  try simp only [Act.put, List.getElem_toArray, List.getElem_cons_succ, List.getElem_cons_zero, List.setIfInBounds_toArray, List.set_cons_zero, List.set_cons_succ]
  have SC := sg_ot ot SC (Ne.symm hne)
  have A5 := s5.ar
  have l5 := s5.le
  have lt5 : g5 < V1.heap.size := A5.lt
  clear ot bl be s5
  refine wpAnyH_ready (rs := [7, 11]) (by kernel_rfl) (by simp) ?_
  refine AllReadyH.cons rfl (fun K hK => ?_) (AllReadyH.cons rfl (fun K hK => ?_) AllReadyH.nil)
  go_simp
  go_at_call 39
  refine (implFilled gc oc nc capc fc (by omega) _ SC).mono ?_
  have hz0 := P.sz
  rintro e V2 ⟨v, rfl, F⟩
  obtain ⟨g7, o7, c7, rfl, s7, hg7, ot, bl, be⟩ := F
  have hq7 : g7 = gc ∨ W0.heap.size ≤ g7 := by omega
  clear hg7 hz0
  have P := P.fill ot bl (fun h => (be h.1).1.mono (Nat.le_trans hgbW P.sz)) hB4 hBW hr2 hl2
  refine hK.out _ _ (unhide KQ _ P.bel) (fun hHeld => ?_)
  clear hK K
  try simp only [Act.put, List.getElem_toArray, List.getElem_cons_succ, List.getElem_cons_zero, List.setIfInBounds_toArray, List.set_cons_zero, List.set_cons_succ]
  have A5 := ot.ar A5 (by omega)
  have A7 := s7.ar
  have l7 := s7.le
  have lt7 : g7 < V2.heap.size := A7.lt
  clear ot bl be s7
  refine wpAnyH_ready (rs := [9, 11]) (by kernel_rfl) (by simp) ?_
  refine AllReadyH.cons rfl (fun K hK => ?_) (AllReadyH.cons rfl (fun K hK => ?_) AllReadyH.nil)
  go_simp
  refine hK.out _ _ (unhide KQ _ (P.alloc (.cells #[.slice (some ⟨g5, o5, none⟩) (flN nb) c5, .slice (some ⟨g7, o7, none⟩) (flN nc) c7, .slice (some ⟨gl, 0, none⟩) 16 16] 59)).bel) (fun hHeld => ?_)
  clear hK K
  try simp only [Act.put, List.getElem_toArray, List.getElem_cons_succ, List.getElem_cons_zero, List.setIfInBounds_toArray, List.set_cons_zero, List.set_cons_succ]
  have T := tx_three V2 gl g5 o5 c5 g7 o7 c7 nb nc fb fc lf HLF (by omega) (by omega) l5 l7 A5 A7 P.len 59
  have P := P.alloc (.cells #[.slice (some ⟨g5, o5, none⟩) (flN nb) c5, .slice (some ⟨g7, o7, none⟩) (flN nc) c7, .slice (some ⟨gl, 0, none⟩) 16 16] 59)
  generalize V2.alloc (.cells #[.slice (some ⟨g5, o5, none⟩) (flN nb) c5, .slice (some ⟨g7, o7, none⟩) (flN nc) c7, .slice (some ⟨gl, 0, none⟩) 16 16] 59) = V3 at T P ⊢
  generalize V2.heap.size = gs at T ⊢
  clear A5 A7
  refine wpAnyH_ready (rs := [10, 11]) (by kernel_rfl) (by simp) ?_
  refine AllReadyH.cons rfl (fun K hK => ?_) (AllReadyH.cons rfl (fun K hK => ?_) AllReadyH.nil)
  go_simp
  go_at_call 38
  refine (unhide HHO gs g5 o5 c5 g7 o7 c7 _ T).mono ?_
  rintro e V4 ⟨rfl, b9⟩
  have P := P.below b9
  refine hK.out _ _ (unhide KQ _ P.bel) (fun hHeld => ?_)
  clear hK K
  try simp only [Act.put, List.getElem_toArray, List.getElem_cons_succ, List.getElem_cons_zero, List.setIfInBounds_toArray, List.set_cons_zero, List.set_cons_succ]
  clear T b9
  refine wpAnyH_ready (rs := [11]) (by kernel_rfl) (by simp) ?_
  refine AllReadyH.cons rfl (fun K hK => ?_) AllReadyH.nil
  go_simp
  refine hK.out _ _ (unhide KQ _ (P.alloc (.cells #[.int .u64 0, .int .u64 0] 52)).bel) (fun hHeld => ?_)
  clear hK K
  try simp only [Act.put, List.getElem_toArray, List.getElem_cons_succ, List.getElem_cons_zero, List.setIfInBounds_toArray, List.set_cons_zero, List.set_cons_succ]
  have hH := q2_own V4 0 0 52
  obtain ⟨gh, hghd⟩ : ∃ g, V4.heap.size = g := ⟨_, rfl⟩
  have hgh : W0.heap.size ≤ gh := by rw [← hghd]; exact P.sz
  have P := P.alloc (.cells #[.int .u64 0, .int .u64 0] 52)
  have hg2 : V4.heap.size < (V4.alloc (.cells #[.int .u64 0, .int .u64 0] 52)).heap.size := by rw [World.size_alloc]; omega
  generalize V4.alloc (.cells #[.int .u64 0, .int .u64 0] 52) = V5 at hH hg2 P ⊢
  rw [hghd] at hH hg2 ⊢
  clear hghd
  refine wpAnyH_ready (rs := [12]) (by kernel_rfl) (by simp) ?_
  refine AllReadyH.cons rfl (fun K hK => ?_) AllReadyH.nil
  have k0 := hH.c0
  have k1 := hH.c1
  have k2 := hH.f0
  have k3 := hH.f1
  go_simp
  have P := P.two (x := .int .u64 ((tgP key nb nc fb fc).1 : Nat)) (y := .int .u64 ((tgP key nb nc fb fc).2 : Nat)) (by omega : gh ≠ w.heap.size) (by omega) (show B ≤ gh by omega) (show gb ≤ gh by omega)
  refine hK.out _ _ (unhide KQ _ P.bel) (fun hHeld => ?_)
  clear hK K
  try simp only [Act.put, List.getElem_toArray, List.getElem_cons_succ, List.getElem_cons_zero, List.setIfInBounds_toArray, List.set_cons_zero, List.set_cons_succ]
  have hH := (hH.put0 (tgP key nb nc fb fc).1).put1 (tgP key nb nc fb fc).2
  have hg2 : gh < ((V5.setCell ⟨gh, 0, none⟩ (.int .u64 ((tgP key nb nc fb fc).1 : Nat))).setCell ⟨gh, 1, none⟩ (.int .u64 ((tgP key nb nc fb fc).2 : Nat))).heap.size := by
    simp only [World.setCell, Array.size_modify]
    exact hg2
  generalize (V5.setCell ⟨gh, 0, none⟩ (.int .u64 ((tgP key nb nc fb fc).1 : Nat))).setCell ⟨gh, 1, none⟩ (.int .u64 ((tgP key nb nc fb fc).2 : Nat)) = VF at P hH hg2 ⊢
  clear k0 k1 k2 k3
  refine wpAnyH_done (by kernel_rfl) ?_ _
  exact unhide FIN VF gh _ _ _ _ _ _ _ _ _ _ _ _ _ _ _ _ _ _ _ _ _ _ _ _ _ _ _ P hH hg2 hgh
  go_simp
  refine hK.out _ _ (unhide KQ _ (P.alloc (.cells #[.int .u64 0, .int .u64 0] 52)).bel) (fun hHeld => ?_)
  clear hK K
  try simp only [Act.put, List.getElem_toArray, List.getElem_cons_succ, List.getElem_cons_zero, List.setIfInBounds_toArray, List.set_cons_zero, List.set_cons_succ]
  have hH := q2_own V3 0 0 52
  obtain ⟨gh, hghd⟩ : ∃ g, V3.heap.size = g := ⟨_, rfl⟩
  have hgh : W0.heap.size ≤ gh := by rw [← hghd]; exact P.sz
  have P := P.alloc (.cells #[.int .u64 0, .int .u64 0] 52)
  have T := T.alloc (.cells #[.int .u64 0, .int .u64 0] 52)
  have hg2 : V3.heap.size < (V3.alloc (.cells #[.int .u64 0, .int .u64 0] 52)).heap.size := by rw [World.size_alloc]; omega
  generalize V3.alloc (.cells #[.int .u64 0, .int .u64 0] 52) = V4 at hH hg2 P T ⊢
  rw [hghd] at hH hg2 ⊢
  clear hghd
  refine wpAnyH_ready (rs := [10]) (by kernel_rfl) (by simp) ?_
  refine AllReadyH.cons rfl (fun K hK => ?_) AllReadyH.nil
  go_simp
  go_at_call 38
  refine (unhide HHO gs g5 o5 c5 g7 o7 c7 _ T).mono ?_
  rintro e V5 ⟨rfl, b9⟩
  have P := P.below b9
  refine hK.out _ _ (unhide KQ _ P.bel) (fun hHeld => ?_)
  clear hK K
  try simp only [Act.put, List.getElem_toArray, List.getElem_cons_succ, List.getElem_cons_zero, List.setIfInBounds_toArray, List.set_cons_zero, List.set_cons_succ]
  have hH := hH.keep b9 hg2
  have hg2 : gh < V5.heap.size := Nat.lt_of_lt_of_le hg2 b9.size
  clear T b9
  refine wpAnyH_ready (rs := [12]) (by kernel_rfl) (by simp) ?_
  refine AllReadyH.cons rfl (fun K hK => ?_) AllReadyH.nil
  have k0 := hH.c0
  have k1 := hH.c1
  have k2 := hH.f0
  have k3 := hH.f1
  go_simp
  have P := P.two (x := .int .u64 ((tgP key nb nc fb fc).1 : Nat)) (y := .int .u64 ((tgP key nb nc fb fc).2 : Nat)) (by omega : gh ≠ w.heap.size) (by omega) (show B ≤ gh by omega) (show gb ≤ gh by omega)
  refine hK.out _ _ (unhide KQ _ P.bel) (fun hHeld => ?_)
  clear hK K
  try simp only [Act.put, List.getElem_toArray, List.getElem_cons_succ, List.getElem_cons_zero, List.setIfInBounds_toArray, List.set_cons_zero, List.set_cons_succ]
  have hH := (hH.put0 (tgP key nb nc fb fc).1).put1 (tgP key nb nc fb fc).2
  have hg2 : gh < ((V5.setCell ⟨gh, 0, none⟩ (.int .u64 ((tgP key nb nc fb fc).1 : Nat))).setCell ⟨gh, 1, none⟩ (.int .u64 ((tgP key nb nc fb fc).2 : Nat))).heap.size := by
    simp only [World.setCell, Array.size_modify]
    exact hg2
  generalize (V5.setCell ⟨gh, 0, none⟩ (.int .u64 ((tgP key nb nc fb fc).1 : Nat))).setCell ⟨gh, 1, none⟩ (.int .u64 ((tgP key nb nc fb fc).2 : Nat)) = VF at P hH hg2 ⊢
  clear k0 k1 k2 k3
  refine wpAnyH_done (by kernel_rfl) ?_ _
  exact unhide FIN VF gh _ _ _ _ _ _ _ _ _ _ _ _ _ _ _ _ _ _ _ _ _ _ _ _ _ _ _ P hH hg2 hgh
  go_simp
  refine hK.out _ _ (unhide KQ _ (P.alloc (.cells #[.int .u64 0, .int .u64 0] 52)).bel) (fun hHeld => ?_)
  clear hK K
  try simp only [Act.put, List.getElem_toArray, List.getElem_cons_succ, List.getElem_cons_zero, List.setIfInBounds_toArray, List.set_cons_zero, List.set_cons_succ]
  have hH := q2_own V2 0 0 52
  obtain ⟨gh, hghd⟩ : ∃ g, V2.heap.size = g := ⟨_, rfl⟩
  have hgh : W0.heap.size ≤ gh := by rw [← hghd]; exact P.sz
  have P := P.alloc (.cells #[.int .u64 0, .int .u64 0] 52)
  have A5 := A5.alloc (.cells #[.int .u64 0, .int .u64 0] 52)
  have A7 := A7.alloc (.cells #[.int .u64 0, .int .u64 0] 52)
  have hg2 : V2.heap.size < (V2.alloc (.cells #[.int .u64 0, .int .u64 0] 52)).heap.size := by rw [World.size_alloc]; omega
  generalize V2.alloc (.cells #[.int .u64 0, .int .u64 0] 52) = V3 at hH hg2 P A5 A7 ⊢
  rw [hghd] at hH hg2 ⊢
  clear hghd
  refine wpAnyH_ready (rs := [9]) (by kernel_rfl) (by simp) ?_
  refine AllReadyH.cons rfl (fun K hK => ?_) AllReadyH.nil
  go_simp
  refine hK.out _ _ (unhide KQ _ (P.alloc (.cells #[.slice (some ⟨g5, o5, none⟩) (flN nb) c5, .slice (some ⟨g7, o7, none⟩) (flN nc) c7, .slice (some ⟨gl, 0, none⟩) 16 16] 59)).bel) (fun hHeld => ?_)
  clear hK K
  try simp only [Act.put, List.getElem_toArray, List.getElem_cons_succ, List.getElem_cons_zero, List.setIfInBounds_toArray, List.set_cons_zero, List.set_cons_succ]
  have T := tx_three V3 gl g5 o5 c5 g7 o7 c7 nb nc fb fc lf HLF (by omega) (by omega) l5 l7 A5 A7 P.len 59
  have P := P.alloc (.cells #[.slice (some ⟨g5, o5, none⟩) (flN nb) c5, .slice (some ⟨g7, o7, none⟩) (flN nc) c7, .slice (some ⟨gl, 0, none⟩) 16 16] 59)
  have hH := hH.alloc (.cells #[.slice (some ⟨g5, o5, none⟩) (flN nb) c5, .slice (some ⟨g7, o7, none⟩) (flN nc) c7, .slice (some ⟨gl, 0, none⟩) 16 16] 59) hg2
  have hg2 : gh < (V3.alloc (.cells #[.slice (some ⟨g5, o5, none⟩) (flN nb) c5, .slice (some ⟨g7, o7, none⟩) (flN nc) c7, .slice (some ⟨gl, 0, none⟩) 16 16] 59)).heap.size := by rw [World.size_alloc]; omega
  generalize V3.alloc (.cells #[.slice (some ⟨g5, o5, none⟩) (flN nb) c5, .slice (some ⟨g7, o7, none⟩) (flN nc) c7, .slice (some ⟨gl, 0, none⟩) 16 16] 59) = V4 at T P hH hg2 ⊢
  generalize V3.heap.size = gs at T ⊢
  clear A5 A7
  refine wpAnyH_ready (rs := [10]) (by kernel_rfl) (by simp) ?_
  refine AllReadyH.cons rfl (fun K hK => ?_) AllReadyH.nil
  go_simp
  go_at_call 38
  refine (unhide HHO gs g5 o5 c5 g7 o7 c7 _ T).mono ?_
  rintro e V5 ⟨rfl, b9⟩
  have P := P.below b9
  refine hK.out _ _ (unhide KQ _ P.bel) (fun hHeld => ?_)
  clear hK K
  try simp only [Act.put, List.getElem_toArray, List.getElem_cons_succ, List.getElem_cons_zero, List.setIfInBounds_toArray, List.set_cons_zero, List.set_cons_succ]
  have hH := hH.keep b9 hg2
  have hg2 : gh < V5.heap.size := Nat.lt_of_lt_of_le hg2 b9.size
  clear T b9
  refine wpAnyH_ready (rs := [12]) (by kernel_rfl) (by simp) ?_
  refine AllReadyH.cons rfl (fun K hK => ?_) AllReadyH.nil
  have k0 := hH.c0
  have k1 := hH.c1
  have k2 := hH.f0
  have k3 := hH.f1
  go_simp
  have P := P.two (x := .int .u64 ((tgP key nb nc fb fc).1 : Nat)) (y := .int .u64 ((tgP key nb nc fb fc).2 : Nat)) (by omega : gh ≠ w.heap.size) (by omega) (show B ≤ gh by omega) (show gb ≤ gh by omega)
  refine hK.out _ _ (unhide KQ _ P.bel) (fun hHeld => ?_)
  clear hK K
  try simp only [Act.put, List.getElem_toArray, List.getElem_cons_succ, List.getElem_cons_zero, List.setIfInBounds_toArray, List.set_cons_zero, List.set_cons_succ]
  have hH := (hH.put0 (tgP key nb nc fb fc).1).put1 (tgP key nb nc fb fc).2
  have hg2 : gh < ((V5.setCell ⟨gh, 0, none⟩ (.int .u64 ((tgP key nb nc fb fc).1 : Nat))).setCell ⟨gh, 1, none⟩ (.int .u64 ((tgP key nb nc fb fc).2 : Nat))).heap.size := by
    simp only [World.setCell, Array.size_modify]
    exact hg2
  generalize (V5.setCell ⟨gh, 0, none⟩ (.int .u64 ((tgP key nb nc fb fc).1 : Nat))).setCell ⟨gh, 1, none⟩ (.int .u64 ((tgP key nb nc fb fc).2 : Nat)) = VF at P hH hg2 ⊢
  clear k0 k1 k2 k3
  refine wpAnyH_done (by kernel_rfl) ?_ _
  exact unhide FIN VF gh _ _ _ _ _ _ _ _ _ _ _ _ _ _ _ _ _ _ _ _ _ _ _ _ _ _ _ P hH hg2 hgh
  go_simp
  refine hK.out _ _ (unhide KQ _ (P.alloc (.cells #[.int .u64 0, .int .u64 0] 52)).bel) (fun hHeld => ?_)
  clear hK K
  try simp only [Act.put, List.getElem_toArray, List.getElem_cons_succ, List.getElem_cons_zero, List.setIfInBounds_toArray, List.set_cons_zero, List.set_cons_succ]
  have hH := q2_own V1 0 0 52
  obtain ⟨gh, hghd⟩ : ∃ g, V1.heap.size = g := ⟨_, rfl⟩
  have hgh : W0.heap.size ≤ gh := by rw [← hghd]; exact P.sz
  have P := P.alloc (.cells #[.int .u64 0, .int .u64 0] 52)
  have SC := SC.alloc (.cells #[.int .u64 0, .int .u64 0] 52)
  have A5 := A5.alloc (.cells #[.int .u64 0, .int .u64 0] 52)
  have hg2 : V1.heap.size < (V1.alloc (.cells #[.int .u64 0, .int .u64 0] 52)).heap.size := by rw [World.size_alloc]; omega
  generalize V1.alloc (.cells #[.int .u64 0, .int .u64 0] 52) = V2 at hH hg2 P SC A5 ⊢
  rw [hghd] at hH hg2 ⊢
  clear hghd
  refine wpAnyH_ready (rs := [7]) (by kernel_rfl) (by simp) ?_
  refine AllReadyH.cons rfl (fun K hK => ?_) AllReadyH.nil
  go_simp
  go_at_call 39
  refine (implFilled gc oc nc capc fc (by omega) _ SC).mono ?_
  have hz0 := P.sz
  rintro e V3 ⟨v, rfl, F⟩
  obtain ⟨g7, o7, c7, rfl, s7, hg7, ot, bl, be⟩ := F
  have hq7 : g7 = gc ∨ W0.heap.size ≤ g7 := by omega
  clear hg7 hz0
  have P := P.fill ot bl (fun h => (be h.1).1.mono (Nat.le_trans hgbW P.sz)) hB4 hBW hr2 hl2
  refine hK.out _ _ (unhide KQ _ P.bel) (fun hHeld => ?_)
  clear hK K
  try simp only [Act.put, List.getElem_toArray, List.getElem_cons_succ, List.getElem_cons_zero, List.setIfInBounds_toArray, List.set_cons_zero, List.set_cons_succ]
  have A5 := ot.ar A5 (by omega)
  have hg2 : gh < V3.heap.size := Nat.lt_of_lt_of_le hg2 ot.1
  have hH := q2_ot ot hH (by omega) (by omega)
  have A7 := s7.ar
  have l7 := s7.le
  have lt7 : g7 < V3.heap.size := A7.lt
  clear ot bl be s7
  refine wpAnyH_ready (rs := [9]) (by kernel_rfl) (by simp) ?_
  refine AllReadyH.cons rfl (fun K hK => ?_) AllReadyH.nil
  go_simp
  refine hK.out _ _ (unhide KQ _ (P.alloc (.cells #[.slice (some ⟨g5, o5, none⟩) (flN nb) c5, .slice (some ⟨g7, o7, none⟩) (flN nc) c7, .slice (some ⟨gl, 0, none⟩) 16 16] 59)).bel) (fun hHeld => ?_)
  clear hK K
  try simp only [Act.put, List.getElem_toArray, List.getElem_cons_succ, List.getElem_cons_zero, List.setIfInBounds_toArray, List.set_cons_zero, List.set_cons_succ]
  have T := tx_three V3 gl g5 o5 c5 g7 o7 c7 nb nc fb fc lf HLF (by omega) (by omega) l5 l7 A5 A7 P.len 59
  have P := P.alloc (.cells #[.slice (some ⟨g5, o5, none⟩) (flN nb) c5, .slice (some ⟨g7, o7, none⟩) (flN nc) c7, .slice (some ⟨gl, 0, none⟩) 16 16] 59)
  have hH := hH.alloc (.cells #[.slice (some ⟨g5, o5, none⟩) (flN nb) c5, .slice (some ⟨g7, o7, none⟩) (flN nc) c7, .slice (some ⟨gl, 0, none⟩) 16 16] 59) hg2
  have hg2 : gh < (V3.alloc (.cells #[.slice (some ⟨g5, o5, none⟩) (flN nb) c5, .slice (some ⟨g7, o7, none⟩) (flN nc) c7, .slice (some ⟨gl, 0, none⟩) 16 16] 59)).heap.size := by rw [World.size_alloc]; omega
  generalize V3.alloc (.cells #[.slice (some ⟨g5, o5, none⟩) (flN nb) c5, .slice (some ⟨g7, o7, none⟩) (flN nc) c7, .slice (some ⟨gl, 0, none⟩) 16 16] 59) = V4 at T P hH hg2 ⊢
  generalize V3.heap.size = gs at T ⊢
  clear A5 A7
  refine wpAnyH_ready (rs := [10]) (by kernel_rfl) (by simp) ?_
  refine AllReadyH.cons rfl (fun K hK => ?_) AllReadyH.nil
  go_simp
  go_at_call 38
  refine (unhide HHO gs g5 o5 c5 g7 o7 c7 _ T).mono ?_
  rintro e V5 ⟨rfl, b9⟩
  have P := P.below b9
  refine hK.out _ _ (unhide KQ _ P.bel) (fun hHeld => ?_)
  clear hK K
  try simp only [Act.put, List.getElem_toArray, List.getElem_cons_succ, List.getElem_cons_zero, List.setIfInBounds_toArray, List.set_cons_zero, List.set_cons_succ]
  have hH := hH.keep b9 hg2
  have hg2 : gh < V5.heap.size := Nat.lt_of_lt_of_le hg2 b9.size
  clear T b9
  refine wpAnyH_ready (rs := [12]) (by kernel_rfl) (by simp) ?_
  refine AllReadyH.cons rfl (fun K hK => ?_) AllReadyH.nil
  have k0 := hH.c0
  have k1 := hH.c1
  have k2 := hH.f0
  have k3 := hH.f1
  go_simp
  have P := P.two (x := .int .u64 ((tgP key nb nc fb fc).1 : Nat)) (y := .int .u64 ((tgP key nb nc fb fc).2 : Nat)) (by omega : gh ≠ w.heap.size) (by omega) (show B ≤ gh by omega) (show gb ≤ gh by omega)
  refine hK.out _ _ (unhide KQ _ P.bel) (fun hHeld => ?_)
  clear hK K
  try simp only [Act.put, List.getElem_toArray, List.getElem_cons_succ, List.getElem_cons_zero, List.setIfInBounds_toArray, List.set_cons_zero, List.set_cons_succ]
  have hH := (hH.put0 (tgP key nb nc fb fc).1).put1 (tgP key nb nc fb fc).2
  have hg2 : gh < ((V5.setCell ⟨gh, 0, none⟩ (.int .u64 ((tgP key nb nc fb fc).1 : Nat))).setCell ⟨gh, 1, none⟩ (.int .u64 ((tgP key nb nc fb fc).2 : Nat))).heap.size := by
    simp only [World.setCell, Array.size_modify]
    exact hg2
  generalize (V5.setCell ⟨gh, 0, none⟩ (.int .u64 ((tgP key nb nc fb fc).1 : Nat))).setCell ⟨gh, 1, none⟩ (.int .u64 ((tgP key nb nc fb fc).2 : Nat)) = VF at P hH hg2 ⊢
  clear k0 k1 k2 k3
  refine wpAnyH_done (by kernel_rfl) ?_ _
  exact unhide FIN VF gh _ _ _ _ _ _ _ _ _ _ _ _ _ _ _ _ _ _ _ _ _ _ _ _ _ _ _ P hH hg2 hgh
  go_simp
  refine hK.out _ _ (unhide KQ _ (P.alloc (.cells #[.int .u64 0, .int .u64 0] 52)).bel) (fun hHeld => ?_)
  clear hK K
  try simp only [Act.put, List.getElem_toArray, List.getElem_cons_succ, List.getElem_cons_zero, List.setIfInBounds_toArray, List.set_cons_zero, List.set_cons_succ]
  have hH := q2_own W0 0 0 52
  obtain ⟨gh, hghd⟩ : ∃ g, W0.heap.size = g := ⟨_, rfl⟩
  have hgh : W0.heap.size ≤ gh := by rw [← hghd]; exact P.sz
  have P := P.alloc (.cells #[.int .u64 0, .int .u64 0] 52)
  have SB := SB.alloc (.cells #[.int .u64 0, .int .u64 0] 52)
  have SC := SC.alloc (.cells #[.int .u64 0, .int .u64 0] 52)
  have hg2 : W0.heap.size < (W0.alloc (.cells #[.int .u64 0, .int .u64 0] 52)).heap.size := by rw [World.size_alloc]; omega
  generalize W0.alloc (.cells #[.int .u64 0, .int .u64 0] 52) = V1 at hH hg2 P SB SC ⊢
  rw [hghd] at hH hg2 ⊢
  clear hghd
  refine wpAnyH_ready (rs := [5]) (by kernel_rfl) (by simp) ?_
  refine AllReadyH.cons rfl (fun K hK => ?_) AllReadyH.nil
  go_simp
  go_at_call 39
  refine (implFilled gb ob nb capb fb (by omega) _ SB).mono ?_
  have hz0 := P.sz
  rintro e V2 ⟨v, rfl, F⟩
  obtain ⟨g5, o5, c5, rfl, s5, hg5, ot, bl, be⟩ := F
  have hq5 : g5 = gb ∨ W0.heap.size ≤ g5 := by omega
  clear hg5 hz0
  have P := P.fill ot bl (fun _ => bl gb (Nat.le_refl _) (Nat.le_trans hgbW P.sz)) hB3 hBW hr1 hl1
  refine hK.out _ _ (unhide KQ _ P.bel) (fun hHeld => ?_)
  clear hK K
  try simp only [Act.put, List.getElem_toArray, List.getElem_cons_succ, List.getElem_cons_zero, List.setIfInBounds_toArray, List.set_cons_zero, List.set_cons_succ]
  have SC := sg_ot ot SC (Ne.symm hne)
  have hg2 : gh < V2.heap.size := Nat.lt_of_lt_of_le hg2 ot.1
  have hH := q2_ot ot hH (by omega) (by omega)
  have A5 := s5.ar
  have l5 := s5.le
  have lt5 : g5 < V2.heap.size := A5.lt
  clear ot bl be s5
  refine wpAnyH_ready (rs := [7]) (by kernel_rfl) (by simp) ?_
  refine AllReadyH.cons rfl (fun K hK => ?_) AllReadyH.nil
  go_simp
  go_at_call 39
  refine (implFilled gc oc nc capc fc (by omega) _ SC).mono ?_
  have hz0 := P.sz
  rintro e V3 ⟨v, rfl, F⟩
  obtain ⟨g7, o7, c7, rfl, s7, hg7, ot, bl, be⟩ := F
  have hq7 : g7 = gc ∨ W0.heap.size ≤ g7 := by omega
  clear hg7 hz0
  have P := P.fill ot bl (fun h => (be h.1).1.mono (Nat.le_trans hgbW P.sz)) hB4 hBW hr2 hl2
  refine hK.out _ _ (unhide KQ _ P.bel) (fun hHeld => ?_)
  clear hK K
  try simp only [Act.put, List.getElem_toArray, List.getElem_cons_succ, List.getElem_cons_zero, List.setIfInBounds_toArray, List.set_cons_zero, List.set_cons_succ]
  have A5 := ot.ar A5 (by omega)
  have hg2 : gh < V3.heap.size := Nat.lt_of_lt_of_le hg2 ot.1
  have hH := q2_ot ot hH (by omega) (by omega)
  have A7 := s7.ar
  have l7 := s7.le
  have lt7 : g7 < V3.heap.size := A7.lt
  clear ot bl be s7
  refine wpAnyH_ready (rs := [9]) (by kernel_rfl) (by simp) ?_
  refine AllReadyH.cons rfl (fun K hK => ?_) AllReadyH.nil
  go_simp
  refine hK.out _ _ (unhide KQ _ (P.alloc (.cells #[.slice (some ⟨g5, o5, none⟩) (flN nb) c5, .slice (some ⟨g7, o7, none⟩) (flN nc) c7, .slice (some ⟨gl, 0, none⟩) 16 16] 59)).bel) (fun hHeld => ?_)
  clear hK K
  try simp only [Act.put, List.getElem_toArray, List.getElem_cons_succ, List.getElem_cons_zero, List.setIfInBounds_toArray, List.set_cons_zero, List.set_cons_succ]
  have T := tx_three V3 gl g5 o5 c5 g7 o7 c7 nb nc fb fc lf HLF (by omega) (by omega) l5 l7 A5 A7 P.len 59
  have P := P.alloc (.cells #[.slice (some ⟨g5, o5, none⟩) (flN nb) c5, .slice (some ⟨g7, o7, none⟩) (flN nc) c7, .slice (some ⟨gl, 0, none⟩) 16 16] 59)
  have hH := hH.alloc (.cells #[.slice (some ⟨g5, o5, none⟩) (flN nb) c5, .slice (some ⟨g7, o7, none⟩) (flN nc) c7, .slice (some ⟨gl, 0, none⟩) 16 16] 59) hg2
  have hg2 : gh < (V3.alloc (.cells #[.slice (some ⟨g5, o5, none⟩) (flN nb) c5, .slice (some ⟨g7, o7, none⟩) (flN nc) c7, .slice (some ⟨gl, 0, none⟩) 16 16] 59)).heap.size := by rw [World.size_alloc]; omega
  generalize V3.alloc (.cells #[.slice (some ⟨g5, o5, none⟩) (flN nb) c5, .slice (some ⟨g7, o7, none⟩) (flN nc) c7, .slice (some ⟨gl, 0, none⟩) 16 16] 59) = V4 at T P hH hg2 ⊢
  generalize V3.heap.size = gs at T ⊢
  clear A5 A7
  refine wpAnyH_ready (rs := [10]) (by kernel_rfl) (by simp) ?_
  refine AllReadyH.cons rfl (fun K hK => ?_) AllReadyH.nil
  go_simp
  go_at_call 38
  refine (unhide HHO gs g5 o5 c5 g7 o7 c7 _ T).mono ?_
  rintro e V5 ⟨rfl, b9⟩
  have P := P.below b9
  refine hK.out _ _ (unhide KQ _ P.bel) (fun hHeld => ?_)
  clear hK K
  try simp only [Act.put, List.getElem_toArray, List.getElem_cons_succ, List.getElem_cons_zero, List.setIfInBounds_toArray, List.set_cons_zero, List.set_cons_succ]
  have hH := hH.keep b9 hg2
  have hg2 : gh < V5.heap.size := Nat.lt_of_lt_of_le hg2 b9.size
  clear T b9
  refine wpAnyH_ready (rs := [12]) (by kernel_rfl) (by simp) ?_
  refine AllReadyH.cons rfl (fun K hK => ?_) AllReadyH.nil
  have k0 := hH.c0
  have k1 := hH.c1
  have k2 := hH.f0
  have k3 := hH.f1
  go_simp
  have P := P.two (x := .int .u64 ((tgP key nb nc fb fc).1 : Nat)) (y := .int .u64 ((tgP key nb nc fb fc).2 : Nat)) (by omega : gh ≠ w.heap.size) (by omega) (show B ≤ gh by omega) (show gb ≤ gh by omega)
  refine hK.out _ _ (unhide KQ _ P.bel) (fun hHeld => ?_)
  clear hK K
  try simp only [Act.put, List.getElem_toArray, List.getElem_cons_succ, List.getElem_cons_zero, List.setIfInBounds_toArray, List.set_cons_zero, List.set_cons_succ]
  have hH := (hH.put0 (tgP key nb nc fb fc).1).put1 (tgP key nb nc fb fc).2
  have hg2 : gh < ((V5.setCell ⟨gh, 0, none⟩ (.int .u64 ((tgP key nb nc fb fc).1 : Nat))).setCell ⟨gh, 1, none⟩ (.int .u64 ((tgP key nb nc fb fc).2 : Nat))).heap.size := by
    simp only [World.setCell, Array.size_modify]
    exact hg2
  generalize (V5.setCell ⟨gh, 0, none⟩ (.int .u64 ((tgP key nb nc fb fc).1 : Nat))).setCell ⟨gh, 1, none⟩ (.int .u64 ((tgP key nb nc fb fc).2 : Nat)) = VF at P hH hg2 ⊢
  clear k0 k1 k2 k3
  refine wpAnyH_done (by kernel_rfl) ?_ _
  exact unhide FIN VF gh _ _ _ _ _ _ _ _ _ _ _ _ _ _ _ _ _ _ _ _ _ _ _ _ _ _ _ P hH hg2 hgh
end Go.Proofs.Ytidkbnbnnhbbiaa
