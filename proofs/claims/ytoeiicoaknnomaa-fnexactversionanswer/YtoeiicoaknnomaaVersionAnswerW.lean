/-
  The law on VersionAnswer, walked.
-/
import Derived.Test.YtoeiicoaknnomaaVmk
namespace Go.Proofs.Ytoeiicoaknnomaa.fnExactVersionAnswer
open Go.ChangeShapes Go.WideShapes Go.ChangeAt Go.RowKit
set_option linter.unusedVariables false

/-- block b holds these cells -/
structure HC (w : World) (b : Nat) (xs : Array Value) : Prop where
  lt : b < w.heap.size
  cv : ∀ o, w.cell? ⟨b, o, none⟩ = xs[o]?
theorem HC.below {w w' : World} {b : Nat} {xs : Array Value} (h : HC w b xs) (hb : Below w.heap.size w w') : HC w' b xs :=
  ⟨Nat.lt_of_lt_of_le h.lt hb.size, fun o => (hb.cell (p := ⟨b, o, none⟩) h.lt).trans (h.cv o)⟩
theorem HC.alloc {w : World} {b : Nat} {xs : Array Value} (h : HC w b xs) (o : Obj) : HC (w.alloc o) b xs := h.below ((Below.refl _ _).alloc (Nat.le_refl _) _)
theorem HC.drew {w : World} {b : Nat} {xs : Array Value} (h : HC w b xs) : HC w.drew b xs := h.below (Below.refl _ _).drew
theorem HC.new (w : World) (xs : Array Value) (T : TypeId) : HC (w.alloc (.cells xs T)) w.heap.size xs := ⟨by simp, fun o => by simp⟩
theorem HC.kept {w w' : World} {b : Nat} {xs : Array Value} (h : HC w b xs) (hs : w.heap.size ≤ w'.heap.size) (e : w'.heap[b]? = w.heap[b]?) : HC w' b xs :=
  ⟨Nat.lt_of_lt_of_le h.lt hs, fun o => (World.cell?_of_block (a := ⟨b, o, none⟩) e).trans (h.cv o)⟩
theorem iwAlloc {w : World} {base g n : Nat} {V : Nat → Int} (h : Iw w base g n V) (o : Obj) : Iw (w.alloc o) base g n V := h.below ((Below.refl _ _).alloc (Nat.le_refl _) _)
theorem iwKept {w w' : World} {base g n : Nat} {V : Nat → Int} (h : Iw w base g n V) (hs : w.heap.size ≤ w'.heap.size) (e : w'.heap[g]? = w.heap[g]?) : Iw w' base g n V :=
  ⟨h.ge, Nat.lt_of_lt_of_le h.lt hs, fun i hi => (World.cell?_of_block (a := ⟨g, i, none⟩) e).trans (h.cv i hi), h.bv, fun o => (World.frozen?_of_block (a := ⟨g, o, none⟩) e).trans (h.fz o)⟩

set_option maxHeartbeats 4000000 in
theorem walk_small (f bi ve : Int) (d s t p : ByteArray) (ra : Option Addr) (n cap : Nat) (V : Nat → Int) (rb : Option Addr) (m capm : Nat) (U : Nat → Int) (w : World) (hd : d.size ≤ maxLen) (hs : s.size ≤ maxLen) (ht : t.size ≤ maxLen) (hp : p.size ≤ maxLen) (hn : n ≤ maxLen) (h : Ia w ra n cap V) (hU : Ia w rb m capm U) (hm : m ≤ 1048576)
    (hl : ¬ (1048576 : Int) < d.size + s.size + t.size + p.size + n) :
    Calls Try.prog 3 #[hv f bi ve d s t p ra n cap, .slice rb m capm] w fun e w' => e = .returned (.bool true) ∧ Below w.heap.size w w' := by
  have HZ := hide (fun w => szHeader_any f bi ve d s t p ra n cap 1048576 w (by omega) (by omega) hd hs ht hp hn)
  unfold szH at HZ
  rw [if_neg hl] at HZ
  have hd2 : d.size ≤ 1048576 := by omega
  have hs2 : s.size ≤ 1048576 := by omega
  have ht2 : t.size ≤ 1048576 := by omega
  have hp2 : p.size ≤ 1048576 := by omega
  have hn2 : n ≤ 1048576 := by omega
  have HR := hide h
  have HU := hide hU
  clear hd hs ht hp hn h hU
  go_enter Try.func3, Try.ntmps3
  go_wp2_with fail
  refine (unhide HZ _).mono ?_
  rintro e w1 ⟨rfl, hb1⟩
  obtain ⟨hc1, hf1⟩ := bcell hb1
  have B1 : Below w.heap.size w w1 := ((Below.refl _ _).alloc (Nat.le_refl _) _).trans (hb1.mono (by simp))
  go_wp2_with fail
  refine (toHeader_w f bi ve d s t p ra n cap V _ hn2 ((unhide HR).below B1)).mono ?_
  rintro e w2 ⟨g2, rfl, i2, hb2⟩
  have D2 := hb1.trans (hb2.mono hb1.size)
  have B2 := B1.trans (hb2.mono B1.size)
  clear hc1 hf1
  obtain ⟨hc2, hf2⟩ := bcell D2
  go_wp2_with fail
  refine (toIntS_w rb m capm U _ hm ((unhide HU).below B2)).mono ?_
  rintro e w3 ⟨rfl, i3, hb3⟩
  have D3 := D2.trans (hb3.mono D2.size)
  have B3 := B2.trans (hb3.mono B2.size)
  have j2 := i2.below hb3
  clear hc2 hf2
  obtain ⟨hc3, hf3⟩ := bcell D3
  go_wp2_with fail
  refine (specVA_any f bi ve d s t p g2 0 n n w2.heap.size 0 m m V U _ hd2 hs2 ht2 hp2 hn2 hm j2.ir i3.ir).mono ?_
  generalize hr : va f bi ve d.size s.size t.size p.size n V m U = r
  rintro e w4 ⟨hA, hb4⟩
  have D4 := D3.trans (hb4.mono D3.size)
  have B4 := B3.trans (hb4.mono B3.size)
  clear hc3 hf3
  obtain ⟨hc4, hf4⟩ := bcell D4
  have HI := hide (fun (W : World) (ga gb : Nat) (ha : Ir W ga 0 n V) (hb : Ir W gb 0 m U) => implVA_any f bi ve d s t p ga 0 n n gb 0 m m V U W hd2 hs2 ht2 hp2 hn2 hm ha hb)
  rw [hr] at HI
  clear hr
  rcases hA with ⟨rfl, rfl⟩ | ⟨rfl, m1, m2, gW, capW, rfl, IW⟩
  · clear i2 i3 j2 D2 D3 B1 B2 B3 hb1 hb2 hb3 HZ hc4 hf4
    have A4 : HC w4 w.heap.size _ := (HC.new w _ _).below D4
    have la4 := A4.lt
    have ha4 := A4.cv
    clear D4
    go_wp2_with fail
    refine (toHeader_w f bi ve d s t p ra n cap V _ hn2 ((unhide HR).below (B4.alloc B4.size _))).mono ?_
    rintro e w5 ⟨g5, rfl, i5, hb5⟩
    have B5 := (B4.alloc B4.size _).trans (hb5.mono (Nat.le_trans B4.size (by simp)))
    have A5 := (A4.alloc _).below hb5
    have W5 := (HC.new w4 _ _).below hb5
    have g5l : w4.heap.size < g5 := by have := i5.ge; simp at this; omega
    have g5h := i5.lt
    have lwa := A4.lt
    clear ha4 la4 A4 B4
    have ha5 := A5.cv
    have la5 := A5.lt
    have hw5 := W5.cv
    have lw5 := W5.lt
    go_wp2_with fail
    refine (toIntS_w rb m capm U _ hm ((unhide HU).below (B5.alloc B5.size _))).mono ?_
    rintro e w6 ⟨rfl, i6, hb6⟩
    have i6 : Iw w6 (w5.heap.size + 1) (w5.heap.size + 1) m U := by simpa using i6
    have B6 := (B5.alloc B5.size _).trans (hb6.mono (Nat.le_trans B5.size (by simp)))
    have A6 := (A5.alloc _).below hb6
    have W6 := (W5.alloc _).below hb6
    have X6 := (HC.new w5 _ _).below hb6
    have i6h := i6.lt
    have i56 := (iwAlloc i5 _).below hb6
    clear ha5 la5 hw5 lw5 A5 W5 B5 i5 hb5
    have ha6 := A6.cv
    have la6 := A6.lt
    have hw6 := W6.cv
    have lw6 := W6.lt
    have hx6 := X6.cv
    have lx6 := X6.lt
    go_wp2_with fail
    refine (unhide HI w6 g5 (w5.heap.size + 1) i56.ir i6.ir).mono ?_
    rintro e w7 ⟨⟨_, rfl⟩ | ⟨h, _⟩, hb7⟩
    case inr => cases h
    have B7 := B6.trans (hb7.mono B6.size)
    have s67 := hb7.size
    have A7 := A6.below hb7
    have W7 := W6.below hb7
    have X7 := X6.below hb7
    have i57 := i56.below hb7
    have i67 := i6.below hb7
    clear ha6 la6 hw6 lw6 hx6 lx6 A6 W6 X6 B6 i56 i6 hb6
    have ha7 := A7.cv
    have la7 := A7.lt
    have hw7 := W7.cv
    have lw7 := W7.lt
    have hx7 := X7.cv
    have lx7 := X7.lt
    go_wp2_with fail
    refine (eqHeader_h0 _).mono ?_
    rintro e w8 ⟨rfl, hb8⟩
    have B8 := (B7.alloc B7.size _).trans (hb8.mono (Nat.le_trans B7.size (by simp)))
    have A8 := (A7.alloc _).below hb8
    have W8 := (W7.alloc _).below hb8
    have X8 := (X7.alloc _).below hb8
    have G8 := (HC.new w7 _ _).below hb8
    have i58 := (iwAlloc i57 _).below hb8
    have i68 := (iwAlloc i67 _).below hb8
    clear ha7 la7 hw7 lw7 hx7 lx7 A7 W7 X7 B7 i57 i67 hb7 hb8
    have B8d := B8.drew
    have i58d := i58.below (Below.refl _ _).drew
    have HX := hide X8.drew
    have ha8 := A8.cv
    have la8 := A8.lt
    have hx8 := X8.cv
    have lx8 := X8.lt
    go_wp2_with fail
    go_region_with (first | (go_at_call 6; refine (toHeader_w f bi ve d s t p ra n cap V _ hn2 ((unhide HR).below B8d)).mono ?_; rintro e w9 ⟨g9, rfl, i9, hb9⟩; have x9 : ∀ o, w9.cell? ⟨w5.heap.size, o, none⟩ = _ := ((unhide HX).below hb9).cv) | (go_at_call 9; refine (eqHeader_same f bi ve d s t p g5 0 n n g9 0 n V _ hn2 (i58d.below hb9).ir i9.ir).mono ?_; rintro e w10 ⟨rfl, hb10⟩))
    all_goals
      have T := (((Below.refl w8.heap.size w8).drew).trans hb9).trans (hb10.mono hb9.size)
      have B10 := B8.trans (T.mono B8.size)
      have A10 := A8.below T
      have W10 := W8.below T
      have X10 := X8.below T
      have G10 := G8.below T
      have i510 := i58.below T
      have i610 := i68.below T
      clear ha8 la8 hx8 lx8 A8 W8 X8 G8 i58 i68 B8 B8d i58d HX i9 hb9 hb10 T x9
      go_wp2_with fail
      refine (toIntS_w rb m capm U _ hm ((unhide HU).below B10)).mono ?_
      rintro e w11 ⟨rfl, i11, hb11⟩
      go_wp2_with fail
      refine (eqIntS_same (w5.heap.size + 1) 0 m m w10.heap.size 0 m U _ hm (i610.below hb11).ir i11.ir).mono ?_
      rintro e w12 ⟨rfl, hb12⟩
      have T := hb11.trans (hb12.mono hb11.size)
      have B12 := B10.trans (T.mono B10.size)
      have A12 := A10.below T
      have W12 := W10.below T
      have X12 := X10.below T
      have G12 := G10.below T
      have i512 := i510.below T
      have i612 := i610.below T
      clear A10 W10 X10 G10 i510 i610 B10 i11 hb11 hb12 T
      have hx12 := X12.cv
      have lx12 := X12.lt
      go_wp2_with fail
      refine (markHeader_w f bi ve d s t p _ g5 n n V _ hn2 i512 1 (by omega) (by omega)).mono ?_
      rintro e w13 ⟨rfl, j13, hz13, hk13, hb13⟩
      have s13 : w12.heap.size ≤ w13.heap.size := by omega
      have B13 := B12.trans (hb13.mono (by simp; omega))
      have A13 := A12.kept s13 (hk13 _ A12.lt (by omega))
      have W13 := W12.kept s13 (hk13 _ W12.lt (by omega))
      have G13 := G12.kept s13 (hk13 _ G12.lt (by omega))
      have i613 := iwKept i612 s13 (hk13 _ i612.lt (by omega))
      clear hx12 lx12 A12 W12 X12 G12 i512 i612 B12 j13 hz13 hk13 hb13 s13
      go_wp2_with fail
      refine (markIntS_w _ (w5.heap.size + 1) m m U _ hm i613 (1 + n) (by omega) (by omega)).mono ?_
      rintro e w14 ⟨rfl, j14, hK14⟩
      have s14 : w13.heap.size ≤ w14.heap.size := Nat.le_of_eq hK14.size.symm
      have B14 := B13.trans (hK14.below (by omega))
      have A14 := A13.kept s14 (hK14.block _ (by omega))
      have W14 := W13.kept s14 (hK14.block _ (by omega))
      have G14 := G13.kept s14 (hK14.block _ (by omega))
      clear A13 W13 G13 i613 B13 j14 hK14 s14
      have hw14 := W14.cv
      have lw14 := W14.lt
      have hg14 := G14.cv
      have lg14 := G14.lt
      have hk14 : ¬ (1 + (n : Int) + (m : Int)) < 0 := by omega
      go_wp2_with fail
      refine (eqHeader_h0 _).mono ?_
      rintro e w15 ⟨rfl, hb15⟩
      have B15 := B14.trans (hb15.mono B14.size)
      have A15 := A14.below hb15
      have W15 := W14.below hb15
      have G15 := G14.below hb15
      clear hw14 lw14 hg14 lg14 A14 W14 G14 B14 hb15
      have hg15 := G15.cv
      have lg15 := G15.lt
      go_wp2_with fail
      refine (markHeader_h0 1 _).mono ?_
      rintro e w16 ⟨rfl, hb16⟩
      have B16 := B15.trans (hb16.mono B15.size)
      have A16 := A15.below hb16
      have W16 := W15.below hb16
      have G16 := G15.below hb16
      clear hg15 lg15 A15 W15 G15 B15 hb16
      have hg16 := G16.cv
      have lg16 := G16.lt
      go_wp2_with fail
      refine (heldHeader_h0 1 (by omega) _).mono ?_
      rintro e w17 ⟨rfl, hb17⟩
      have B17 := B16.trans (hb17.mono B16.size)
      have A17 := A16.below hb17
      have W17 := W16.below hb17
      have G17 := G16.below hb17
      clear hg16 lg16 A16 W16 G16 B16 hb17
      have ha17 := A17.cv
      have la17 := A17.lt
      go_wp2_with fail
      refine (toHeader_w f bi ve d s t p ra n cap V _ hn2 ((unhide HR).below B17)).mono ?_
      rintro e w18 ⟨g18, rfl, i18, hb18⟩
      have B18 := B17.trans (hb18.mono B17.size)
      go_wp2_with fail
      refine (toIntS_w rb m capm U _ hm ((unhide HU).below B18)).mono ?_
      rintro e w19 ⟨rfl, i19, hb19⟩
      go_wp2_with fail
      refine (unhide HI w19 g18 w18.heap.size (i18.below hb19).ir i19.ir).mono ?_
      rintro e w20 ⟨⟨_, rfl⟩ | ⟨h, _⟩, hb20⟩
      case inr => cases h
      have T := (hb18.trans (hb19.mono hb18.size)).trans (hb20.mono (Nat.le_trans hb18.size hb19.size))
      have B20 := B17.trans (T.mono B17.size)
      have W20 := W17.below T
      have G20 := G17.below T
      clear ha17 la17 A17 W17 G17 B17 B18 i18 i19 hb18 hb19 hb20 T
      have hw20 := W20.cv
      have lw20 := W20.lt
      go_wp2_with fail
      refine (eqHeader_h0 _).mono ?_
      rintro e w21 ⟨rfl, hb21⟩
      have B21 := (B20.alloc B20.size _).trans (hb21.mono (Nat.le_trans B20.size (by simp)))
      have G21 := (G20.alloc _).below hb21
      clear hw20 lw20 W20 G20 B20 hb21
      have hg21 := G21.cv
      have lg21 := G21.lt
      go_wp2_with fail
      refine (heldHeader_h0 1 (by omega) _).mono ?_
      rintro e w22 ⟨rfl, hb22⟩
      go_wp2
      go_ret
      exact ⟨rfl, B21.trans (hb22.mono B21.size)⟩
  · clear i2 i3 j2 D2 D3 B1 B2 B3 hb1 hb2 hb3 HZ hc4 hf4
    have A4 : HC w4 w.heap.size _ := (HC.new w _ _).below D4
    have la4 := A4.lt
    have ha4 := A4.cv
    clear D4
    go_wp2_with fail
    refine (toHeader_w f bi ve d s t p ra n cap V _ hn2 ((unhide HR).below (B4.alloc B4.size _))).mono ?_
    rintro e w5 ⟨g5, rfl, i5, hb5⟩
    have B5 := (B4.alloc B4.size _).trans (hb5.mono (Nat.le_trans B4.size (by simp)))
    have A5 := (A4.alloc _).below hb5
    have W5 := (HC.new w4 _ _).below hb5
    have R5 := (iwAlloc IW _).below hb5
    have g5l : w4.heap.size < g5 := by have := i5.ge; simp at this; omega
    have g5h := i5.lt
    have gWh := IW.lt
    have lwa := A4.lt
    clear ha4 la4 A4 B4 IW
    have ha5 := A5.cv
    have la5 := A5.lt
    have hw5 := W5.cv
    have lw5 := W5.lt
    go_wp2_with fail
    refine (toIntS_w rb m capm U _ hm ((unhide HU).below (B5.alloc B5.size _))).mono ?_
    rintro e w6 ⟨rfl, i6, hb6⟩
    have i6 : Iw w6 (w5.heap.size + 1) (w5.heap.size + 1) m U := by simpa using i6
    have B6 := (B5.alloc B5.size _).trans (hb6.mono (Nat.le_trans B5.size (by simp)))
    have A6 := (A5.alloc _).below hb6
    have W6 := (W5.alloc _).below hb6
    have X6 := (HC.new w5 _ _).below hb6
    have i6h := i6.lt
    have R6 := (iwAlloc R5 _).below hb6
    have i56 := (iwAlloc i5 _).below hb6
    clear ha5 la5 hw5 lw5 A5 W5 R5 B5 i5 hb5
    have ha6 := A6.cv
    have la6 := A6.lt
    have hw6 := W6.cv
    have lw6 := W6.lt
    have hx6 := X6.cv
    have lx6 := X6.lt
    go_wp2_with fail
    refine (unhide HI w6 g5 (w5.heap.size + 1) i56.ir i6.ir).mono ?_
    rintro e w7 ⟨⟨h, _⟩ | ⟨_, _, _, gG, capG, rfl, IG⟩, hb7⟩
    · cases h
    have B7 := B6.trans (hb7.mono B6.size)
    have gGl := IG.ge
    have gGh := IG.lt
    have A7 := A6.below hb7
    have W7 := W6.below hb7
    have X7 := X6.below hb7
    have R7 := R6.below hb7
    have i57 := i56.below hb7
    have i67 := i6.below hb7
    clear ha6 la6 hw6 lw6 hx6 lx6 A6 W6 X6 R6 B6 i56 i6 hb6
    have ha7 := A7.cv
    have la7 := A7.lt
    have hw7 := W7.cv
    have lw7 := W7.lt
    have hx7 := X7.cv
    have lx7 := X7.lt
    go_wp2_with fail
    refine (eqHeader_same 4 0 0 s d _ _ gG 0 m capG gW 0 capW U _ hm (iwAlloc IG _).ir (iwAlloc R7 _).ir).mono ?_
    rintro e w8 ⟨rfl, hb8⟩
    have B8 := (B7.alloc B7.size _).trans (hb8.mono (Nat.le_trans B7.size (by simp)))
    have A8 := (A7.alloc _).below hb8
    have W8 := (W7.alloc _).below hb8
    have X8 := (X7.alloc _).below hb8
    have G8 := (HC.new w7 _ _).below hb8
    have R8 := (iwAlloc R7 _).below hb8
    have IG8 := (iwAlloc IG _).below hb8
    have i58 := (iwAlloc i57 _).below hb8
    have i68 := (iwAlloc i67 _).below hb8
    clear ha7 la7 hw7 lw7 hx7 lx7 A7 W7 X7 R7 B7 i57 i67 IG hb7 hb8
    have B8d := B8.drew
    have i58d := i58.below (Below.refl _ _).drew
    have HX := hide X8.drew
    have ha8 := A8.cv
    have la8 := A8.lt
    have hx8 := X8.cv
    have lx8 := X8.lt
    go_wp2_with fail
    go_region_with (first | (go_at_call 6; refine (toHeader_w f bi ve d s t p ra n cap V _ hn2 ((unhide HR).below B8d)).mono ?_; rintro e w9 ⟨g9, rfl, i9, hb9⟩; have x9 : ∀ o, w9.cell? ⟨w5.heap.size, o, none⟩ = _ := ((unhide HX).below hb9).cv) | (go_at_call 9; refine (eqHeader_same f bi ve d s t p g5 0 n n g9 0 n V _ hn2 (i58d.below hb9).ir i9.ir).mono ?_; rintro e w10 ⟨rfl, hb10⟩))
    all_goals
      have T := (((Below.refl w8.heap.size w8).drew).trans hb9).trans (hb10.mono hb9.size)
      have B10 := B8.trans (T.mono B8.size)
      have A10 := A8.below T
      have W10 := W8.below T
      have X10 := X8.below T
      have G10 := G8.below T
      have R10 := R8.below T
      have IG10 := IG8.below T
      have i510 := i58.below T
      have i610 := i68.below T
      clear ha8 la8 hx8 lx8 A8 W8 X8 G8 R8 IG8 i58 i68 B8 B8d i58d HX i9 hb9 hb10 T x9
      go_wp2_with fail
      refine (toIntS_w rb m capm U _ hm ((unhide HU).below B10)).mono ?_
      rintro e w11 ⟨rfl, i11, hb11⟩
      go_wp2_with fail
      refine (eqIntS_same (w5.heap.size + 1) 0 m m w10.heap.size 0 m U _ hm (i610.below hb11).ir i11.ir).mono ?_
      rintro e w12 ⟨rfl, hb12⟩
      have T := hb11.trans (hb12.mono hb11.size)
      have B12 := B10.trans (T.mono B10.size)
      have A12 := A10.below T
      have W12 := W10.below T
      have X12 := X10.below T
      have G12 := G10.below T
      have R12 := R10.below T
      have IG12 := IG10.below T
      have i512 := i510.below T
      have i612 := i610.below T
      clear A10 W10 X10 G10 R10 IG10 i510 i610 B10 i11 hb11 hb12 T
      have hx12 := X12.cv
      have lx12 := X12.lt
      go_wp2_with fail
      refine (markHeader_w f bi ve d s t p _ g5 n n V _ hn2 i512 1 (by omega) (by omega)).mono ?_
      rintro e w13 ⟨rfl, j13, hz13, hk13, hb13⟩
      have s13 : w12.heap.size ≤ w13.heap.size := by omega
      have B13 := B12.trans (hb13.mono (by simp; omega))
      have A13 := A12.kept s13 (hk13 _ A12.lt (by omega))
      have W13 := W12.kept s13 (hk13 _ W12.lt (by omega))
      have G13 := G12.kept s13 (hk13 _ G12.lt (by omega))
      have R13 := iwKept R12 s13 (hk13 _ R12.lt (by omega))
      have IG13 := iwKept IG12 s13 (hk13 _ IG12.lt (by omega))
      have i613 := iwKept i612 s13 (hk13 _ i612.lt (by omega))
      clear hx12 lx12 A12 W12 X12 G12 R12 IG12 i512 i612 B12 j13 hz13 hk13 hb13 s13
      go_wp2_with fail
      refine (markIntS_w _ (w5.heap.size + 1) m m U _ hm i613 (1 + n) (by omega) (by omega)).mono ?_
      rintro e w14 ⟨rfl, j14, hK14⟩
      have s14 : w13.heap.size ≤ w14.heap.size := Nat.le_of_eq hK14.size.symm
      have B14 := B13.trans (hK14.below (by omega))
      have A14 := A13.kept s14 (hK14.block _ (by omega))
      have W14 := W13.kept s14 (hK14.block _ (by omega))
      have G14 := G13.kept s14 (hK14.block _ (by omega))
      have R14 := iwKept R13 s14 (hK14.block _ (by omega))
      have IG14 := iwKept IG13 s14 (hK14.block _ (by omega))
      clear A13 W13 G13 R13 IG13 i613 B13 j14 hK14 s14
      have hw14 := W14.cv
      have lw14 := W14.lt
      have hg14 := G14.cv
      have lg14 := G14.lt
      have hk14 : ¬ (1 + (n : Int) + (m : Int)) < 0 := by omega
      go_wp2_with fail
      refine (eqHeader_same 4 0 0 s d _ _ gG 0 m capG gW 0 capW U _ hm IG14.ir R14.ir).mono ?_
      rintro e w15 ⟨rfl, hb15⟩
      have B15 := B14.trans (hb15.mono B14.size)
      have A15 := A14.below hb15
      have W15 := W14.below hb15
      have G15 := G14.below hb15
      have R15 := R14.below hb15
      have IG15 := IG14.below hb15
      clear hw14 lw14 hg14 lg14 A14 W14 G14 R14 IG14 B14 hb15
      have hg15 := G15.cv
      have lg15 := G15.lt
      go_wp2_with fail
      refine (markHeader_w 4 0 0 s d _ _ _ gG m capG U _ hm IG15 1 (by omega) (by omega)).mono ?_
      rintro e w16 ⟨rfl, j16, hz16, hk16, hb16⟩
      have s16 : w15.heap.size ≤ w16.heap.size := by omega
      have B16 := B15.trans (hb16.mono (by omega))
      have A16 := A15.kept s16 (hk16 _ A15.lt (by omega))
      have W16 := W15.kept s16 (hk16 _ W15.lt (by omega))
      have G16 := G15.kept s16 (hk16 _ G15.lt (by omega))
      have R16 := iwKept R15 s16 (hk16 _ R15.lt (by omega))
      clear hg15 lg15 A15 W15 G15 R15 IG15 B15 hz16 hk16 hb16 s16
      have hg16 := G16.cv
      have lg16 := G16.lt
      go_wp2_with fail
      refine (heldHeader_w 4 0 0 s d _ _ _ gG m capG _ hm 1 (by omega) (by omega) j16).mono ?_
      rintro e w17 ⟨rfl, hb17⟩
      have B17 := B16.trans (hb17.mono B16.size)
      have A17 := A16.below hb17
      have W17 := W16.below hb17
      have G17 := G16.below hb17
      have R17 := R16.below hb17
      have j17 := j16.below hb17
      clear hg16 lg16 A16 W16 G16 R16 B16 j16 hb17
      have ha17 := A17.cv
      have la17 := A17.lt
      have hm17 : ¬ (1 + (m : Int)) < 0 := by omega
      go_wp2_with fail
      refine (toHeader_w f bi ve d s t p ra n cap V _ hn2 ((unhide HR).below B17)).mono ?_
      rintro e w18 ⟨g18, rfl, i18, hb18⟩
      have B18 := B17.trans (hb18.mono B17.size)
      go_wp2_with fail
      refine (toIntS_w rb m capm U _ hm ((unhide HU).below B18)).mono ?_
      rintro e w19 ⟨rfl, i19, hb19⟩
      go_wp2_with fail
      refine (unhide HI w19 g18 w18.heap.size (i18.below hb19).ir i19.ir).mono ?_
      rintro e w20 ⟨⟨h, _⟩ | ⟨_, _, _, gH, capH, rfl, IH⟩, hb20⟩
      · cases h
      have T := (hb18.trans (hb19.mono hb18.size)).trans (hb20.mono (Nat.le_trans hb18.size hb19.size))
      have B20 := B17.trans (T.mono B17.size)
      have W20 := W17.below T
      have G20 := G17.below T
      have R20 := R17.below T
      have j20 := j17.below T
      clear ha17 la17 A17 W17 G17 R17 B17 j17 B18 i18 i19 hb18 hb19 hb20 T
      have hw20 := W20.cv
      have lw20 := W20.lt
      go_wp2_with fail
      refine (eqHeader_same 4 0 0 s d _ _ gH 0 m capH gW 0 capW U _ hm (iwAlloc IH _).ir (iwAlloc R20 _).ir).mono ?_
      rintro e w21 ⟨rfl, hb21⟩
      have B21 := (B20.alloc B20.size _).trans (hb21.mono (Nat.le_trans B20.size (by simp)))
      have G21 := (G20.alloc _).below hb21
      have j21 := (iwAlloc j20 _).below hb21
      clear hw20 lw20 W20 G20 R20 j20 B20 IH hb21
      have hg21 := G21.cv
      have lg21 := G21.lt
      go_wp2_with fail
      refine (heldHeader_w 4 0 0 s d _ _ _ gG m capG _ hm 1 (by omega) (by omega) j21).mono ?_
      rintro e w22 ⟨rfl, hb22⟩
      go_wp2
      go_ret
      exact ⟨rfl, B21.trans (hb22.mono B21.size)⟩

theorem walk_long (f bi ve : Int) (d s t p : ByteArray) (ra : Option Addr) (n cap : Nat) (rb : Option Addr) (m capm : Nat) (w : World) (hm : m ≤ maxLen) (hl : 1048576 < m) :
    Calls Try.prog 3 #[hv f bi ve d s t p ra n cap, .slice rb m capm] w fun e w' => e = .returned (.bool true) ∧ Below w.heap.size w w' := by
  unfold maxLen at hm
  have hm' : (1048576 : Int) < (m : Int) := by omega
  go_enter Try.func3, Try.ntmps3
  go_wp2
  go_ret
  exact ⟨rfl, (Below.refl _ _).alloc (Nat.le_refl _) _⟩

theorem walk_big (f bi ve : Int) (d s t p : ByteArray) (ra : Option Addr) (n cap : Nat) (rb : Option Addr) (m capm : Nat) (w : World) (hd : d.size ≤ maxLen) (hs : s.size ≤ maxLen) (ht : t.size ≤ maxLen) (hp : p.size ≤ maxLen) (hn : n ≤ maxLen) (hm : m ≤ 1048576)
    (hl : (1048576 : Int) < d.size + s.size + t.size + p.size + n) :
    Calls Try.prog 3 #[hv f bi ve d s t p ra n cap, .slice rb m capm] w fun e w' => e = .returned (.bool true) ∧ Below w.heap.size w w' := by
  have HZ := hide (fun w => szHeader_any f bi ve d s t p ra n cap 1048576 w (by omega) (by omega) hd hs ht hp hn)
  unfold szH at HZ
  rw [if_pos hl] at HZ
  clear hd hs ht hp hn hl
  go_enter Try.func3, Try.ntmps3
  go_wp2_with fail
  refine (unhide HZ _).mono ?_
  rintro e w1 ⟨rfl, hb1⟩
  go_wp2
  go_ret
  exact ⟨rfl, ((Below.refl _ _).alloc (Nat.le_refl _) _).trans (hb1.mono (by simp))⟩

theorem walk (f bi ve : Int) (d s t p : ByteArray) (ra : Option Addr) (n cap : Nat) (V : Nat → Int) (rb : Option Addr) (m capm : Nat) (U : Nat → Int) (w : World) (hd : d.size ≤ maxLen) (hs : s.size ≤ maxLen) (ht : t.size ≤ maxLen) (hp : p.size ≤ maxLen) (hn : n ≤ maxLen) (h : Ia w ra n cap V) (hm : m ≤ maxLen) (hU : Ia w rb m capm U) :
    Calls Try.prog 3 #[hv f bi ve d s t p ra n cap, .slice rb m capm] w fun e w' => e = .returned (.bool true) ∧ Below w.heap.size w w' := by
  by_cases h1 : 1048576 < m
  · exact walk_long f bi ve d s t p ra n cap rb m capm w hm h1
  by_cases hl : (1048576 : Int) < d.size + s.size + t.size + p.size + n
  · exact walk_big f bi ve d s t p ra n cap rb m capm w hd hs ht hp hn (by omega) hl
  · exact walk_small f bi ve d s t p ra n cap V rb m capm U w hd hs ht hp hn h hU (by omega) hl
end Go.Proofs.Ytoeiicoaknnomaa.fnExactVersionAnswer
