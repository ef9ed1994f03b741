/-
  The law on RetryPacket, walked.
-/
import Derived.Test.YtgfjkdkapafndaaDoorRpkX
import Derived.Test.YtgfjkdkapafndaaDoorVrpX
namespace Go.Proofs.YtgfjkdkapafndaaDoor.fnExactRetryPacket
open Go.ChangeShapes Go.WideShapes Go.ChangeAt Go.RowKit
set_option linter.unusedVariables false
set_option maxRecDepth 100000

/-- block b holds these cells -/
structure HC (w : World) (b : Nat) (xs : Array Value) : Prop where
  lt : b < w.heap.size
  cv : ∀ o, w.cell? ⟨b, o, none⟩ = xs[o]?
theorem HC.below {w w' : World} {b : Nat} {xs : Array Value} (h : HC w b xs) (hb : Below w.heap.size w w') : HC w' b xs :=
  ⟨Nat.lt_of_lt_of_le h.lt hb.size, fun o => (hb.cell (p := ⟨b, o, none⟩) h.lt).trans (h.cv o)⟩
theorem HC.alloc {w : World} {b : Nat} {xs : Array Value} (h : HC w b xs) (o : Obj) : HC (w.alloc o) b xs := h.below ((Below.refl _ _).alloc (Nat.le_refl _) _)
theorem HC.drew {w : World} {b : Nat} {xs : Array Value} (h : HC w b xs) : HC w.drew b xs := h.below (Below.refl _ _).drew
theorem HC.new (w : World) (xs : Array Value) (T : TypeId) : HC (w.alloc (.cells xs T)) w.heap.size xs := ⟨by simp, fun o => by simp⟩
theorem HC.kept {w w' : World} {b : Nat} {xs : Array Value} (h : HC w b xs) (hs : w.heap.size ≤ w'.heap.size) (e : w'.heap[b]? = w.heap[b]?) : HC w' b xs :=
  ⟨Nat.lt_of_lt_of_le h.lt hs, fun o => (World.cell?_of_block (a := ⟨b, o, none⟩) e).trans (h.cv o)⟩
theorem iwAlloc {w : World} {base g n : Nat} {V : Nat → Int} (h : Iw w base g n V) (o : Obj) : Iw (w.alloc o) base g n V := h.below ((Below.refl _ _).alloc (Nat.le_refl _) _)
theorem iwKept {w w' : World} {base g n : Nat} {V : Nat → Int} (h : Iw w base g n V) (hs : w.heap.size ≤ w'.heap.size) (e : w'.heap[g]? = w.heap[g]?) : Iw w' base g n V :=
  ⟨h.ge, Nat.lt_of_lt_of_le h.lt hs, fun i hi => (World.cell?_of_block (a := ⟨g, i, none⟩) e).trans (h.cv i hi), h.bv, fun o => (World.frozen?_of_block (a := ⟨g, o, none⟩) e).trans (h.fz o)⟩

set_option maxHeartbeats 4000000 in
theorem walk_small (f bi ve : Int) (d s t p : ByteArray) (ra : Option Addr) (n cap : Nat) (V : Nat → Int) (tk sc : ByteArray) (f' bi' ve' : Int) (d' s' t' p' : ByteArray) (r : Bool) (w : World) (htz : Tz w) (hd : d.size ≤ maxLen) (hs : s.size ≤ maxLen) (ht : t.size ≤ maxLen) (hp : p.size ≤ maxLen) (hn : n ≤ maxLen) (h : Ia w ra n cap V) (htk : tk.size ≤ 1048576) (hsc : sc.size ≤ 1048576)
    (hl : ¬ (1048576 : Int) < d.size + s.size + t.size + p.size + n)
    (HS0 : ∀ W g, Ir W g 0 n V → Calls Tryd.prog 5 #[hv f bi ve d s t p (some ⟨g, 0, none⟩) n n, .string tk, .string sc] W fun e w' => e = .returned (.tuple #[hv f' bi' ve' d' s' t' p' none 0 0, .bool r]) ∧ Below W.heap.size W w')
    (HI0 : ∀ W g, Tz W → Ir W g 0 n V → Calls Tryd.prog 7 #[hv f bi ve d s t p (some ⟨g, 0, none⟩) n n, .string tk, .string sc] W fun e w' => e = .returned (.tuple #[hv f' bi' ve' d' s' t' p' none 0 0, .bool r]) ∧ Below W.heap.size W w') :
    Calls Tryd.prog 3 #[hv f bi ve d s t p ra n cap, .string tk, .string sc] w fun e w' => e = .returned (.bool true) ∧ Below w.heap.size w w' := by
  have HZ := hide (fun w => szHeader_any f bi ve d s t p ra n cap 1048576 w (by omega) (by omega) hd hs ht hp hn)
  unfold szH at HZ
  rw [if_neg hl] at HZ
  have hn2 : n ≤ 1048576 := by omega
  have HR := hide h
  have HS := hide HS0
  have HI := hide HI0
  have TZ := hide htz
  have z1 : ¬ (1048576 : Int) < tk.size := by omega
  have z2 : ¬ (1048576 : Int) < sc.size := by omega
  clear hd hs ht hp hn h HS0 HI0 htz
  have EQ := hide (fun W => eqHd_nil f' bi' ve' d' s' t' p' W)
  have MK := hide (fun W => markHd_nil f' bi' ve' d' s' t' p' 1 W)
  have HD := hide (fun W => heldHd_nil f' bi' ve' d' s' t' p' 1 (by omega) W)
  go_enter Tryd.func3, Tryd.ntmps3
  go_wp2_with fail
  refine (unhide HZ _).mono ?_
  rintro e w1 ⟨rfl, hb1⟩
  obtain ⟨hc1, hf1⟩ := bcell hb1
  have B1 : Below w.heap.size w w1 := ((Below.refl _ _).alloc (Nat.le_refl _) _).trans (hb1.mono (by simp))
  go_wp2_with fail
  refine (toHeader_w f bi ve d s t p ra n cap V _ hn2 ((unhide HR).below B1)).mono ?_
  rintro e w2 ⟨g2, rfl, i2, hb2⟩
  have D2 := hb1.trans (hb2.mono hb1.size)
  have B2 := B1.trans (hb2.mono B1.size)
  clear hc1 hf1
  go_wp2_with fail
  refine (unhide HS _ _ i2.ir).mono ?_
  rintro e w4 ⟨rfl, hb4⟩
  have D4 := D2.trans (hb4.mono D2.size)
  have B4 := B2.trans (hb4.mono B2.size)
  clear i2 D2 B1 B2 hb1 hb2 hb4 HZ HS
  have A4 : HC w4 w.heap.size _ := (HC.new w _ _).below D4
  have la4 := A4.lt
  have ha4 := A4.cv
  clear D4
  go_wp2_with fail
  refine (toHeader_w f bi ve d s t p ra n cap V _ hn2 ((unhide HR).below (B4.alloc B4.size _))).mono ?_
  rintro e w5 ⟨g5, rfl, i5, hb5⟩
  have B5 := (B4.alloc B4.size _).trans (hb5.mono (Nat.le_trans B4.size (by simp)))
  have A5 := (A4.alloc _).below hb5
  have W5 := (HC.new w4 _ _).below hb5
  have g5l : w4.heap.size < g5 := by have := i5.ge; simp at this; omega
  have g5h := i5.lt
  have lwa := A4.lt
  clear ha4 la4 A4 B4 hb5
  have ha5 := A5.cv
  have la5 := A5.lt
  have hw5 := W5.cv
  have lw5 := W5.lt
  go_wp2_with fail
  have T5 := hide ((unhide TZ).below (B5.alloc B5.size (.cells #[.int .i64 f, .int .i64 bi, .int .i64 ve, .string d, .string s, .string t, .string p, .slice (some ⟨g5, 0, none⟩) n n] 26)))
  refine (unhide HI _ g5 (unhide T5) (iwAlloc i5 _).ir).mono ?_
  rintro e w7 ⟨rfl, hb7⟩
  have B7 := (B5.alloc B5.size _).trans (hb7.mono (Nat.le_trans B5.size (by simp)))
  have s67 : w5.heap.size < w7.heap.size := by have := hb7.size; simp at this; omega
  have A7 := (A5.alloc _).below hb7
  have W7 := (W5.alloc _).below hb7
  have X7 := (HC.new w5 _ _).below hb7
  have i57 := (iwAlloc i5 _).below hb7
  clear ha5 la5 hw5 lw5 A5 W5 B5 i5 T5 hb7
  have ha7 := A7.cv
  have la7 := A7.lt
  have hw7 := W7.cv
  have lw7 := W7.lt
  have hx7 := X7.cv
  have lx7 := X7.lt
  go_wp2_with fail
  refine (unhide EQ _).mono ?_
  rintro e w8 ⟨rfl, hb8⟩
  have B8 := (B7.alloc B7.size _).trans (hb8.mono (Nat.le_trans B7.size (by simp)))
  have A8 := (A7.alloc _).below hb8
  have W8 := (W7.alloc _).below hb8
  have X8 := (X7.alloc _).below hb8
  have G8 := (HC.new w7 _ _).below hb8
  have i58 := (iwAlloc i57 _).below hb8
  clear ha7 la7 hw7 lw7 hx7 lx7 A7 W7 X7 B7 i57 hb8
  have B8d := B8.drew
  have i58d := i58.below (Below.refl _ _).drew
  have HX := hide X8.drew
  have ha8 := A8.cv
  have la8 := A8.lt
  have hx8 := X8.cv
  have lx8 := X8.lt
  go_wp2_with fail
  go_region_with (first | (go_at_call 6; refine (toHeader_w f bi ve d s t p ra n cap V _ hn2 ((unhide HR).below B8d)).mono ?_; rintro e w9 ⟨g9, rfl, i9, hb9⟩; have x9 : ∀ o, w9.cell? ⟨w5.heap.size, o, none⟩ = _ := ((unhide HX).below hb9).cv) | (go_at_call 8; refine (eqHeader_same f bi ve d s t p g5 0 n n g9 0 n V _ hn2 (i58d.below hb9).ir i9.ir).mono ?_; rintro e w10 ⟨rfl, hb10⟩))
  all_goals
    have T := (((Below.refl w8.heap.size w8).drew).trans hb9).trans (hb10.mono hb9.size)
    have B10 := B8.trans (T.mono B8.size)
    have A10 := A8.below T
    have W10 := W8.below T
    have X10 := X8.below T
    have G10 := G8.below T
    have i510 := i58.below T
    clear ha8 la8 hx8 lx8 A8 W8 X8 G8 i58 B8 B8d i58d HX i9 hb9 hb10 T x9
    have hx10 := X10.cv
    have lx10 := X10.lt
    go_wp2_with fail
    refine (markHd_w f bi ve d s t p _ g5 n n V _ hn2 i510 1 (by omega) (by omega)).mono ?_
    rintro e w13 ⟨rfl, j13, hz13, hk13, hb13⟩
    have s13 : w10.heap.size ≤ w13.heap.size := by omega
    have B13 := B10.trans (hb13.mono (by simp; omega))
    have A13 := A10.kept s13 (hk13 _ A10.lt (by omega))
    have W13 := W10.kept s13 (hk13 _ W10.lt (by omega))
    have G13 := G10.kept s13 (hk13 _ G10.lt (by omega))
    clear hx10 lx10 A10 W10 X10 G10 i510 B10 j13 hz13 hk13 hb13 s13
    have hw14 := W13.cv
    have lw14 := W13.lt
    have hg14 := G13.cv
    have lg14 := G13.lt
    have hk14 : ¬ (1 + (n : Int)) < 0 := by omega
    go_wp2_with fail
    refine (unhide EQ _).mono ?_
    rintro e w15 ⟨rfl, hb15⟩
    have B15 := B13.trans (hb15.mono B13.size)
    have A15 := A13.below hb15
    have W15 := W13.below hb15
    have G15 := G13.below hb15
    clear hw14 lw14 hg14 lg14 A13 W13 G13 B13 hb15
    have hg15 := G15.cv
    have lg15 := G15.lt
    go_wp2_with fail
    refine (unhide MK _).mono ?_
    rintro e w16 ⟨rfl, hb16⟩
    have B16 := B15.trans (hb16.mono B15.size)
    have A16 := A15.below hb16
    have W16 := W15.below hb16
    have G16 := G15.below hb16
    clear hg15 lg15 A15 W15 G15 B15 hb16
    have hg16 := G16.cv
    have lg16 := G16.lt
    go_wp2_with fail
    refine (unhide HD _).mono ?_
    rintro e w17 ⟨rfl, hb17⟩
    have B17 := B16.trans (hb17.mono B16.size)
    have A17 := A16.below hb17
    have W17 := W16.below hb17
    have G17 := G16.below hb17
    clear hg16 lg16 A16 W16 G16 B16 hb17
    have ha17 := A17.cv
    have la17 := A17.lt
    go_wp2_with fail
    refine (toHeader_w f bi ve d s t p ra n cap V _ hn2 ((unhide HR).below B17)).mono ?_
    rintro e w18 ⟨g18, rfl, i18, hb18⟩
    have B18 := B17.trans (hb18.mono B17.size)
    have T18 := hide ((unhide TZ).below B18)
    go_wp2_with fail
    refine (unhide HI _ g18 (unhide T18) i18.ir).mono ?_
    rintro e w20 ⟨rfl, hb20⟩
    have T := hb18.trans (hb20.mono hb18.size)
    have B20 := B17.trans (T.mono B17.size)
    have W20 := W17.below T
    have G20 := G17.below T
    clear ha17 la17 A17 W17 G17 B17 B18 i18 hb18 hb20 T T18
    have hw20 := W20.cv
    have lw20 := W20.lt
    go_wp2_with fail
    refine (unhide EQ _).mono ?_
    rintro e w21 ⟨rfl, hb21⟩
    have B21 := (B20.alloc B20.size _).trans (hb21.mono (Nat.le_trans B20.size (by simp)))
    have G21 := (G20.alloc _).below hb21
    clear hw20 lw20 W20 G20 B20 hb21
    have hg21 := G21.cv
    have lg21 := G21.lt
    go_wp2_with fail
    refine (unhide HD _).mono ?_
    rintro e w22 ⟨rfl, hb22⟩
    go_wp2
    go_ret
    exact ⟨rfl, B21.trans (hb22.mono B21.size)⟩

theorem walk_big (f bi ve : Int) (d s t p : ByteArray) (ra : Option Addr) (n cap : Nat) (tk sc : ByteArray) (w : World) (hd : d.size ≤ maxLen) (hs : s.size ≤ maxLen) (ht : t.size ≤ maxLen) (hp : p.size ≤ maxLen) (hn : n ≤ maxLen) (htk : tk.size ≤ 1048576) (hsc : sc.size ≤ 1048576)
    (hl : (1048576 : Int) < d.size + s.size + t.size + p.size + n) :
    Calls Tryd.prog 3 #[hv f bi ve d s t p ra n cap, .string tk, .string sc] w fun e w' => e = .returned (.bool true) ∧ Below w.heap.size w w' := by
  have HZ := hide (fun w => szHeader_any f bi ve d s t p ra n cap 1048576 w (by omega) (by omega) hd hs ht hp hn)
  unfold szH at HZ
  rw [if_pos hl] at HZ
  have z1 : ¬ (1048576 : Int) < tk.size := by omega
  have z2 : ¬ (1048576 : Int) < sc.size := by omega
  clear hd hs ht hp hn hl
  go_enter Tryd.func3, Tryd.ntmps3
  go_wp2_with fail
  refine (unhide HZ _).mono ?_
  rintro e w1 ⟨rfl, hb1⟩
  go_wp2
  go_ret
  exact ⟨rfl, ((Below.refl _ _).alloc (Nat.le_refl _) _).trans (hb1.mono (by simp))⟩

theorem walk (f bi ve : Int) (d s t p : ByteArray) (ra : Option Addr) (n cap : Nat) (V : Nat → Int) (tk sc : ByteArray) (w : World) (htz : Tz w) (hd : d.size ≤ maxLen) (hs : s.size ≤ maxLen) (ht : t.size ≤ maxLen) (hp : p.size ≤ maxLen) (hn : n ≤ maxLen) (h : Ia w ra n cap V) (ktk : tk.size ≤ maxLen) (ksc : sc.size ≤ maxLen) :
    Calls Tryd.prog 3 #[hv f bi ve d s t p ra n cap, .string tk, .string sc] w fun e w' => e = .returned (.bool true) ∧ Below w.heap.size w w' := by
  have jtk := ktk
  have jsc := ksc
  unfold maxLen at jtk jsc
  by_cases l0 : (1048576 : Int) < tk.size
  · go_enter Tryd.func3, Tryd.ntmps3
    go_wp2
    go_ret
    exact ⟨rfl, (Below.refl _ _).alloc (Nat.le_refl _) _⟩
  by_cases l1 : (1048576 : Int) < sc.size
  · go_enter Tryd.func3, Tryd.ntmps3
    go_wp2
    go_ret
    exact ⟨rfl, (Below.refl _ _).alloc (Nat.le_refl _) _⟩
  by_cases hl : (1048576 : Int) < d.size + s.size + t.size + p.size + n
  · exact walk_big f bi ve d s t p ra n cap tk sc w hd hs ht hp hn (by omega) (by omega) hl
  by_cases c : rpB (gh f bi ve d.size s.size t.size p.size n V) f tk.size sc.size
  · obtain ⟨c1, rfl, c3, c4⟩ := c
    obtain ⟨d2, s2, b0, b1, hg⟩ := of_decide_eq_true c1
    rw [gpB_0] at hg
    have hq := of_decide_eq_true hg
    have hy := of_decide_eq_true hq.2.1
    have v1 : 0 ≤ ve ∧ ve ≤ 4294967295 := ⟨by omega, hy.2⟩
    exact walk_small 0 bi ve d s t p ra n cap V tk sc 3 0 ve s sc ⟨#[]⟩ (RPP ve d s sc tk) true w htz hd hs ht hp hn h (by omega) (by omega) hl
      (fun W g hr => specRP_ok bi ve d s t p (some ⟨g, 0, none⟩) n n V tk sc W (Or.inr ⟨g, 0, rfl, hr⟩) d2 s2 (by omega) (by omega) (by omega) c1 v1.1 v1.2 c3 c4)
      (fun W g tz hr => implRP_ok bi ve d s t p (some ⟨g, 0, none⟩) n n V tk sc W tz (Or.inr ⟨g, 0, rfl, hr⟩) d2 s2 (by omega) (by omega) (by omega) c1 hq.2.1 v1 c3 c4)
  · exact walk_small f bi ve d s t p ra n cap V tk sc 0 0 0 ⟨#[]⟩ ⟨#[]⟩ ⟨#[]⟩ ⟨#[]⟩ false w htz hd hs ht hp hn h (by omega) (by omega) hl
      (fun W g hr => specRP_no f bi ve d s t p (some ⟨g, 0, none⟩) n n V tk sc W (Or.inr ⟨g, 0, rfl, hr⟩) (by omega) (by omega) (by omega) (by omega) (by omega) (by omega) (by omega) c)
      (fun W g _ hr => implRP_no f bi ve d s t p (some ⟨g, 0, none⟩) n n V tk sc W (Or.inr ⟨g, 0, rfl, hr⟩) (by omega) (by omega) (by omega) (by omega) (by omega) (by omega) (by omega) c)
end Go.Proofs.YtgfjkdkapafndaaDoor.fnExactRetryPacket
