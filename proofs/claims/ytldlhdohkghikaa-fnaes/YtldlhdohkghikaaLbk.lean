/-
  Contracts: the model's blocks back.
-/
import Derived.Test.YtldlhdohkghikaaLwi
import Derived.Test.YtldlhdohkghikaaGm3
import Derived.Test.YtldlhdohkghikaaAbc
namespace Go.Proofs.Ytldlhdohkghikaa
open Go.ChangeShapes Go.WideShapes Go.ChangeAt Go.RowKit
set_option linter.unusedVariables false

theorem mixc_congr (F G : Nat → Nat) (h : ∀ i, i < 4 → F i = G i) (i : Nat) (hi : i < 4) : mixc F i = mixc G i := by
  unfold mixc
  rw [h i hi, h ((i + 1) % 4) (by omega), h ((i + 2) % 4) (by omega), h ((i + 3) % 4) (by omega)]
theorem mx3_at (f : Nat → Nat) (k j : Nat) (h : j < 4) : mx3 f (4 * k + j) = mixc (mixc (mixc (fun j => f (4 * k + j)))) j := by
  unfold mx3
  rw [mxb_at _ k j h]
  refine mixc_congr _ _ (fun i hi => ?_) j h
  rw [mxb_at _ k i hi]
  refine mixc_congr _ _ (fun i hi => ?_) i hi
  rw [mxb_at _ k i hi]
/-- t, as far as k bytes of s have been put into it -/
def bst (f : Nat → Nat) (k i : Nat) : Nat := if (i + 4 * (i % 4) * 3) % 16 < k then ubs f i else 0
theorem bst_zero (f : Nat → Nat) (i : Nat) : bst f 0 i = 0 := by unfold bst; rw [if_neg (by omega)]
theorem bst_end (f : Nat → Nat) (i : Nat) : bst f 16 i = ubs f i := by unfold bst; rw [if_pos (Nat.mod_lt _ (by omega))]
theorem bst_at (f : Nat → Nat) (c r : Nat) (hc : c < 4) (hr : r < 4) : bst f (4 * c + r + 1) (4 * ((c + r) % 4) + r) = back (f (4 * c + r)) := by
  unfold bst ubs sh3
  have h : (4 * ((c + r) % 4) + r + 4 * ((4 * ((c + r) % 4) + r) % 4) * 3) % 16 = 4 * c + r := by omega
  rw [h, if_pos (by omega)]
theorem bst_other (f : Nat → Nat) (c r i : Nat) (hc : c < 4) (hr : r < 4) (hi : i < 16) (hne : i ≠ 4 * ((c + r) % 4) + r) : bst f (4 * c + r + 1) i = bst f (4 * c + r) i := by
  unfold bst
  have h : (i + 4 * (i % 4) * 3) % 16 ≠ 4 * c + r := by omega
  by_cases e : (i + 4 * (i % 4) * 3) % 16 < 4 * c + r
  · rw [if_pos e, if_pos (by omega)]
  · rw [if_neg e, if_neg (by omega)]
set_option maxRecDepth 100000 in
set_option maxHeartbeats 2000000 in
theorem specBack (k b : ByteArray) (hk : k.size = 16) (hb : b.size = 16) (w : World) :
    Calls Try.prog 30 #[.string k, .string b] w fun e w' => e = .returned (.string (bq 16 (xrs (bw (rk (at8 k)) (at8 b) 10) (rk (at8 k) 0)))) ∧ Below w.heap.size w w' := by
  have H1 := hide (fun W => specKeys k hk W)
  have HBL := hide (fun n => bw_lt (rk (at8 k)) (at8 b) (fun n i => rk_lt (at8 k) (at8_lt k) n i) (at8_lt b) n)
  have HKL := hide (fun n i => rk_lt (at8 k) (at8_lt k) n i)
  have HKS := hide (fun j r (h : r < 16) => ks_at (at8 k) j r h)
  have HK0 := hide (fun r (h : r < 16) => ks_first (at8 k) r h)
  go_enter Try.func30, Try.ntmps30
  go_wp2_with fail
  refine (unhide H1 _).mono ?_
  rintro e w1 ⟨v, rfl, hsp, b1⟩
  obtain ⟨kb, ko, kcap, rfl, hgk, hsg⟩ := hsp
  have K1 := hide hsg.ar
  have hkc := hsg.le
  have B1 := hide b1
  clear hsg b1 H1
  go_wp2_with fail
  obtain ⟨cap, w2, hcv, hbW, hcW, hsz⟩ := conv_ar w1 b
  rw [hcv, hb]
  rw [hb] at hcW
  have A2 : Hid (Ar w2 w1.heap.size 0 16 (bw (rk (at8 k)) (at8 b) 0)) := hcW
  have K2 := hide ((unhide K1).below hbW (unhide K1).lt)
  have B2 := hide ((unhide B1).trans (hbW.mono (unhide B1).size))
  clear hcv hcW hbW hsz K1 B1
  have hwk : w.heap.size ≤ w2.heap.size := (unhide B2).size
  have hkl : kb < w2.heap.size := (unhide K2).lt
  go_wp2_with fail
  go_loopw [6, 7] (fun sv rv wr => ∃ m n g c : Nat, m + n = 10 ∧ rv = .int .i64 (n : Int) ∧ sv = .slice (some ⟨g, 0, none⟩) 16 c ∧ Ar wr g 0 16 (bw (rk (at8 k)) (at8 b) m) ∧ Below w2.heap.size w2 wr) (fun _ rv _ => (intOf rv).toNat)
  case atStart => exact ⟨0, 10, w1.heap.size, cap, by omega, rfl, rfl, unhide A2, Below.refl _ _⟩
  case round =>
    obtain ⟨m, n, g, c, hmn, rfl, rfl, hA, hB⟩ := hrel
    clear A2
    by_cases hlt : 0 < n
    · have hX := hide (specXor g 0 c kb (ko + 16 * n) (kcap - 16 * n) (bw (rk (at8 k)) (at8 b) m) (fun i => rk (at8 k) n i) (unhide HBL m) (fun i => unhide HKL n i) wr hA ((((unhide K2).below hB hkl).part (16 * n) 16 (by omega)).congr (fun i hi => unhide HKS n i hi)))
      have B3 := hide hB
      clear hA hB
      go_wp2_with fail
      refine (unhide hX).mono ?_
      rintro e w3 ⟨g3, hg3, rfl, hA3, b3⟩
      have A3 : Hid (Ar w3 g3 0 16 (xrs (bw (rk (at8 k)) (at8 b) m) (rk (at8 k) n))) := hA3
      have HFF : Hid (∀ i, xrs (bw (rk (at8 k)) (at8 b) m) (rk (at8 k) n) i < 256) := xrs_lt _ _ (unhide HBL m) (fun i => unhide HKL n i)
      have B4 := hide ((unhide B3).trans (b3.mono (unhide B3).size))
      have hw3 : w2.heap.size ≤ w3.heap.size := (unhide B4).size
      clear hA3 b3 B3 hX
      by_cases h9 : m = 0
      · have HNX : Hid (bw (rk (at8 k)) (at8 b) (m + 1) = ubs (xrs (bw (rk (at8 k)) (at8 b) m) (rk (at8 k) n))) := by
          subst h9
          obtain rfl : n = 10 := by omega
          exact bw_first _ _
        have n10 : ¬ (n : Int) < 10 := by omega
        generalize xrs (bw (rk (at8 k)) (at8 b) m) (rk (at8 k) n) = F at *
        have mk0 : (Instr.makeSlice 22 (.int .i64 16) (.int .i64 16)).run Try.prog w3 = .ok (.slice (some ⟨w3.heap.size, 0, none⟩) 16 16) (w3.alloc (.cells (us 16 fun _ => 0).toArray 5)) := mk_bytes 16 (by omega) w3
        have al := (Below.refl w3.heap.size w3).alloc (Nat.le_refl _) (.cells (us 16 fun _ => 0).toArray 5)
        have hN := Ar.new w3 16 (fun _ => 0) 5
        have A5 := hide ((unhide A3).below al (unhide A3).lt)
        have N5 : Hid (Ar (w3.alloc (.cells (us 16 fun _ => 0).toArray 5)) w3.heap.size 0 16 (bst F 0)) := hN.congr (fun i _ => (bst_zero F i).symm)
        have B5 := hide ((unhide B4).trans (al.mono (unhide B4).size))
        have hgl : g3 < w3.heap.size := (unhide A3).lt
        have hwr : w2.heap.size ≤ w3.heap.size := (unhide B4).size
        clear al hN A3 B4
        go_wp2_with fail
        generalize decide ((n : Int) < 10) = d9
        generalize w3.alloc (.cells (us 16 fun _ => 0).toArray 5) = W3 at *
        generalize w3.heap.size = gt at *
        clear mk0
        go_loopw [11] (fun cv wx => ∃ cc : Nat, cc ≤ 4 ∧ cv = .int .i64 cc ∧ Ar wx g3 0 16 F ∧ Ar wx gt 0 16 (bst F (4 * cc)) ∧ Below w2.heap.size w2 wx) (fun cv _ => 4 - (intOf cv).toNat)
        case atStart => exact ⟨0, by omega, rfl, unhide A5, unhide N5, unhide B5⟩
        case round =>
          obtain ⟨cc, hcc, rfl, hA, hN, hB⟩ := hrel
          clear A5 N5 B5
          by_cases hltc : cc < 4
          · have A5 := hide hA
            have N5 := hide hN
            have B5 := hide hB
            clear hA hN hB
            go_wp2_with fail
            generalize decide ((cc : Int) < 4) = dc
            go_loopw [12] (fun rv wx => ∃ r : Nat, r ≤ 4 ∧ rv = .int .i64 r ∧ Ar wx g3 0 16 F ∧ Ar wx gt 0 16 (bst F (4 * cc + r)) ∧ Below w2.heap.size w2 wx) (fun rv _ => 4 - (intOf rv).toNat)
            case atStart => exact ⟨0, by omega, rfl, unhide A5, unhide N5, unhide B5⟩
            case round =>
              obtain ⟨r, hr, rfl, hA, hN, hB⟩ := hrel
              clear A5 N5 B5
              by_cases hltr : r < 4
              · obtain ⟨q, hq⟩ : ∃ q : Nat, q = 4 * cc + r := ⟨_, rfl⟩
                obtain ⟨p, hp⟩ : ∃ p : Nat, p = 4 * ((cc + r) % 4) + r := ⟨_, rfl⟩
                have hq16 : q < 16 := by omega
                have hp16 : p < 16 := by omega
                have hpI : 4 * (((cc : Int) + (r : Int)) % 4) + (r : Int) = (p : Int) := by omega
                have hqI : 4 * (cc : Int) + (r : Int) = (q : Int) := by omega
                have hat := bst_at F cc r hltc hltr
                have hot := fun i hi hne => bst_other F cc r i hltc hltr hi hne
                rw [← hq] at hN
                rw [← hq, ← hp] at hat
                rw [← hq, ← hp] at hot
                have hcs := hA.c0 q hq16
                have hU := hide (fun W => specUns (F q) (unhide HFF q) W)
                have hcn := hN.c0 p hp16
                have hfn := hN.f0 p hp16
                have A7 := hide (hA.other (a := ⟨gt, p, none⟩) (v := .int .u8 ((back (F q) : Nat) : Int)) (by show gt ≠ g3; omega))
                have N7 := hide (hN.put0 hp16 (g := bst F (q + 1)) (x := back (F q)) hat hot)
                have B7 := hide (hB.setCell (p := ⟨gt, p, none⟩) (show w2.heap.size ≤ gt by omega) (.int .u8 ((back (F q) : Nat) : Int)))
                have HPQ := hide hq
                clear hA hN hB hq hp hat hot
                generalize back (F q) = y at *
                generalize F q = x at *
                generalize bst F q p = o at *
                go_wp2_with (go_at_call 50; with_reducible refine (unhide hU _).mono ?_; rintro e w9 ⟨rfl, rfl⟩)
                exact ⟨⟨r + 1, by omega, by go_num, unhide A7, by rw [show 4 * cc + (r + 1) = q + 1 by have := unhide HPQ; omega]; exact unhide N7, unhide B7⟩, by simp [intOf]; omega⟩
              · obtain rfl : r = 4 := by omega
                have A7 := hide hA
                have N7 := hide hN
                have B7 := hide hB
                clear hA hN hB
                go_wp2
                exact ⟨⟨cc + 1, by omega, by go_num, unhide A7, by rw [show 4 * (cc + 1) = 4 * cc + 4 by omega]; exact unhide N7, unhide B7⟩, by simp [intOf]; omega⟩
          · obtain rfl : cc = 4 := by omega
            have A9 : Hid (Ar wr gt 0 16 (bw (rk (at8 k)) (at8 b) (m + 1))) := by rw [unhide HNX]; exact hN.congr (fun i _ => bst_end F i)
            have B9 := hide hB
            clear hA hN hB
            go_wp2
            exact ⟨⟨m + 1, n - 1, gt, 16, by omega, by go_num, rfl, unhide A9, unhide B9⟩, by simp [intOf]; omega⟩
      · have HNX := hide (bw_next (rk (at8 k)) (at8 b) m n hmn (by omega))
        have n10 : (n : Int) < 10 := by omega
        generalize xrs (bw (rk (at8 k)) (at8 b) m) (rk (at8 k) n) = f at *
        have HFM := hide (mx3_lt f (unhide HFF))
        have HMB := hide (fun k j (h : j < 4) => mx3_at f k j h)
        obtain ⟨i0, hi0, hz0, hz1, hz2⟩ := info_u8i
        go_wp2_with fail
        have hgl3 : g3 < w3.heap.size := (unhide A3).lt
        generalize hB6 : w3.heap.size = B6 at *
        have hB6w : B6 ≤ w3.heap.size := by omega
        clear hB6
        generalize decide ((n : Int) < 10) = d10
        go_loopw [8, 9] (fun mv cv wx => ∃ cc : Nat, cc ≤ 4 ∧ cv = .int .i64 cc ∧ Ob B6 wx mv (4 * cc) (mx3 f) ∧ Ar wx g3 0 16 f ∧ Below w2.heap.size w2 wx ∧ B6 ≤ wx.heap.size) (fun _ cv _ => 4 - (intOf cv).toNat)
        case atStart => exact ⟨0, by omega, rfl, Ob.nil _ _ _, unhide A3, unhide B4, hB6w⟩
        case round =>
          obtain ⟨cc, hcc, rfl, hO, hN, hB, hBw⟩ := hrel
          clear A3 B4
          by_cases hltc : cc < 4
          · have al := (Below.refl wr.heap.size wr).alloc (Nat.le_refl _) (.cells #[.int .u8 14, .int .u8 11, .int .u8 13, .int .u8 9] 5)
            have hQ : Ar (wr.alloc (.cells #[.int .u8 14, .int .u8 11, .int .u8 13, .int .u8 9] 5)) wr.heap.size 0 4 (q4 14 11 13 9) := q4_new wr 14 11 13 9 5
            have hN1 := hN.below al hN.lt
            have hP : Ar (wr.alloc (.cells #[.int .u8 14, .int .u8 11, .int .u8 13, .int .u8 9] 5)) g3 (4 * cc) 4 (fun j => f (4 * cc + j)) := by
              have h0 := hN1.part (4 * cc) 4 (by omega)
              rw [Nat.zero_add] at h0
              exact h0
            have HMX := hide (specMix g3 (4 * cc) (16 - 4 * cc) wr.heap.size 0 4 (fun j => f (4 * cc + j)) (q4 14 11 13 9) (fun j => unhide HFF _) (by intro i; unfold q4; split; omega; split; omega; split <;> omega) _ hP hQ)
            have O6 := hide (hO.kept al)
            have N6 := hide hN1
            have B6' := hide (hB.trans (al.mono hB.size))
            have hBw1 := Nat.le_trans hBw al.size
            clear al hQ hN1 hP hO hN hB
            go_wp2_with fail
            refine (unhide HMX).mono ?_
            rintro e w6 ⟨g6, hg6, rfl, hA6, b6⟩
            have hA7 : Ar w6 g6 0 4 (fun j => mx3 f (4 * cc + j)) := hA6.congr (fun j hj => by rw [mixg3_eq _ (fun j => unhide HFF _) j hj, unhide HMB cc j hj])
            have O7 := hide ((unhide O6).kept b6)
            have N7 := hide ((unhide N6).below b6 (unhide N6).lt)
            have B7 := hide ((unhide B6').trans (b6.mono (unhide B6').size))
            have hBw7 := Nat.le_trans hBw1 b6.size
            have hnew : Hid (∀ j u, (us 4 (fun j => mx3 f (4 * cc + j)))[j]? = some u → w6.cell? ((⟨g6, 0, none⟩ : Addr).add j) = some u) := fun j u hu => by rw [Addr.add_mid]; exact hA7.range j u hu
            have hone := hide (us_oneL 4 (fun j => mx3 f (4 * cc + j)))
            clear hA6 hA7 b6 O6 N6 B6' HMX
            go_wp2_with (at_builtin; refine wpList_append_lies _ rfl _ _ 22 rfl B6 5 i0 (.int .u8 0) 1 1 Try.underlying22 hi0 hz0 hz1 hz2 rfl (by decide) _ _ _ rfl (unhide O7) ⟨g6, 0, none⟩ 4 4 (us 4 (fun j => mx3 f (4 * cc + j))) rfl ?c0 (unhide hnew) (unhide hone) (by omega) ?c3 ?c4 ?c5 w6.heap.size ?c6 ?_)
            case c0 => rw [us_length]
            case c3 => unfold maxLen; omega
            case c4 => omega
            case c5 => omega
            case c6 => rfl
            intro g8 cap8 w8 hown hgrow hat hlt8
            have O8 := hide (Ob.grow hown)
            have b8 := Ob.below (unhide O7) hgrow hBw7
            have N8 := hide ((unhide N7).below b8 hgl3)
            have B8 := hide ((unhide B7).trans (b8.mono hw3))
            have hBw8 := Nat.le_trans hBw7 b8.size
            clear hown hgrow hat b8 O7 N7 B7 hnew hone
            go_wp2
            exact ⟨⟨cc + 1, by omega, by go_num, by rw [show 4 * (cc + 1) = 4 * cc + 4 by omega]; exact unhide O8, unhide N8, unhide B8, hBw8⟩, by simp [intOf]; omega⟩
          · obtain rfl : cc = 4 := by omega
            obtain ⟨g8, cap8, rfl, hg8, hle8, hA8⟩ := hO.ar (by omega)
            have A3 : Hid (Ar wr g8 0 16 (mx3 f)) := hA8
            have B4 := hide hB
            have hcp : 16 ≤ cap8 := hle8
            have HFF := HFM
            have hw3' : w2.heap.size ≤ wr.heap.size := hB.size
            clear hA8 hle8 hO hN hB
            have h16 : (4 * 4 : Nat) = 16 := rfl
            rw [h16]
            clear h16
            generalize mx3 f = F at *
            have mk0 : (Instr.makeSlice 22 (.int .i64 16) (.int .i64 16)).run Try.prog wr = .ok (.slice (some ⟨wr.heap.size, 0, none⟩) 16 16) (wr.alloc (.cells (us 16 fun _ => 0).toArray 5)) := mk_bytes 16 (by omega) wr
            have al := (Below.refl wr.heap.size wr).alloc (Nat.le_refl _) (.cells (us 16 fun _ => 0).toArray 5)
            have hN := Ar.new wr 16 (fun _ => 0) 5
            have A5 := hide ((unhide A3).below al (unhide A3).lt)
            have N5 : Hid (Ar (wr.alloc (.cells (us 16 fun _ => 0).toArray 5)) wr.heap.size 0 16 (bst F 0)) := hN.congr (fun i _ => (bst_zero F i).symm)
            have B5 := hide ((unhide B4).trans (al.mono (unhide B4).size))
            have hgl : g8 < wr.heap.size := (unhide A3).lt
            have hwr : w2.heap.size ≤ wr.heap.size := (unhide B4).size
            clear al hN A3 B4
            go_wp2_with fail
            generalize ((4 : Nat) : Int) = z4
            generalize wr.alloc (.cells (us 16 fun _ => 0).toArray 5) = W3 at *
            generalize wr.heap.size = gt at *
            clear mk0
            go_loopw [11] (fun cv wx => ∃ cc : Nat, cc ≤ 4 ∧ cv = .int .i64 cc ∧ Ar wx g8 0 16 F ∧ Ar wx gt 0 16 (bst F (4 * cc)) ∧ Below w2.heap.size w2 wx) (fun cv _ => 4 - (intOf cv).toNat)
            case atStart => exact ⟨0, by omega, rfl, unhide A5, unhide N5, unhide B5⟩
            case round =>
              obtain ⟨cc, hcc, rfl, hA, hN, hB⟩ := hrel
              clear A5 N5 B5
              by_cases hltc : cc < 4
              · have A5 := hide hA
                have N5 := hide hN
                have B5 := hide hB
                clear hA hN hB
                go_wp2_with fail
                generalize decide ((cc : Int) < 4) = dc
                go_loopw [12] (fun rv wx => ∃ r : Nat, r ≤ 4 ∧ rv = .int .i64 r ∧ Ar wx g8 0 16 F ∧ Ar wx gt 0 16 (bst F (4 * cc + r)) ∧ Below w2.heap.size w2 wx) (fun rv _ => 4 - (intOf rv).toNat)
                case atStart => exact ⟨0, by omega, rfl, unhide A5, unhide N5, unhide B5⟩
                case round =>
                  obtain ⟨r, hr, rfl, hA, hN, hB⟩ := hrel
                  clear A5 N5 B5
                  by_cases hltr : r < 4
                  · obtain ⟨q, hq⟩ : ∃ q : Nat, q = 4 * cc + r := ⟨_, rfl⟩
                    obtain ⟨p, hp⟩ : ∃ p : Nat, p = 4 * ((cc + r) % 4) + r := ⟨_, rfl⟩
                    have hq16 : q < 16 := by omega
                    have hp16 : p < 16 := by omega
                    have hpI : 4 * (((cc : Int) + (r : Int)) % 4) + (r : Int) = (p : Int) := by omega
                    have hqI : 4 * (cc : Int) + (r : Int) = (q : Int) := by omega
                    have hat := bst_at F cc r hltc hltr
                    have hot := fun i hi hne => bst_other F cc r i hltc hltr hi hne
                    rw [← hq] at hN
                    rw [← hq, ← hp] at hat
                    rw [← hq, ← hp] at hot
                    have hcs := hA.c0 q hq16
                    have hU := hide (fun W => specUns (F q) (unhide HFF q) W)
                    have hcn := hN.c0 p hp16
                    have hfn := hN.f0 p hp16
                    have A7 := hide (hA.other (a := ⟨gt, p, none⟩) (v := .int .u8 ((back (F q) : Nat) : Int)) (by show gt ≠ g8; omega))
                    have N7 := hide (hN.put0 hp16 (g := bst F (q + 1)) (x := back (F q)) hat hot)
                    have B7 := hide (hB.setCell (p := ⟨gt, p, none⟩) (show w2.heap.size ≤ gt by omega) (.int .u8 ((back (F q) : Nat) : Int)))
                    have HPQ := hide hq
                    clear hA hN hB hq hp hat hot
                    generalize back (F q) = y at *
                    generalize F q = x at *
                    generalize bst F q p = o at *
                    go_wp2_with (go_at_call 50; with_reducible refine (unhide hU _).mono ?_; rintro e w9 ⟨rfl, rfl⟩)
                    exact ⟨⟨r + 1, by omega, by go_num, unhide A7, by rw [show 4 * cc + (r + 1) = q + 1 by have := unhide HPQ; omega]; exact unhide N7, unhide B7⟩, by simp [intOf]; omega⟩
                  · obtain rfl : r = 4 := by omega
                    have A7 := hide hA
                    have N7 := hide hN
                    have B7 := hide hB
                    clear hA hN hB
                    go_wp2
                    exact ⟨⟨cc + 1, by omega, by go_num, unhide A7, by rw [show 4 * (cc + 1) = 4 * cc + 4 by omega]; exact unhide N7, unhide B7⟩, by simp [intOf]; omega⟩
              · obtain rfl : cc = 4 := by omega
                have A9 : Hid (Ar wr gt 0 16 (bw (rk (at8 k)) (at8 b) (m + 1))) := by rw [unhide HNX]; exact hN.congr (fun i _ => bst_end F i)
                have B9 := hide hB
                clear hA hN hB
                go_wp2
                exact ⟨⟨m + 1, n - 1, gt, 16, by omega, by go_num, rfl, unhide A9, unhide B9⟩, by simp [intOf]; omega⟩
    · obtain rfl : n = 0 := by omega
      obtain rfl : m = 10 := by omega
      have hX := hide (specXor g 0 c kb ko kcap (bw (rk (at8 k)) (at8 b) 10) (fun i => rk (at8 k) 0 i) (unhide HBL 10) (fun i => unhide HKL 0 i) wr hA ((by have h9 := (((unhide K2).below hB hkl).part 0 16 (by omega)); rw [Nat.add_zero] at h9; exact h9.congr (fun i hi => by rw [Nat.zero_add, unhide HK0 i hi]; rfl))))
      have B3 := hide hB
      clear hA hB
      go_wp2_with fail
      refine (unhide hX).mono ?_
      rintro e w3 ⟨g3, hg3, rfl, hA3, b3⟩
      have hA4 : Ar w3 g3 0 16 (xrs (bw (rk (at8 k)) (at8 b) 10) (rk (at8 k) 0)) := hA3
      have hst := ar_string hA4 (fun i _ => xrs_lt _ _ (unhide HBL 10) (fun i => unhide HKL 0 i) i) 16
      have B9 := hide ((unhide B2).trans (((unhide B3).trans (b3.mono (unhide B3).size)).mono hwk))
      clear hA3 hA4 b3 B3 hX
      go_wp2
      go_ret
      exact ⟨rfl, unhide B9⟩
/-- a block back by a key -/
def baW (k b : ByteArray) : ByteArray := bq 16 (xrs (bw (rk (at8 k)) (at8 b) 10) (rk (at8 k) 0))
theorem specBA_ok (k b : ByteArray) (h : k.size = 16 ∧ b.size = 16) (w : World) :
    Calls Try.prog 18 #[.string k, .string b] w fun e w' => e = .returned (.tuple #[.string (baW k b), .bool true]) ∧ Below w.heap.size w w' := by
  obtain ⟨hk, hb⟩ := h
  have H1 : Hid (∀ W, Calls Try.prog 30 #[.string k, .string b] W fun e w' => e = .returned (.string (baW k b)) ∧ Below W.heap.size W w') := fun W => specBack k b hk hb W
  go_enter Try.func18, Try.ntmps18
  go_wp2_with fail
  refine (unhide H1 _).mono ?_
  rintro e w1 ⟨rfl, b1⟩
  have B1 := hide b1
  clear b1
  go_wp2
  go_ret2
  exact ⟨rfl, unhide B1⟩
theorem specBA_no (k b : ByteArray) (h : ¬ (k.size = 16 ∧ b.size = 16)) (hl : k.size ≤ 1048576) (hl2 : b.size ≤ 1048576) (w : World) :
    Calls Try.prog 18 #[.string k, .string b] w fun e w' => e = .returned (.tuple #[.string ⟨#[]⟩, .bool false]) ∧ Below w.heap.size w w' := by
  by_cases hk : k.size = 16
  · have h1 : ((b.size : Int) != 16) = true := by simp; omega
    go_enter Try.func18, Try.ntmps18
    go_wp2
    go_ret2
    exact ⟨rfl, Below.refl _ _⟩
  · have h1 : ((k.size : Int) != 16) = true := by simp; omega
    go_enter Try.func18, Try.ntmps18
    go_wp2
    go_ret2
    exact ⟨rfl, Below.refl _ _⟩
theorem implBA_ok (k b : ByteArray) (h : k.size = 16 ∧ b.size = 16) (w : World) :
    Calls Try.prog 11 #[.string k, .string b] w fun e w' => e = .returned (.tuple #[.string (baW k b), .bool true]) ∧ Below w.heap.size w w' := implBB_ok k b h.1 h.2 w
theorem implBA_no (k b : ByteArray) (h : ¬ (k.size = 16 ∧ b.size = 16)) (hl : k.size ≤ 1048576) (hl2 : b.size ≤ 1048576) (w : World) :
    Calls Try.prog 11 #[.string k, .string b] w fun e w' => e = .returned (.tuple #[.string ⟨#[]⟩, .bool false]) ∧ Below w.heap.size w w' := by
  by_cases hk : k.size = 16
  · exact implBB_block k b hk (fun x => h ⟨hk, x⟩) hl2 w
  · exact implBB_key k b hk hl hl2 w
end Go.Proofs.Ytldlhdohkghikaa
