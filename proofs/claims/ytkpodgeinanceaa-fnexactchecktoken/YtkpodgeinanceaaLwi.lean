/-
  Contracts: the model's block by round keys and a table.
-/
import Derived.Test.YtkpodgeinanceaaLke
import Derived.Test.YtkpodgeinanceaaLxo
import Derived.Test.YtkpodgeinanceaaGsm
import Derived.Test.YtkpodgeinanceaaAbf
namespace Go.Proofs.Ytkpodgeinanceaa
open Go.ChangeShapes Go.WideShapes Go.ChangeAt Go.RowKit
set_option linter.unusedVariables false
set_option maxRecDepth 100000

theorem Ob.ar {base : Nat} {w : World} {v : Value} {n : Nat} {f : Nat → Nat} (h : Ob base w v n f) (hn : 0 < n) : ∃ g cap, v = .slice (some ⟨g, 0, none⟩) n cap ∧ base ≤ g ∧ n ≤ cap ∧ Ar w g 0 n f := by
  have h0 : w.ownsRow base 5 1 v n (us n f) := h
  rcases h.2 with ⟨_, h1⟩ | ⟨g', cap', cur, rfl, hg', hgg, hnc, hcm, hcs, htk⟩
  · omega
  · refine ⟨g', cap', rfl, hg', hnc, ⟨fun i hi => ?_, fun i hi => ?_, ?_⟩⟩
    · rw [Nat.zero_add, h0.cellAt i (by omega)]
      simp [us_def, hi]
    · rw [Nat.zero_add]; exact h0.frozenAt i
    · exact (Array.getElem?_eq_some_iff.1 hgg).1
theorem sbs_at (f : Nat → Nat) (c r : Nat) (hc : c < 4) (hr : r < 4) : sbs f (4 * c + r) = sub (f (4 * ((c + r) % 4) + r)) := by
  unfold sbs pts
  congr 2
  omega
set_option maxRecDepth 100000 in
set_option maxHeartbeats 1000000 in
theorem specWith (kb ko kcap tb tcap : Nat) (key : Nat → Nat) (b : ByteArray) (hkey : ∀ i, key i < 256) (hb : b.size = 16) (hkc : 176 ≤ kcap) (w : World) (hK : Ar w kb ko 176 (ks key)) (hT : Ar w tb 0 256 sub) :
    Calls Try.prog 58 #[.slice (some ⟨kb, ko, none⟩) 176 kcap, .slice (some ⟨tb, 0, none⟩) 256 tcap, .string b] w fun e w' => e = .returned (.string (bq 16 (fw (rk key) (at8 b) 10))) ∧ Below w.heap.size w w' := by
  have HK := hide hK
  have HT := hide hT
  clear hK hT
  go_enter Try.func58, Try.ntmps58
  go_wp2_with fail
  obtain ⟨cap, W, hcv, hbW, hcW, hsz⟩ := conv_ar w b
  rw [hcv, hb]
  rw [hb] at hcW
  have A1 := hide hcW
  have K1 := hide ((unhide HK).below hbW (unhide HK).lt)
  have T1 := hide ((unhide HT).below hbW (unhide HT).lt)
  have B1 := hide hbW
  clear hcv hcW hbW hsz HK HT
  go_wp2_with fail
  refine (specXor w.heap.size 0 cap kb ko kcap (at8 b) (ks key) (at8_lt b) (ks_lt key hkey) _ (unhide A1) (by have := (unhide K1).part 0 16 (by omega); rw [Nat.add_zero] at this; exact this.congr (fun i hi => by rw [Nat.zero_add]))).mono ?_
  rintro e w2 ⟨g0, hg0, rfl, hA, b2⟩
  have A2 : Hid (Ar w2 g0 0 16 (fw (rk key) (at8 b) 0)) := hA.congr (fun i hi => by rw [ks_first key i hi]; rfl)
  have K2 := hide ((unhide K1).below b2 (unhide K1).lt)
  have T2 := hide ((unhide T1).below b2 (unhide T1).lt)
  have B2 := hide ((unhide B1).trans (b2.mono (unhide B1).size))
  clear hA b2 A1 K1 T1 B1
  have HFL := hide (fun n => fw_lt (rk key) (at8 b) (fun n i => rk_lt key hkey n i) (at8_lt b) n)
  have HMID := hide (fun m (h : m < 9) => fw_mid (rk key) (at8 b) m h)
  have HLAST := hide (fw_last (rk key) (at8 b))
  have HKS := hide (fun j r (h : r < 16) => ks_at key j r h)
  have hwk : w.heap.size ≤ w2.heap.size := (unhide B2).size
  have hkl : kb < w2.heap.size := (unhide K2).lt
  have htl : tb < w2.heap.size := (unhide T2).lt
  go_wp2_with fail
  go_loopw [7, 8] (fun sv rv wr => ∃ m g c : Nat, m ≤ 10 ∧ rv = .int .i64 ((m : Int) + 1) ∧ sv = .slice (some ⟨g, 0, none⟩) 16 c ∧ 16 ≤ c ∧ Ar wr g 0 16 (fw (rk key) (at8 b) m) ∧ Below w2.heap.size w2 wr) (fun _ rv _ => 20 - (intOf rv).toNat)
  case atStart => exact ⟨0, g0, 16, by omega, rfl, rfl, by omega, unhide A2, Below.refl _ _⟩
  case round =>
    obtain ⟨m, g, c, hm, rfl, rfl, hc16, hA, hB⟩ := hrel
    by_cases hlt : m < 10
    · have mk0 : (Instr.makeSlice 32 (.int .i64 16) (.int .i64 16)).run Try.prog wr = .ok (.slice (some ⟨wr.heap.size, 0, none⟩) 16 16) (wr.alloc (.cells (us 16 fun _ => 0).toArray 5)) := mk_bytes 16 (by omega) wr
      have al := (Below.refl wr.heap.size wr).alloc (Nat.le_refl _) (.cells (us 16 fun _ => 0).toArray 5)
      have hN := Ar.new wr 16 (fun _ => 0) 5
      have A3 := hide (hA.below al hA.lt)
      have N3 := hide hN
      have B3 := hide (hB.trans (al.mono hB.size))
      have hgl : g < wr.heap.size := hA.lt
      have hwr : w2.heap.size ≤ wr.heap.size := hB.size
      clear hA hB al hN A2
      go_wp2_with fail
      generalize decide ((m : Int) + 1 ≤ 10) = dm
      generalize wr.alloc (.cells (us 16 fun _ => 0).toArray 5) = W3 at *
      generalize wr.heap.size = gt at *
      clear mk0
      have hfl := unhide HFL m
      generalize hfm : fw (rk key) (at8 b) m = f at *
      have HFM := hide hfm
      have HFLf := hide hfl
      clear hfm hfl
      go_loopw [10] (fun cv wx => ∃ cc : Nat, cc ≤ 4 ∧ cv = .int .i64 cc ∧ Ar wx g 0 16 f ∧ Ar wx gt 0 16 (stp (sbs f) (fun _ => 0) (4 * cc)) ∧ Below w2.heap.size w2 wx) (fun cv _ => 4 - (intOf cv).toNat)
      case atStart => exact ⟨0, by omega, rfl, unhide A3, (unhide N3).stepNone, unhide B3⟩
      case round =>
        obtain ⟨cc, hcc, rfl, hA, hN, hB⟩ := hrel
        clear A3 N3 B3
        by_cases hltc : cc < 4
        · have A4 := hide hA
          have N4 := hide hN
          have B4 := hide hB
          clear hA hN hB
          go_wp2_with fail
          generalize decide ((cc : Int) < 4) = dc
          go_loopw [11] (fun rv wx => ∃ r : Nat, r ≤ 4 ∧ rv = .int .i64 r ∧ Ar wx g 0 16 f ∧ Ar wx gt 0 16 (stp (sbs f) (fun _ => 0) (4 * cc + r)) ∧ Below w2.heap.size w2 wx) (fun rv _ => 4 - (intOf rv).toNat)
          case atStart => exact ⟨0, by omega, rfl, unhide A4, unhide N4, unhide B4⟩
          case round =>
            obtain ⟨r, hr, rfl, hA, hN, hB⟩ := hrel
            clear A4 N4 B4
            by_cases hltr : r < 4
            · obtain ⟨q, hq⟩ : ∃ q : Nat, q = 4 * ((cc + r) % 4) + r := ⟨_, rfl⟩
              obtain ⟨p, hp⟩ : ∃ p : Nat, p = 4 * cc + r := ⟨_, rfl⟩
              have hq16 : q < 16 := by omega
              have hp16 : p < 16 := by omega
              have hqI : 4 * (((cc : Int) + (r : Int)) % 4) + (r : Int) = (q : Int) := by omega
              have hpI : 4 * (cc : Int) + (r : Int) = (p : Int) := by omega
              have hcs := hA.c0 q hq16
              have hfx := unhide HFLf q
              have hct := ((unhide T2).below hB htl).c0 (f q) hfx
              have hsub : sub (f q) = sbs f p := by rw [hp, sbs_at f cc r hltc hltr, ← hq]
              rw [hsub] at hct
              rw [← hp] at hN
              have hcn := hN.c0 p hp16
              have hfn := hN.f0 p hp16
              have A5 := hide (hA.other (a := ⟨gt, p, none⟩) (v := .int .u8 ((sbs f p : Nat) : Int)) (by show gt ≠ g; omega))
              have N5 := hide (hN.step hp16 (x := sbs f p) rfl)
              have B5 := hide (hB.setCell (p := ⟨gt, p, none⟩) (show w2.heap.size ≤ gt by omega) (.int .u8 ((sbs f p : Nat) : Int)))
              have HPQ := hide (And.intro hq hp)
              clear hA hN hB hq hp hsub
              generalize sbs f p = y at *
              generalize f q = x at *
              go_wp2
              exact ⟨⟨r + 1, by omega, by go_num, unhide A5, by obtain ⟨_, hp⟩ := unhide HPQ; rw [show 4 * cc + (r + 1) = p + 1 by omega]; exact unhide N5, unhide B5⟩, by simp [intOf]; omega⟩
            · obtain rfl : r = 4 := by omega
              have A5 := hide hA
              have N5 := hide hN
              have B5 := hide hB
              clear hA hN hB
              go_wp2
              exact ⟨⟨cc + 1, by omega, by go_num, unhide A5, by rw [show 4 * (cc + 1) = 4 * cc + 4 by omega]; exact unhide N5, unhide B5⟩, by simp [intOf]; omega⟩
        · obtain rfl : cc = 4 := by omega
          have N5 := hide hN.stepEnd
          have B5 := hide hB
          have hgl5 : gt < wr.heap.size := hN.lt
          clear hA hN hB
          have HSB := hide (sbs_lt f (unhide HFLf))
          by_cases h9 : m < 9
          · obtain ⟨i0, hi0, hz0, hz1, hz2⟩ := info_u8i
            have HMB := hide (fun k j (h : j < 4) => mxb_at (sbs f) k j h)
            have hB5w : w2.heap.size ≤ wr.heap.size := (unhide B5).size
            go_wp2_with fail
            generalize hB6 : wr.heap.size = B6 at *
            have hB6w : B6 ≤ wr.heap.size := by omega
            clear hB6
            generalize ((4 : Nat) : Int) = z4
            generalize decide ((m : Int) + 1 < 10) = d9
            go_loopw [12, 13] (fun mv cv wx => ∃ cc : Nat, cc ≤ 4 ∧ cv = .int .i64 cc ∧ Ob B6 wx mv (4 * cc) (mxb (sbs f)) ∧ Ar wx gt 0 16 (sbs f) ∧ Below w2.heap.size w2 wx ∧ B6 ≤ wx.heap.size) (fun _ cv _ => 4 - (intOf cv).toNat)
            case atStart => exact ⟨0, by omega, rfl, Ob.nil _ _ _, unhide N5, unhide B5, hB6w⟩
            case round =>
              obtain ⟨cc, hcc, rfl, hO, hN, hB, hBw⟩ := hrel
              clear N5 B5
              by_cases hltc : cc < 4
              · have al := (Below.refl wr.heap.size wr).alloc (Nat.le_refl _) (.cells #[.int .u8 2, .int .u8 3, .int .u8 1, .int .u8 1] 5)
                have hQ : Ar (wr.alloc (.cells #[.int .u8 2, .int .u8 3, .int .u8 1, .int .u8 1] 5)) wr.heap.size 0 4 (q4 2 3 1 1) := q4_new wr 2 3 1 1 5
                have hN1 := hN.below al hN.lt
                have hP : Ar (wr.alloc (.cells #[.int .u8 2, .int .u8 3, .int .u8 1, .int .u8 1] 5)) gt (4 * cc) 4 (fun j => sbs f (4 * cc + j)) := by
                  have h0 := hN1.part (4 * cc) 4 (by omega)
                  rw [Nat.zero_add] at h0
                  exact h0
                have HMX := hide (specMix gt (4 * cc) (16 - 4 * cc) wr.heap.size 0 4 (fun j => sbs f (4 * cc + j)) (q4 2 3 1 1) (fun j => unhide HSB _) (by intro i; unfold q4; split; omega; split; omega; split <;> omega) _ hP hQ)
                have O6 := hide (hO.kept al)
                have N6 := hide hN1
                have B6' := hide (hB.trans (al.mono hB.size))
                have hBw1 := Nat.le_trans hBw al.size
                clear al hQ hN1 hP hO hN hB
                go_wp2_with fail
                refine (unhide HMX).mono ?_
                rintro e w6 ⟨g6, hg6, rfl, hA6, b6⟩
                have hA7 : Ar w6 g6 0 4 (fun j => mxb (sbs f) (4 * cc + j)) := hA6.congr (fun j hj => by rw [mixg_eq _ (fun j => unhide HSB _) j hj, unhide HMB cc j hj])
                have O7 := hide ((unhide O6).kept b6)
                have N7 := hide ((unhide N6).below b6 (unhide N6).lt)
                have B7 := hide ((unhide B6').trans (b6.mono (unhide B6').size))
                have hBw7 := Nat.le_trans hBw1 b6.size
                have hnew : Hid (∀ j u, (us 4 (fun j => mxb (sbs f) (4 * cc + j)))[j]? = some u → w6.cell? ((⟨g6, 0, none⟩ : Addr).add j) = some u) := fun j u hu => by rw [Addr.add_mid]; exact hA7.range j u hu
                have hone := hide (us_oneL 4 (fun j => mxb (sbs f) (4 * cc + j)))
                clear hA6 hA7 b6 O6 N6 B6' HMX
                go_wp2_with (at_builtin; refine wpList_append_lies _ rfl _ _ 32 rfl B6 5 i0 (.int .u8 0) 1 1 Try.underlying32 hi0 hz0 hz1 hz2 rfl (by decide) _ _ _ rfl (unhide O7) ⟨g6, 0, none⟩ 4 4 (us 4 (fun j => mxb (sbs f) (4 * cc + j))) rfl ?c0 (unhide hnew) (unhide hone) (by omega) ?c3 ?c4 ?c5 w6.heap.size ?c6 ?_)
                case c0 => rw [us_length]
                case c3 => unfold maxLen; omega
                case c4 => omega
                case c5 => omega
                case c6 => rfl
                intro g8 cap8 w8 hown hgrow hat hlt8
                have O8 := hide (Ob.grow hown)
                have b8 := Ob.below (unhide O7) hgrow hBw7
                have N8 := hide ((unhide N7).below b8 hgl5)
                have B8 := hide ((unhide B7).trans (b8.mono hB5w))
                have hBw8 := Nat.le_trans hBw7 b8.size
                clear hown hgrow hat b8 O7 N7 B7 hnew hone
                go_wp2
                exact ⟨⟨cc + 1, by omega, by go_num, by rw [show 4 * (cc + 1) = 4 * cc + 4 by omega]; exact unhide O8, unhide N8, unhide B8, hBw8⟩, by simp [intOf]; omega⟩
              · obtain rfl : cc = 4 := by omega
                obtain ⟨g8, cap8, rfl, hg8, hle8, hA8⟩ := hO.ar (by omega)
                have A8 : Hid (Ar wr g8 0 16 (mxb (sbs f))) := hA8
                have B8 := hide hB
                have hcp : 16 ≤ cap8 := hle8
                clear hA8 hle8 hO hN hB
                have h16 : (4 * 4 : Nat) = 16 := rfl
                rw [h16]
                clear h16
                go_wp2_with fail
                refine (specXor g8 0 cap8 kb (ko + 16 * (m + 1)) (kcap - 16 * (m + 1)) (mxb (sbs f)) (fun i => rk key (m + 1) i) (mxb_lt _ (unhide HSB)) (fun i => rk_lt key hkey (m + 1) i) _ (unhide A8) ((((unhide K2).below (unhide B8) hkl).part (16 * (m + 1)) 16 (by omega)).congr (fun i hi => unhide HKS (m + 1) i hi))).mono ?_
                rintro e w9 ⟨g9, hg9, rfl, hA9, b9⟩
                have A9 : Hid (Ar w9 g9 0 16 (fw (rk key) (at8 b) (m + 1))) := by rw [unhide HMID m h9]; exact hA9.congr (fun i hi => by rw [unhide HFM]; rfl)
                have B9 := hide ((unhide B8).trans (b9.mono (unhide B8).size))
                clear hA9 b9
                go_wp2
                exact ⟨⟨m + 1, g9, 16, by omega, by go_num, rfl, by omega, unhide A9, unhide B9⟩, by simp [intOf]; omega⟩
          · obtain rfl : m = 9 := by omega
            go_wp2_with fail
            refine (specXor gt 0 16 kb (ko + 16 * (9 + 1)) (kcap - 16 * (9 + 1)) (sbs f) (fun i => rk key (9 + 1) i) (unhide HSB) (fun i => rk_lt key hkey (9 + 1) i) _ (unhide N5) ((((unhide K2).below (unhide B5) hkl).part (16 * (9 + 1)) 16 (by omega)).congr (fun i hi => unhide HKS (9 + 1) i hi))).mono ?_
            rintro e w7 ⟨g7, hg7, rfl, hA7, b7⟩
            have A7 : Hid (Ar w7 g7 0 16 (fw (rk key) (at8 b) (9 + 1))) := by rw [unhide HLAST]; exact hA7.congr (fun i hi => by rw [unhide HFM]; rfl)
            have B7 := hide ((unhide B5).trans (b7.mono (unhide B5).size))
            clear hA7 b7
            go_wp2
            exact ⟨⟨9 + 1, g7, 16, by omega, by go_num, rfl, by omega, unhide A7, unhide B7⟩, by simp [intOf]⟩
    · obtain rfl : m = 10 := by omega
      have hst := ar_string hA (fun i _ => unhide HFL 10 i) c
      have B9 := hide ((unhide B2).trans (hB.mono hwk))
      clear hA hB A2
      go_wp2
      go_ret
      exact ⟨rfl, unhide B9⟩
end Go.Proofs.Ytkpodgeinanceaa
