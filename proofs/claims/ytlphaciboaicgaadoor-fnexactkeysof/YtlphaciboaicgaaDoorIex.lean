/-
  Contracts: what is derived, the program's.
-/
import Derived.Test.YtlphaciboaicgaaDoorIhm
import Derived.Test.YtlphaciboaicgaaDoorDvw
import Derived.Lib.AppendStr
namespace Go.Proofs.YtlphaciboaicgaaDoor
open Go.ChangeShapes Go.WideShapes Go.ChangeAt Go.RowKit
set_option linter.unusedVariables false

theorem Ob.opens {base : Nat} {w : World} {v : Value} {n : Nat} {f : Nat → Nat} (h : Ob base w v n f) : ∃ a cap, v = .slice a n cap := by
  rcases h.2 with ⟨rfl, h0⟩ | ⟨g, cap, cur, rfl, _⟩
  · subst h0
    exact ⟨none, 0, rfl⟩
  · exact ⟨_, _, rfl⟩
theorem str_us (s : ByteArray) : Go.Lib.strCells s = us s.size (at8 s) := by
  rw [← us_at8]
  rfl
theorem b1_string (w : World) (x : Nat) (hx : x < 256) : (convert 46 9 (.slice (some ⟨w.heap.size, 0, none⟩) 1 1)).run Tryd.prog (w.alloc (.cells #[.int .u8 (x : Int)] 5)) = .ok (.string (b1W x)) (w.alloc (.cells #[.int .u8 (x : Int)] 5)) := by
  have h := Ar.new w 1 (fun _ => x) 5
  have e : (us 1 (fun _ => x)).toArray = #[.int .u8 (x : Int)] := by rw [us_def]; rfl
  rw [e] at h
  have h2 := ar_string h (fun _ _ => hx) 1
  rw [show b1W x = bq 1 (fun _ => x) from bq_congr fun _ _ => Nat.mod_eq_of_lt hx]
  exact h2
set_option maxRecDepth 100000 in
set_option maxHeartbeats 1000000 in
theorem implDerived (secret info : ByteArray) (n : Nat) (hs : secret.size ≤ 5000) (hi : info.size ≤ 1000) (hn : n ≤ 255) (w : World) (hT : Rt w) :
    Calls Tryd.prog 22 #[.string secret, .string info, .int .i64 n] w fun e w' => e = .returned (.string (bq n (dvW secret info))) ∧ Below w.heap.size w w' := by
  have HT := hide hT
  clear hT
  have HK := hide (fun W (h9 : Rt W) => implKey secret (by omega) W h9)
  have HD := hide (fun t (ht : t.size ≤ 10000) W (h9 : Rt W) => implKeyed (bhW HW (kyW (k64 secret) 54)) (bhW HW (kyW (k64 secret) 92)) t (bhW_lt _ _) (bhW_lt _ _) ht W h9)
  have HE : Hid (∀ t, enW (bhW HW (kyW (k64 secret) 92)) (enW (bhW HW (kyW (k64 secret) 54)) t) = hmW secret t) := fun t => (hmW_ends secret t).symm
  generalize bhW HW (kyW (k64 secret) 54) = f1 at *
  generalize bhW HW (kyW (k64 secret) 92) = f2 at *
  go_enter Tryd.func22, Tryd.ntmps22
  go_wp2_with fail
  refine (unhide HK _ (unhide HT)).mono ?_
  rintro e w1 ⟨rfl, b1⟩
  have B1 := hide b1
  have T1 := hide ((unhide HT).kept b1)
  clear b1 HT HK
  have hl5 := uw_length 16 (ky2 f1 f2)
  have hl3 := uw_size 16 (ky2 f1 f2)
  go_wp2_with fail
  rw [zer16]
  have h0 := Aw.new w1 16 (fun _ => 0) 54
  have hB := (unhide B1).alloc (unhide B1).size (.cells (uw 16 (fun _ => 0)).toArray 54)
  have hTa := (unhide T1).kept ((Below.refl w1.heap.size w1).alloc (Nat.le_refl _) (.cells (uw 16 (fun _ => 0)).toArray 54))
  have hs1 := (unhide B1).size
  have hl0 : 0 < w1.heap.size := (unhide T1).lt
  generalize w1.alloc (.cells (uw 16 (fun _ => 0)).toArray 54) = W at h0 hB hTa ⊢
  rw [h0.cellsPut]
  have h1 := h0.puts (g := ky2 f1 f2)
  have h2 := Go.Proofs.YtlphaciboaicgaaDoor.below_setCells (b := w1.heap.size) hs1 (uw 16 (ky2 f1 f2)) 0 _ hB
  have h3 : Rt (W.setCells w1.heap.size 0 (uw 16 (ky2 f1 f2))) := Rw.below hTa (Go.Proofs.YtlphaciboaicgaaDoor.below_setCells (b := w1.heap.size) (Nat.le_refl _) (uw 16 (ky2 f1 f2)) 0 _ (Below.refl w1.heap.size W)) hl0
  generalize W.setCells w1.heap.size 0 (uw 16 (ky2 f1 f2)) = W2 at h1 h2 h3 ⊢
  have A2 := hide h1
  have B2 := hide h2
  have T2 := hide h3
  clear h0 hB hTa h1 h2 h3 hl5 hl3 B1 T1
  obtain ⟨i0, hi0, hz0, hz1, hz2⟩ := info_u8j
  have HT1 := hide (fun k => tW_le secret info k)
  have HT2 : Hid (∀ k, hmW secret (tW secret info k ++ info ++ b1W (k + 1)) = tW secret info (k + 1)) := fun k => rfl
  have HDP := hide (fun k i hi => dvW_part secret info k i hi)
  have HDL := hide (dvW_lt secret info)
  have HB1 : Hid (∀ k, (b1W k).size = 1) := fun k => bq_size _ _
  have hkb : w1.heap.size < W2.heap.size := (unhide A2).lt
  generalize hBB : W2.heap.size = B at *
  have hBB2 : B ≤ W2.heap.size := by omega
  clear hBB
  go_wp2_with fail
  go_loopw [8, 9, 10] (fun lv av iv wx => ∃ k : Nat, k ≤ 8 ∧ lv = .string (tW secret info k) ∧ Ob B wx av (32 * k) (dvW secret info) ∧ iv = .int .i64 ((k : Int) + 1) ∧ Aw wx w1.heap.size 0 16 (ky2 f1 f2) ∧ Rt wx ∧ Below w.heap.size w wx ∧ B ≤ wx.heap.size) (fun _ _ iv _ => 300 - (intOf iv).toNat)
  case atStart => exact ⟨0, by omega, rfl, Ob.nil _ _ _, rfl, unhide A2, unhide T2, unhide B2, hBB2⟩
  case round =>
    obtain ⟨k, hk, rfl, hO, rfl, hA, hT, hB, hBw⟩ := hrel
    clear A2 T2 B2 hBB2
    by_cases hlt : 32 * k < n
    · obtain ⟨a, cap, rfl⟩ := hO.opens
      have hst : (convert 46 9 (.slice (some ⟨wr.heap.size, 0, none⟩) 1 1)).run Tryd.prog (wr.alloc (.cells #[.int .u8 ((k : Int) + 1)] 5)) = .ok (.string (b1W (k + 1))) (wr.alloc (.cells #[.int .u8 ((k : Int) + 1)] 5)) := b1_string wr (k + 1) (by omega)
      have al := (Below.refl wr.heap.size wr).alloc (Nat.le_refl _) (.cells #[.int .u8 ((k : Int) + 1)] 5)
      have ht := unhide HT1 k
      have hb1 := unhide HB1 (k + 1)
      have htz := tW_size secret info k
      have ad1 := fun W : World => run_string_add_sum (P := Tryd.prog) (w := W) (tW secret info k) info (by omega)
      have ad2 := fun W : World => run_string_add_sum (P := Tryd.prog) (w := W) (tW secret info k ++ info) (b1W (k + 1)) (by rw [ByteArray.size_append]; omega)
      have HM := hide (unhide HD (tW secret info k ++ info ++ b1W (k + 1)) (by rw [ByteArray.size_append, ByteArray.size_append]; omega))
      rw [unhide HE, unhide HT2 k] at HM
      have A0 := hide hA
      have A1 := hide (hA.below al hA.lt)
      have T1 := hide (hT.kept al)
      have B1 := hide (hB.trans (al.mono hB.size))
      have O1 := hide (hO.kept al)
      have hBw1 := Nat.le_trans hBw al.size
      have AL := hide al
      clear hA hT hB hO al
      generalize tW secret info k ++ info ++ b1W (k + 1) = x2 at *
      generalize tW secret info k ++ info = x1 at *
      generalize b1W (k + 1) = y1 at *
      generalize hq1 : tW secret info (k + 1) = t2 at *
      have HQ1 := hide hq1
      clear hq1
      generalize tW secret info k = t1 at *
      have hlt2 : 32 * (k : Int) < (n : Int) := by omega
      go_upto_region 7 with fail
      refine wp_region_list ?_
      refine wpList_load_mid rfl 54 (.tmp 7) rfl w1.heap.size 0 rfl (uw 16 (ky2 f1 f2)) _ (unhide A0).range Tryd.underlying54 rfl (by rw [uw_length]; exact info_hk) ?_
      go_wp2_with fail
      refine (unhide HM _ (unhide T1)).mono ?_
      rintro e w4 ⟨rfl, b4⟩
      have A4 := hide ((unhide A1).below b4 (unhide A1).lt)
      have T4 := hide ((unhide T1).kept b4)
      have B4 := hide ((unhide B1).trans (b4.mono (unhide B1).size))
      have O4 := hide ((unhide O1).kept b4)
      have hBw4 := Nat.le_trans hBw1 b4.size
      clear b4 A1 T1 B1 O1 AL hst A0
      go_wp2_with (at_builtin; refine Go.Lib.wpList_append_own_string (w := w4) rfl _ _ 46 9 rfl B 5 i0 Tryd.underlying46 Tryd.underlying9 hi0 hz0 hz1 hz2 _ (32 * k) _ rfl (unhide O4) t2 rfl ?c1 ?c2 hBw4 ?_)
      case c1 => unfold maxLen; omega
      case c2 => omega
      intro v' w5 hown hgrow hne
      have e9 : Go.Lib.strCells t2 = us 32 (fun i => dvW secret info (32 * k + i)) := by
        rw [str_us, htz]
        exact us_congr fun i hi => by rw [unhide HDP k i hi, unhide HQ1]
      rw [e9] at hown
      have O5 := hide (Ob.grow hown)
      have b5 := Ob.below (unhide O4) hgrow hBw4
      have A5 := hide ((unhide A4).below b5 hkb)
      have T5 : Hid (Rt w5) := Rw.below (unhide T4) b5 (by omega)
      have B5 := hide ((unhide B4).trans (b5.mono (by omega)))
      have hBw5 := Nat.le_trans hBw4 b5.size
      clear hown hgrow hne b5 O4 A4 T4 B4 e9
      go_wp2
      exact ⟨⟨k + 1, by omega, by rw [unhide HQ1], by rw [show 32 * (k + 1) = 32 * k + 32 by omega]; exact unhide O5, by go_num, unhide A5, unhide T5, unhide B5, hBw5⟩, by simp [intOf]; omega⟩
    · by_cases h0 : k = 0
      · subst h0
        obtain rfl : n = 0 := by omega
        rcases hO.2 with ⟨rfl, _⟩ | ⟨g, c2, cur, rfl, _, hgg, _⟩
        · have hst := run_convert_bytes_nil (P := Tryd.prog) wr 46 5 Tryd.underlying46 Tryd.underlying5 0 0 9 Tryd.underlying9
          have B5 := hide hB
          clear hA hT hB hO
          go_wp2
          go_ret
          exact ⟨rfl, unhide B5⟩
        · have hst := ar_string (w := wr) (b := g) (o := 0) (n := 0) (f := dvW secret info) ⟨fun i hi => by omega, fun i hi => by omega, (Array.getElem?_eq_some_iff.1 hgg).1⟩ (fun i hi => by omega) c2
          have B5 := hide hB
          clear hA hT hB hO
          go_wp2
          go_ret
          exact ⟨rfl, unhide B5⟩
      · obtain ⟨g, cap, rfl, hg, hS⟩ := hO.sg (by omega)
        have hst := ar_string (hS.ar.part 0 n (by omega)) (fun i hi => unhide HDL _) cap
        rw [Nat.add_zero, bq_congr (g := dvW secret info) (fun i hi => by rw [Nat.zero_add])] at hst
        have hcap := hS.le
        have B5 := hide hB
        clear hA hT hB hO hS
        have hn1 : n ≤ 32 * k := by omega
        have hn2 : n ≤ cap := by omega
        have hn3 : ¬ (32 * (k : Int) < (n : Int)) := by omega
        go_wp2
        go_ret
        exact ⟨rfl, unhide B5⟩
theorem implExpand_ok (secret info : ByteArray) (n : Int) (h : secret.size ≤ 500 ∧ info.size ≤ 500 ∧ 0 ≤ n ∧ n ≤ 255) (w : World) (hT : Rt w) :
    Calls Tryd.prog 17 #[.string secret, .string info, .int .i64 n] w fun e w' => e = .returned (.tuple #[.string (bq n.toNat (dvW secret info)), .bool true]) ∧ Below w.heap.size w w' := by
  obtain ⟨h1, h2, h3, h4⟩ := h
  have HT := hide hT
  clear hT
  obtain ⟨m, rfl⟩ : ∃ m : Nat, n = (m : Int) := ⟨n.toNat, by omega⟩
  rw [Int.toNat_natCast]
  have HC : Hid (∀ W g c, W.cell? ⟨g, 0, none⟩ = some (.string secret) → W.cell? ⟨g, 1, none⟩ = some (.string info) → Calls Tryd.prog 16 #[.int .i64 500, .slice (some ⟨g, 0, none⟩) 2 c] W fun e w' => e = .returned (.bool true) ∧ w' = W) := fun W g c hc hc1 => by
    have h9 := within_two secret info 500 (by omega) (by omega) (by omega) W g c hc hc1
    rw [decide_eq_true ⟨h1, h2⟩] at h9
    exact h9
  have HD := hide (fun W (h9 : Rt W) => implDerived secret info m (by omega) (by omega) (by omega) W h9)
  go_enter Tryd.func17, Tryd.ntmps17
  go_wp2_with fail
  refine (unhide HC _ _ _ (by simp) (by simp)).mono ?_
  rintro e w1 ⟨rfl, e1⟩
  rw [e1]
  clear e1 w1
  have al := (Below.refl w.heap.size w).alloc (Nat.le_refl _) (.cells #[.string secret, .string info] 9)
  generalize w.alloc (.cells #[.string secret, .string info] 9) = W at al ⊢
  have T1 := hide ((unhide HT).kept al)
  have AL := hide al
  clear al HC
  go_wp2_with fail
  refine (unhide HD _ (unhide T1)).mono ?_
  rintro e w2 ⟨rfl, b2⟩
  have B2 := hide ((unhide AL).trans (b2.mono (unhide AL).size))
  clear b2 AL T1 HD
  go_wp2
  go_ret2
  exact ⟨rfl, unhide B2⟩
theorem implExpand_no (secret info : ByteArray) (n : Int) (h : ¬ (secret.size ≤ 500 ∧ info.size ≤ 500 ∧ 0 ≤ n ∧ n ≤ 255)) (hl : secret.size ≤ 1048576) (hl2 : info.size ≤ 1048576) (hn : (Lit.int .i64 n).wf = true) (w : World) :
    Calls Tryd.prog 17 #[.string secret, .string info, .int .i64 n] w fun e w' => e = .returned (.tuple #[.string ⟨#[]⟩, .bool false]) ∧ Below w.heap.size w w' := by
  by_cases h3 : n < 0
  · go_enter Tryd.func17, Tryd.ntmps17
    go_wp2
    go_ret2
    exact ⟨rfl, Below.refl _ _⟩
  by_cases h4 : 255 < n
  · go_enter Tryd.func17, Tryd.ntmps17
    go_wp2
    go_ret2
    exact ⟨rfl, Below.refl _ _⟩
  have HC : Hid (∀ W g c, W.cell? ⟨g, 0, none⟩ = some (.string secret) → W.cell? ⟨g, 1, none⟩ = some (.string info) → Calls Tryd.prog 16 #[.int .i64 500, .slice (some ⟨g, 0, none⟩) 2 c] W fun e w' => e = .returned (.bool false) ∧ w' = W) := fun W g c hc hc1 => by
    have h9 := within_two secret info 500 (by omega) hl hl2 W g c hc hc1
    rw [decide_eq_false (fun x => h ⟨x.1, x.2, by omega, by omega⟩)] at h9
    exact h9
  clear h
  go_enter Tryd.func17, Tryd.ntmps17
  go_wp2_with fail
  refine (unhide HC _ _ _ (by simp) (by simp)).mono ?_
  rintro e w1 ⟨rfl, e1⟩
  rw [e1]
  clear e1 w1
  go_wp2
  go_ret2
  exact ⟨rfl, (Below.refl w.heap.size w).alloc (Nat.le_refl _) _⟩
end Go.Proofs.YtlphaciboaicgaaDoor
