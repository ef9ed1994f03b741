/-
  Contract: the model's reader of headers, whatever stands there.
-/
import Derived.Test.YtbabipaipbjlbaaLrmX
import Derived.Test.YtbabipaipbjlbaaLrfX
namespace Go.Proofs.Ytbabipaipbjlbaa
open Go.ChangeShapes Go.WideShapes Go.ChangeAt Go.RowKit
set_option linter.unusedVariables false
set_option maxRecDepth 100000

/-- what l2Read leaves -/
def RD (rb : Nat) (w : World) (s : ByteArray) (short : Nat) (e0 : Ending) (w' : World) : Prop :=
  ∃ f bi ve d e t y ra n rc V q c, e0 = .returned (hv f bi ve d e t y ra n rc) ∧ Oi w.heap.size w' (.slice ra n rc) n V ∧ Lr w' rb s q c ∧ Kx rb w w' ∧ (c = 0 → d.size ≤ 1048576 ∧ e.size ≤ 1048576 ∧ t.size ≤ 1048576 ∧ y.size ≤ 1048576 ∧ n ≤ 1048576 ∧ ∀ i, i < n → 0 ≤ V i ∧ V i ≤ 4294967295) ∧ RP s short f bi ve d e t y n V q c
theorem rd_nil {rb : Nat} {w w' : World} {s : ByteArray} {short : Nat} {e0 : Ending} {f bi ve : Int} {d e t y : ByteArray} {q : Nat} {c : Int}
    (z : d.size ≤ 1048576 ∧ e.size ≤ 1048576 ∧ t.size ≤ 1048576 ∧ y.size ≤ 1048576) (p : RP s short f bi ve d e t y 0 (fun _ => 0) q c) (h : e0 = .returned (hv f bi ve d e t y none 0 0) ∧ Lr w' rb s q c ∧ Kx rb w w') : RD rb w s short e0 w' :=
  ⟨f, bi, ve, d, e, t, y, none, 0, 0, _, q, c, h.1, Oi.nil _ _ _, h.2.1, h.2.2, fun _ => ⟨z.1, z.2.1, z.2.2.1, z.2.2.2, by omega, fun i hi => by omega⟩, p⟩
theorem sE_le : sE.size ≤ 1048576 := by decide
theorem gh5 (bi : Int) (d y : Nat) (V : Nat → Int) : gh 5 bi 0 d 0 0 y 0 V = true ↔ d ≤ 20 ∧ 0 ≤ bi ∧ bi ≤ 15 ∧ y ≤ 1200 := by
  unfold gh gpB
  simp
theorem gh4 (bi : Int) (d e n : Nat) (V : Nat → Int) : gh 4 bi 0 d e 0 0 n V = true ↔ d ≤ 20 ∧ e ≤ 20 ∧ 0 ≤ bi ∧ bi ≤ 15 ∧ gv 0 n V = true := by
  unfold gh gpB
  simp
theorem gh3 (bi ve f : Int) (hf : f = 1 ∨ f = 2 ∨ f = 3) (d e y : Nat) (V : Nat → Int) : gh f bi ve d e 0 y 0 V = true ↔ d ≤ 20 ∧ e ≤ 20 ∧ 0 ≤ bi ∧ bi ≤ 15 ∧ y ≤ 1200 ∧ okW 1 ve = true ∧ 1 ≤ y := by
  unfold gh gpB
  rw [if_neg (by omega), if_pos hf]
  simp
theorem gh0 (bi ve : Int) (d e t y : Nat) (V : Nat → Int) : gh 0 bi ve d e t y 0 V = true ↔ d ≤ 20 ∧ e ≤ 20 ∧ 0 ≤ bi ∧ bi ≤ 15 ∧ y ≤ 1200 ∧ okW 1 ve = true ∧ t ≤ 200 ∧ 1 ≤ y := by
  unfold gh gpB
  simp
theorem ex_all (s : ByteArray) (p : Nat) (hp : p ≤ s.size) : (s.extract p s.size).size = s.size - p := by rw [ByteArray.size_extract]; omega
theorem take_all (s : ByteArray) (p : Nat) (hp : p ≤ s.size) : takeT s p 0 ((s.size : Int) - p) = ⟨s.extract p s.size, s.size, 0⟩ := by
  have h := takeT_ok (s := s) (p := p) (n := s.size - p) (by omega)
  rw [show (((s.size - p : Nat) : Int)) = (s.size : Int) - p by omega, show p + (s.size - p) = s.size by omega] at h
  exact h
theorem rp_short (s : ByteArray) (short : Nat) (hsh : short ≤ 20) (h0 : 0 < s.size) (h1 : ¬ at8 s 0 / 64 % 2 = 0) (h2 : at8 s 0 < 128) (h3 : at8 s 0 / 16 % 4 = 0) :
    RP s short 5 (at8 s 0 % 16) 0 (takeT s 1 0 short).t sE sE (takeT s (takeT s 1 0 short).p (takeT s 1 0 short).c (s.size - (takeT s 1 0 short).p)).t 0 (fun _ => 0) (takeT s (takeT s 1 0 short).p (takeT s 1 0 short).c (s.size - (takeT s 1 0 short).p)).p (takeT s (takeT s 1 0 short).p (takeT s 1 0 short).c (s.size - (takeT s 1 0 short).p)).c := by
  have hb := at8_in s 0
  by_cases hl : 1 + short ≤ s.size
  · rw [takeT_ok (s := s) (p := 1) (n := short) hl]
    show RP s short 5 _ 0 (s.extract 1 (1 + short)) sE sE (takeT s (1 + short) 0 ((s.size : Int) - (1 + short : Nat))).t 0 _ (takeT s (1 + short) 0 ((s.size : Int) - (1 + short : Nat))).p (takeT s (1 + short) 0 ((s.size : Int) - (1 + short : Nat))).c
    rw [take_all s (1 + short) hl]
    show RP s short 5 _ 0 (s.extract 1 (1 + short)) sE sE (s.extract (1 + short) s.size) 0 _ s.size 0
    unfold RP
    rw [hd_short h0 h1 h2, show sE.size = 0 from rfl, ex_all s _ hl, gh5]
    have hd : (s.extract 1 (1 + short)).size ≤ 20 := by rw [ByteArray.size_extract]; omega
    by_cases hy : s.size - (1 + short) ≤ 1200
    · exact Or.inl ⟨rfl, ⟨hd, by omega, by omega, hy⟩, if_pos ⟨by omega, hl, hy⟩⟩
    · exact Or.inr ⟨fun z => hy z.2.2.2.2, if_neg (fun z => hy z.2.2)⟩
  · rw [takeT_short (s := s) (p := 1) (n := (short : Int)) (by omega)]
    refine rp_code ?_ ?_
    · show (takeT s 1 1 _).c ≠ 0
      rw [takeT_code (by decide)]
      exact (by decide : (1 : Int) ≠ 0)
    · rw [hd_short h0 h1 h2, if_neg (fun z => hl z.2.1)]
theorem ok1 {v : Int} (h0 : v ≠ 0) (h : 0 ≤ v ∧ v ≤ 4294967295) : okW 1 v = true := by
  unfold okW
  exact decide_eq_true ⟨by omega, h.2⟩
theorem vN_in {s : ByteArray} (h : (i2 s).c = 0) : 0 ≤ vN s ∧ vN s ≤ 4294967295 := by
  have h5 : ¬ s.size < 5 := fun h5 => i2_no h5 h
  rw [vN_yes h5]
  exact w4_in s
theorem i1_20 {s : ByteArray} (h0 : 0 < s.size) (h : (i2 s).c = 0) : (i1 s).t.size ≤ 20 := idT_20 (v4_le h0) (i2_ok h).1
theorem i2_20 {s : ByteArray} (h0 : 0 < s.size) (h : (i2 s).c = 0) : (i2 s).t.size ≤ 20 := idT_20 (idT_le (v4_le h0)) h
theorem i2_le {s : ByteArray} (h0 : 0 < s.size) : (i2 s).p ≤ s.size := idT_le (idT_le (v4_le h0))
theorem rp_re (s : ByteArray) (short : Nat) (h0 : 0 < s.size) (h1 : ¬ at8 s 0 / 64 % 2 = 0) (h2 : ¬ at8 s 0 < 128) (h3 : at8 s 0 / 16 % 4 = 3) (hv0 : vN s ≠ 0) :
    RP s short 3 (at8 s 0 % 16) (vN s) (i1 s).t (i2 s).t sE (takeT s (i2 s).p (i2 s).c (s.size - (i2 s).p)).t 0 (fun _ => 0) (takeT s (i2 s).p (i2 s).c (s.size - (i2 s).p)).p (takeT s (i2 s).p (i2 s).c (s.size - (i2 s).p)).c := by
  have hb := at8_in s 0
  by_cases hc : (i2 s).c = 0
  · rw [hc, take_all s _ (i2_le h0)]
    show RP s short 3 _ (vN s) (i1 s).t (i2 s).t sE (s.extract (i2 s).p s.size) 0 _ s.size 0
    unfold RP
    rw [hd_long h0 h1 h2 hc, if_neg hv0, if_neg (by omega), if_pos h3, show sE.size = 0 from rfl, ex_all s _ (i2_le h0), gh3 _ _ 3 (by omega)]
    by_cases hy : 1 ≤ s.size - (i2 s).p ∧ s.size - (i2 s).p ≤ 1200
    · exact Or.inl ⟨rfl, ⟨i1_20 h0 hc, i2_20 h0 hc, by omega, by omega, hy.2, ok1 hv0 (vN_in hc), hy.1⟩, if_pos hy⟩
    · exact Or.inr ⟨fun z => hy ⟨z.2.2.2.2.2.2.2, z.2.2.2.2.2.1⟩, if_neg hy⟩
  · refine rp_code ?_ (hd_ids h0 h2 hc)
    rw [takeT_code hc]
    exact hc
theorem rp_pl (s : ByteArray) (short : Nat) (h0 : 0 < s.size) (h1 : ¬ at8 s 0 / 64 % 2 = 0) (h2 : ¬ at8 s 0 < 128) (h3 : ¬ at8 s 0 / 16 % 4 = 0) (h4 : ¬ at8 s 0 / 16 % 4 = 3) (hv0 : vN s ≠ 0) :
    RP s short (at8 s 0 / 16 % 4) (at8 s 0 % 16) (vN s) (i1 s).t (i2 s).t sE (textT s (i2 s).p (i2 s).c).t 0 (fun _ => 0) (textT s (i2 s).p (i2 s).c).p (textT s (i2 s).p (i2 s).c).c := by
  have hb := at8_in s 0
  by_cases hc : (i2 s).c = 0
  · rw [hc]
    unfold RP
    rw [hd_long h0 h1 h2 hc, if_neg hv0, if_neg h3, if_neg h4, show sE.size = 0 from rfl, gh3 _ _ _ (by omega)]
    by_cases hy : (textT s (i2 s).p 0).c = 0 ∧ 1 ≤ (textT s (i2 s).p 0).t.size ∧ (textT s (i2 s).p 0).t.size ≤ 1200
    · exact Or.inl ⟨hy.1, ⟨i1_20 h0 hc, i2_20 h0 hc, by omega, by omega, hy.2.2, ok1 hv0 (vN_in hc), hy.2.1⟩, if_pos hy⟩
    · exact Or.inr ⟨fun z => hy ⟨z.1, z.2.2.2.2.2.2.2, z.2.2.2.2.2.1⟩, if_neg hy⟩
  · exact rp_code (textT_code hc) (hd_ids h0 h2 hc)
theorem rp_in (s : ByteArray) (short : Nat) (h0 : 0 < s.size) (h1 : ¬ at8 s 0 / 64 % 2 = 0) (h2 : ¬ at8 s 0 < 128) (h3 : at8 s 0 / 16 % 4 = 0) (hv0 : vN s ≠ 0) :
    RP s short 0 (at8 s 0 % 16) (vN s) (i1 s).t (i2 s).t (textT s (i2 s).p (i2 s).c).t (textT s (textT s (i2 s).p (i2 s).c).p (textT s (i2 s).p (i2 s).c).c).t 0 (fun _ => 0) (textT s (textT s (i2 s).p (i2 s).c).p (textT s (i2 s).p (i2 s).c).c).p (textT s (textT s (i2 s).p (i2 s).c).p (textT s (i2 s).p (i2 s).c).c).c := by
  have hb := at8_in s 0
  by_cases hc : (i2 s).c = 0
  · rw [hc]
    by_cases hd : (textT s (i2 s).p 0).c = 0
    · rw [hd]
      unfold RP
      rw [hd_long h0 h1 h2 hc, if_neg hv0, if_pos h3, gh0]
      by_cases hy : ((textT s (i2 s).p 0).c = 0 ∧ (textT s (i2 s).p 0).t.size ≤ 200) ∧ ((textT s (textT s (i2 s).p 0).p 0).c = 0 ∧ 1 ≤ (textT s (textT s (i2 s).p 0).p 0).t.size ∧ (textT s (textT s (i2 s).p 0).p 0).t.size ≤ 1200)
      · exact Or.inl ⟨hy.2.1, ⟨i1_20 h0 hc, i2_20 h0 hc, by omega, by omega, hy.2.2.2, ok1 hv0 (vN_in hc), hy.1.2, hy.2.2.1⟩, if_pos hy⟩
      · exact Or.inr ⟨fun z => hy ⟨⟨hd, z.2.2.2.2.2.2.2.1⟩, z.1, z.2.2.2.2.2.2.2.2, z.2.2.2.2.2.1⟩, if_neg hy⟩
    · refine rp_code (textT_code hd) ?_
      rw [hd_long h0 h1 h2 hc, if_neg hv0, if_pos h3, if_neg (fun z => hd z.1.1)]
  · exact rp_code (textT_code (textT_code hc)) (hd_ids h0 h2 hc)
theorem rp_vc (s : ByteArray) (short : Nat) (h0 : 0 < s.size) (h1 : ¬ at8 s 0 / 64 % 2 = 0) (h2 : ¬ at8 s 0 < 128) (h3 : at8 s 0 / 16 % 4 = 0) (hv0 : vN s = 0) (hc : (i2 s).c = 0) (n q : Nat) (V : Nat → Int) (c : Int)
    (h : (c = 0 ∧ q = s.size ∧ s.size = (i2 s).p + 4 * n ∧ V = wdA s (i2 s).p) ∨ (c = 1 ∧ ¬ ∃ m, s.size = (i2 s).p + 4 * m)) :
    RP s short 4 (at8 s 0 % 16) 0 (i1 s).t (i2 s).t sE sE n V q c := by
  have hb := at8_in s 0
  rcases h with ⟨rfl, rfl, hn, rfl⟩ | ⟨rfl, hn⟩
  · unfold RP
    have e4 : (s.size - (i2 s).p) / 4 = n := by omega
    rw [hd_long h0 h1 h2 hc, if_pos hv0, show sE.size = 0 from rfl, gh4]
    unfold gv
    rw [decide_eq_true_eq]
    by_cases hy : 1 ≤ n ∧ n ≤ 20
    · refine Or.inl ⟨rfl, ⟨i1_20 h0 hc, i2_20 h0 hc, by omega, by omega, hy.1, hy.2, wdA_all _ _ _⟩, ?_⟩
      rw [if_pos ⟨by omega, by omega, by omega, by omega⟩, e4]
    · exact Or.inr ⟨fun z => hy ⟨z.2.2.2.2.2.1, z.2.2.2.2.2.2.1⟩, if_neg (fun z => hy ⟨by have := z.2.1; omega, by have := z.2.2.1; omega⟩)⟩
  · refine rp_code (by decide) ?_
    rw [hd_long h0 h1 h2 hc, if_pos hv0, if_neg (fun z => hn ⟨_, z.2.2.2⟩)]
theorem text_sz {s : ByteArray} {p : Nat} {c : Int} (hs : s.size ≤ 1048576) : (textT s p c).t.size ≤ 1048576 := by unfold textT; exact Nat.le_trans takeT_size hs
theorem id_sz {s : ByteArray} {p : Nat} {c : Int} (hs : s.size ≤ 1048576) : (idT s p c).t.size ≤ 1048576 := by unfold idT; exact Nat.le_trans takeT_size hs
theorem read_any (rb short : Nat) (s : ByteArray) (w : World) (hs : s.size ≤ 1048576) (hsh : short ≤ 20) (h : Lr w rb s 0 0) :
    Calls Try.prog 58 #[.pointer (some ⟨rb, 0, none⟩), .int .i64 short] w (RD rb w s short) := by
  have hb := at8_in s 0
  by_cases h0 : s.size = 0
  · exact (read_none rb short s w h0 h).mono fun e w' hh => rd_nil ⟨sE_le, sE_le, sE_le, sE_le⟩ (rp_code (by decide) (hd_none h0)) hh
  have h0' : 0 < s.size := by omega
  by_cases h1 : at8 s 0 / 64 % 2 = 0
  · exact (read_kind rb short s w hs h0' (by rw [b64, h1]; rfl) h).mono fun e w' hh => rd_nil ⟨sE_le, sE_le, sE_le, sE_le⟩ (rp_code (by decide) (hd_kind h0' h1)) hh
  have h64 : bits .and .i64 (at8 s 0) 64 = 64 := by rw [b64]; omega
  by_cases h2 : at8 s 0 < 128
  · by_cases h3 : at8 s 0 / 16 % 4 = 0
    · exact (read_short rb short s w hs hsh h0' h64 h2 (by rw [b48, h3]; rfl) h).mono fun e w' hh => rd_nil ⟨Nat.le_trans takeT_size hs, sE_le, sE_le, Nat.le_trans takeT_size hs⟩ (rp_short s short hsh h0' h1 h2 h3) hh
    · exact (read_bad rb short s w hs hsh h0' h64 h2 (by rw [b48]; simp; omega) h).mono fun e w' hh => rd_nil ⟨sE_le, sE_le, sE_le, sE_le⟩ (rp_code (by decide) (by rw [hd_short h0' h1 h2, if_neg (fun z => by omega)])) hh
  · by_cases hv0 : vN s = 0
    · by_cases hc : (i2 s).c = 0
      · by_cases h3 : at8 s 0 / 16 % 4 = 0
        · refine (read_vc rb short s w hs h0' h64 h2 h3 hv0 hc h).mono ?_
          rintro e w' ⟨ra, n, rc, V, q, c, he, hO, hL, hK, hh⟩
          refine ⟨4, _, 0, (i1 s).t, (i2 s).t, sE, sE, ra, n, rc, V, q, c, he, hO, hL, hK, fun hc0 => ⟨id_sz hs, id_sz hs, sE_le, sE_le, ?_⟩, rp_vc s short h0' h1 h2 h3 hv0 hc n q V c hh⟩
          rcases hh with ⟨_, _, hn, hV⟩ | ⟨h9, _⟩
          · exact ⟨by omega, fun i _ => by rw [hV]; exact wdA_in _ _ _⟩
          · omega
        · exact (read_vb rb short s w hs h0' h64 h2 (at8 s 0 / 16 % 4) rfl (by simp; omega) hv0 hc h).mono fun e w' hh => rd_nil ⟨id_sz hs, id_sz hs, sE_le, sE_le⟩ (rp_code (by decide) (by rw [hd_long h0' h1 h2 hc, if_pos hv0, if_neg (fun z => by omega)])) hh
      · exact (read_va rb short s w hs h0' h64 h2 hv0 hc h).mono fun e w' hh => rd_nil ⟨id_sz hs, id_sz hs, sE_le, sE_le⟩ (rp_code hc (hd_ids h0' h2 hc)) hh
    · have hve : (vN s == 0) = false := by simp [hv0]
      by_cases h3 : at8 s 0 / 16 % 4 = 0
      · exact (read_in rb short s w hs h0' h64 h2 h3 hve h).mono fun e w' hh => rd_nil ⟨id_sz hs, id_sz hs, text_sz hs, text_sz hs⟩ (rp_in s short h0' h1 h2 h3 hv0) hh
      · by_cases h4 : at8 s 0 / 16 % 4 = 3
        · exact (read_re rb short s w hs h0' h64 h2 h4 hve h).mono fun e w' hh => rd_nil ⟨id_sz hs, id_sz hs, sE_le, Nat.le_trans takeT_size hs⟩ (rp_re s short h0' h1 h2 h4 hv0) hh
        · exact (read_pl rb short s w hs h0' h64 h2 (at8 s 0 / 16 % 4) rfl (by simp [h3]) (by simp [h4]) hve h).mono fun e w' hh => rd_nil ⟨id_sz hs, id_sz hs, sE_le, text_sz hs⟩ (rp_pl s short h0' h1 h2 h3 h4 hv0) hh
end Go.Proofs.Ytbabipaipbjlbaa
