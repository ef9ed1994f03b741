/-
  A packet that was cut out of a datagram reads whole, and the packets together are the datagram.
-/
import Derived.Test.YtbabipaipbjlbaaCdg
namespace Go.Proofs.Ytbabipaipbjlbaa
open Go.ChangeShapes Go.WideShapes Go.ChangeAt Go.RowKit
set_option linter.unusedVariables false
set_option maxRecDepth 100000

theorem ext0 (s : ByteArray) (q i j : Nat) (h : j ≤ q) (hq : q ≤ s.size) : (s.extract 0 q).extract i j = s.extract i j := by
  apply ByteArray.ext
  simp only [ByteArray.data_extract, Array.extract_extract, Nat.zero_add]
  congr 1
  omega
theorem ext_all (s : ByteArray) : s.extract 0 s.size = s := by
  apply ByteArray.ext
  simp
theorem at8_pre (s : ByteArray) (q i : Nat) (h : i < q) (hq : q ≤ s.size) : at8 (s.extract 0 q) i = at8 s i := by
  unfold at8
  rw [dif_pos (by rw [ByteArray.size_extract]; omega), dif_pos (by omega)]
  rw [ByteArray.getElem_extract]
  simp
theorem pre_size (s : ByteArray) (q : Nat) (hq : q ≤ s.size) : (s.extract 0 q).size = q := by rw [ByteArray.size_extract]; omega
theorem take_pre (s : ByteArray) (p n q : Nat) (h : p + n ≤ q) (hq : q ≤ s.size) : takeT (s.extract 0 q) p 0 n = takeT s p 0 n := by
  rw [takeT_ok (by rw [pre_size s q hq]; exact h), takeT_ok (by omega), ext0 s q _ _ h hq]
theorem take_c0 {s : ByteArray} {p : Nat} {c n : Int} (h : (takeT s p c n).c = 0) : c = 0 ∧ ¬ (s.size : Int) - p < n := by
  unfold takeT at h
  split at h
  · rename_i h1
    exact absurd h h1
  · split at h
    · cases h
    · rename_i h1 h2
      exact ⟨by simpa using h1, h2⟩
theorem id_pre (s : ByteArray) (p q : Nat) (hq : q ≤ s.size) (h : (idT s p 0).c = 0) (hp : (idT s p 0).p ≤ q) : idT (s.extract 0 q) p 0 = idT s p 0 ∧ p ≤ (idT s p 0).p := by
  have hN := idN_in s p 0
  obtain ⟨k, hk⟩ := Int.eq_ofNat_of_zero_le hN.1
  have h1 := take_c0 h
  have hc : (takeT s p 0 1).c = 0 := by
    by_cases e : (takeT s p 0 1).c = 0
    · exact e
    · have := h1.1
      rw [if_neg (fun z => e z.1)] at this
      exact this
  have h2 := take_c0 hc
  have t1 : takeT s p 0 ((1 : Nat) : Int) = ⟨s.extract p (p + 1), p + 1, 0⟩ := takeT_ok (by omega)
  have h20 : ¬ 20 < idN s p 0 := fun z => by have := h1.1; rw [if_pos ⟨hc, z⟩] at this; cases this
  have t1' : takeT s p 0 1 = ⟨s.extract p (p + 1), p + 1, 0⟩ := t1
  have e1 : idT s p 0 = takeT s (p + 1) 0 (k : Int) := by
    unfold idT
    rw [t1', hk]
    simp only
    rw [if_neg (fun z => h20 (by rw [hk]; exact z.2))]
  rw [e1] at h hp ⊢
  have h3 := take_c0 h
  have t2 : takeT s (p + 1) 0 (k : Int) = ⟨s.extract (p + 1) (p + 1 + k), p + 1 + k, 0⟩ := takeT_ok (by omega)
  rw [t2] at hp ⊢
  simp only at hp ⊢
  refine ⟨?_, by omega⟩
  have u1 : takeT (s.extract 0 q) p 0 1 = ⟨s.extract p (p + 1), p + 1, 0⟩ := (take_pre s p 1 q (by omega) hq).trans t1'
  have uk : idN (s.extract 0 q) p 0 = k := by
    rw [← hk]
    unfold idN
    rw [u1, t1']
  unfold idT
  rw [u1, uk]
  simp only
  rw [if_neg (fun z => h20 (by rw [hk]; exact z.2)), take_pre s (p + 1) k q (by omega) hq, t2]
theorem tk_pre (l : List UInt8) (m : Nat) (h0 : (tk l).2 ≠ 0) (h1 : (tk l).2 ≤ m) : tk (l.take m) = tk l := by
  cases l with
  | nil => exact absurd rfl h0
  | cons c r =>
    simp only [tk] at h0 h1 ⊢
    by_cases hk : r.length + 1 < tkN c
    · rw [if_pos hk] at h0
      exact absurd rfl h0
    · rw [if_neg hk] at h1
      simp only at h1
      have hN : 1 ≤ tkN c := by unfold tkN; split <;> (try split) <;> (try split) <;> omega
      obtain ⟨m', rfl⟩ : ∃ m', m = m' + 1 := ⟨m - 1, by omega⟩
      rw [List.take_succ_cons]
      dsimp only
      rw [if_neg hk, if_neg (by rw [List.length_take]; omega), List.take_take, Nat.min_eq_left (by omega)]
theorem text_pre (s : ByteArray) (p q : Nat) (hq : q ≤ s.size) (hps : p ≤ s.size) (h : (textT s p 0).c = 0) (hp : (textT s p 0).p ≤ q) : textT (s.extract 0 q) p 0 = textT s p 0 ∧ p ≤ (textT s p 0).p := by
  have hn := nm_in s p hps
  obtain ⟨k, hk⟩ := Int.eq_ofNat_of_zero_le hn.1
  have h1 := take_c0 h
  have hz : ¬ (nm s p).2 = 0 := fun z => by have := h1.1; unfold numC at this; rw [if_pos ⟨z, rfl⟩] at this; cases this
  have e1 : textT s p 0 = takeT s (p + (nm s p).2) 0 (k : Int) := by
    unfold textT numC
    rw [if_neg (fun z => hz z.1), hk]
  rw [e1] at h hp ⊢
  have h3 := take_c0 h
  have t2 : takeT s (p + (nm s p).2) 0 (k : Int) = ⟨s.extract (p + (nm s p).2) (p + (nm s p).2 + k), p + (nm s p).2 + k, 0⟩ := takeT_ok (by omega)
  rw [t2] at hp ⊢
  simp only at hp ⊢
  refine ⟨?_, by omega⟩
  have en : nm (s.extract 0 q) p = nm s p := by
    unfold nm at hz hp ⊢
    rw [pre_size s q hq, ext0 s q p q (Nat.le_refl q) hq]
    have el : (s.extract p q).data.toList = (s.extract p s.size).data.toList.take (q - p) := by
      rw [ByteArray.data_extract, ByteArray.data_extract, Array.toList_extract, Array.toList_extract, List.extract_eq_take_drop, List.extract_eq_take_drop, List.take_take]
      congr 1
      omega
    rw [el]
    exact tk_pre _ _ hz (by omega)
  unfold textT numC
  rw [en, if_neg (fun z => hz z.1), hk, take_pre s (p + (nm s p).2) k q (by omega) hq, t2]
theorem idT_fit {s : ByteArray} {p : Nat} (h : (idT s p 0).c = 0) : (idT s p 0).p ≤ s.size := by
  have hN := idN_in s p 0
  obtain ⟨k, hk⟩ := Int.eq_ofNat_of_zero_le hN.1
  unfold idT at h ⊢
  have h1 := take_c0 h
  rw [h1.1, hk] at h ⊢
  rw [hk] at h1
  rw [takeT_ok (by omega)]
  show _ + k ≤ _
  omega
set_option maxHeartbeats 2000000 in
/-- a header is read alike where nothing stands behind it -/
theorem hdR_pre (s : ByteArray) (short : Nat) (x : HR) (h : hdR s short = some x) : ∃ y, hdR (s.extract 0 x.q) short = some y ∧ y.q = x.q := by
  have hq := hdR_q h
  by_cases e : x.q = s.size
  · rw [e, ext_all]
    exact ⟨x, h, e⟩
  have hz := pre_size s x.q hq.2
  have a0 := at8_pre s x.q 0 (by omega) hq.2
  have c1 : ¬ s.size = 0 := by omega
  by_cases c2 : at8 s 0 / 64 % 2 = 0
  · unfold hdR at h; rw [if_neg c1, if_pos c2] at h; cases h
  by_cases c3 : at8 s 0 < 128
  · unfold hdR at h
    rw [if_neg c1, if_neg c2, if_pos c3] at h
    split at h
    · exact absurd (by rw [← Option.some.inj h]) e
    · cases h
  by_cases c4 : s.size < 5
  · unfold hdR at h; rw [if_neg c1, if_neg c2, if_neg c3, if_pos c4] at h; cases h
  by_cases c5' : (idT s 5 0).c = 0 ∧ (idT s (idT s 5 0).p 0).c = 0
  case neg =>
    unfold hdR at h; rw [if_neg c1, if_neg c2, if_neg c3, if_neg c4, if_pos c5'] at h; cases h
  have c5 : ¬ ¬ ((idT s 5 0).c = 0 ∧ (idT s (idT s 5 0).p 0).c = 0) := fun z => z c5'
  by_cases c6 : w4 s = 0
  · unfold hdR at h
    rw [if_neg c1, if_neg c2, if_neg c3, if_neg c4, if_neg c5, if_pos c6] at h
    split at h
    · exact absurd (by rw [← Option.some.inj h]) e
    · cases h
  have i2s := idT_fit c5'.2
  have main : ∀ (hp : (idT s (idT s 5 0).p 0).p ≤ x.q), idT (s.extract 0 x.q) 5 0 = idT s 5 0 ∧ idT (s.extract 0 x.q) (idT s 5 0).p 0 = idT s (idT s 5 0).p 0 ∧ 5 ≤ (idT s (idT s 5 0).p 0).p ∧ w4 (s.extract 0 x.q) = w4 s := by
    intro hp
    have r2 := id_pre s (idT s 5 0).p x.q hq.2 c5'.2 hp
    have r1 := id_pre s 5 x.q hq.2 c5'.1 (by omega)
    exact ⟨r1.1, r2.1, by omega, by unfold w4; rw [ext0 s x.q 1 5 (by omega) hq.2]⟩
  by_cases c7 : at8 s 0 / 16 % 4 = 0
  · by_cases c8 : ((textT s (idT s (idT s 5 0).p 0).p 0).c = 0 ∧ (textT s (idT s (idT s 5 0).p 0).p 0).t.size ≤ 200) ∧ ((textT s (textT s (idT s (idT s 5 0).p 0).p 0).p 0).c = 0 ∧ 1 ≤ (textT s (textT s (idT s (idT s 5 0).p 0).p 0).p 0).t.size ∧ (textT s (textT s (idT s (idT s 5 0).p 0).p 0).p 0).t.size ≤ 1200)
    case neg =>
      unfold hdR at h; rw [if_neg c1, if_neg c2, if_neg c3, if_neg c4, if_neg c5, if_neg c6, if_pos c7, if_neg c8] at h; cases h
    have hx : x.q = (textT s (textT s (idT s (idT s 5 0).p 0).p 0).p 0).p := by
      unfold hdR at h
      rw [if_neg c1, if_neg c2, if_neg c3, if_neg c4, if_neg c5, if_neg c6, if_pos c7, if_pos c8] at h
      rw [← Option.some.inj h]
    have g1 : (textT s (idT s (idT s 5 0).p 0).p 0).p ≤ x.q := by rw [hx]; exact textT_ge
    have g0 : (idT s (idT s 5 0).p 0).p ≤ x.q := Nat.le_trans textT_ge g1
    have r3 := text_pre s _ x.q hq.2 i2s c8.1.1 g1
    have r4 := text_pre s _ x.q hq.2 (Nat.le_trans g1 hq.2) c8.2.1 (Nat.le_of_eq hx.symm)
    obtain ⟨m1, m2, m3, m4⟩ := main g0
    have r3' := r3.1
    have r4' := r4.1
    generalize s.extract 0 x.q = T at *
    unfold hdR
    rw [a0, m1, m2, m4, r3', r4', if_neg (show ¬ T.size = 0 by omega), if_neg c2, if_neg c3, if_neg (show ¬ T.size < 5 by omega), if_neg c5, if_neg c6, if_pos c7, if_pos c8]
    exact ⟨_, rfl, (by dsimp only; exact hx.symm)⟩
  by_cases c9 : at8 s 0 / 16 % 4 = 3
  · unfold hdR at h
    rw [if_neg c1, if_neg c2, if_neg c3, if_neg c4, if_neg c5, if_neg c6, if_neg c7, if_pos c9] at h
    split at h
    · exact absurd (by rw [← Option.some.inj h]) e
    · cases h
  by_cases c8 : (textT s (idT s (idT s 5 0).p 0).p 0).c = 0 ∧ 1 ≤ (textT s (idT s (idT s 5 0).p 0).p 0).t.size ∧ (textT s (idT s (idT s 5 0).p 0).p 0).t.size ≤ 1200
  case neg =>
    unfold hdR at h; rw [if_neg c1, if_neg c2, if_neg c3, if_neg c4, if_neg c5, if_neg c6, if_neg c7, if_neg c9, if_neg c8] at h; cases h
  have hx : x.q = (textT s (idT s (idT s 5 0).p 0).p 0).p := by
    unfold hdR at h
    rw [if_neg c1, if_neg c2, if_neg c3, if_neg c4, if_neg c5, if_neg c6, if_neg c7, if_neg c9, if_pos c8] at h
    rw [← Option.some.inj h]
  have g0 : (idT s (idT s 5 0).p 0).p ≤ x.q := by rw [hx]; exact textT_ge
  have r3 := text_pre s _ x.q hq.2 i2s c8.1 (Nat.le_of_eq hx.symm)
  obtain ⟨m1, m2, m3, m4⟩ := main g0
  have r3' := r3.1
  generalize s.extract 0 x.q = T at *
  unfold hdR
  rw [a0, m1, m2, m4, r3', if_neg (show ¬ T.size = 0 by omega), if_neg c2, if_neg c3, if_neg (show ¬ T.size < 5 by omega), if_neg c5, if_neg c6, if_neg c7, if_neg c9, if_pos c8]
  exact ⟨_, rfl, (by dsimp only; exact hx.symm)⟩
/-- texts put together -/
def joinB : List ByteArray → ByteArray
  | [] => ⟨#[]⟩
  | t :: L => t ++ joinB L
theorem ext_ext (s : ByteArray) (p j : Nat) (hj : p + j ≤ s.size) : (s.extract p s.size).extract 0 j = s.extract p (p + j) := by
  apply ByteArray.ext
  simp only [ByteArray.data_extract, Array.extract_extract, Nat.add_zero]
  congr 1
  have : s.data.size = s.size := rfl
  omega
theorem ext_join (s : ByteArray) (p q : Nat) (h : p ≤ q) (hq : q ≤ s.size) : s.extract p q ++ s.extract q s.size = s.extract p s.size := by
  apply ByteArray.ext
  rw [ByteArray.data_append, ByteArray.data_extract, ByteArray.data_extract, ByteArray.data_extract, Array.extract_append_extract]
  congr 1
  · omega
  · omega
theorem cut_back (s : ByteArray) (short : Nat) : ∀ (n p : Nat) (L : List ByteArray), cutF s short n p = some L → p ≤ s.size → s.size < p + n → (∀ t ∈ L, t.size ≤ s.size ∧ ∃ y, hdR t short = some y ∧ y.q = t.size) ∧ joinB L = s.extract p s.size
  | 0, p, L, h, hp, hn => absurd hn (by omega)
  | n + 1, p, L, h, hp, hn => by
    unfold cutF at h
    split at h
    · rename_i hlt
      split at h
      · cases h
      · rename_i x hx
        have hq := hdR_q hx
        rw [ByteArray.size_extract] at hq
        obtain ⟨M, hM, rfl⟩ := Option.map_eq_some_iff.1 h
        have ih := cut_back s short n (p + x.q) M hM (by omega) (by omega)
        obtain ⟨y, hy, hyq⟩ := hdR_pre _ _ _ hx
        rw [ext_ext s p x.q (by omega)] at hy
        refine ⟨fun t ht => ?_, ?_⟩
        · rcases List.mem_cons.1 ht with rfl | ht
          · refine ⟨by rw [ByteArray.size_extract]; omega, y, hy, ?_⟩
            rw [hyq, ByteArray.size_extract]
            omega
          · exact ih.1 t ht
        · show s.extract p (p + x.q) ++ joinB M = _
          rw [ih.2]
          exact ext_join s p (p + x.q) (by omega) (by omega)
    · cases h
      refine ⟨fun t ht => (by cases ht), ?_⟩
      have e : p = s.size := by omega
      subst e
      apply ByteArray.ext
      rw [ByteArray.data_extract]
      show #[] = _
      exact (Array.eq_empty_of_size_eq_zero (by simp)).symm
end Go.Proofs.Ytbabipaipbjlbaa
