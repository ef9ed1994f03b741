/-
  What a header's bytes tell, held against what the model reads: pure part.
-/
import Derived.Test.YtbabipaipbjlbaaHda
import Derived.Test.YtbabipaipbjlbaaLrj
import Derived.Test.YtbabipaipbjlbaaLrk
import Derived.Test.YtbabipaipbjlbaaGhs
namespace Go.Proofs.Ytbabipaipbjlbaa
open Go.ChangeShapes Go.WideShapes Go.ChangeAt Go.RowKit
set_option linter.unusedVariables false
set_option maxRecDepth 100000

/-- what was read is the header that the bytes tell; or there is none -/
def RP (s : ByteArray) (short : Nat) (f bi ve : Int) (d e t y : ByteArray) (n : Nat) (V : Nat → Int) (q : Nat) (c : Int) : Prop :=
  (c = 0 ∧ gh f bi ve d.size e.size t.size y.size n V = true ∧ hdR s short = some ⟨f, bi, ve, d, e, t, y, n, V, q⟩) ∨ (¬ (c = 0 ∧ gh f bi ve d.size e.size t.size y.size n V = true) ∧ hdR s short = none)
theorem rp_code {s : ByteArray} {short : Nat} {f bi ve : Int} {d e t y : ByteArray} {n : Nat} {V : Nat → Int} {q : Nat} {c : Int} (hc : c ≠ 0) (h : hdR s short = none) : RP s short f bi ve d e t y n V q c := Or.inr ⟨fun z => hc z.1, h⟩
theorem idT_code {s : ByteArray} {p : Nat} {c : Int} (h : c ≠ 0) : (idT s p c).c ≠ 0 := by
  unfold idT
  rw [takeT_code h]
  rw [show (if ((⟨⟨#[]⟩, p, c⟩ : T3).c = 0 ∧ 20 < idN s p c) then (3 : Int) else (⟨⟨#[]⟩, p, c⟩ : T3).c) = c from if_neg (fun z => h z.1), takeT_code h]
  exact h
theorem textT_code {s : ByteArray} {p : Nat} {c : Int} (h : c ≠ 0) : (textT s p c).c ≠ 0 := by
  unfold textT
  rw [show numC s p c = c by unfold numC; exact if_neg (fun z => h z.2), takeT_code h]
  exact h
theorem takeT_c0 {s : ByteArray} {p : Nat} {c n : Int} (h : (takeT s p c n).c = 0) : c = 0 := by
  unfold takeT at h
  by_cases e : c = 0
  · exact e
  · rw [if_pos e] at h; exact h
theorem idT_c0 {s : ByteArray} {p : Nat} {c : Int} (h : (idT s p c).c = 0) : c = 0 := by
  by_cases e : c = 0
  · exact e
  · exact absurd h (idT_code e)
theorem textT_c0 {s : ByteArray} {p : Nat} {c : Int} (h : (textT s p c).c = 0) : c = 0 := by
  by_cases e : c = 0
  · exact e
  · exact absurd h (textT_code e)
theorem takeT_tz {s : ByteArray} {p : Nat} {c n : Int} (h0 : 0 ≤ n) (hp : p ≤ s.size) : ((takeT s p c n).t.size : Int) ≤ n := by
  unfold takeT
  split
  · show ((0 : Nat) : Int) ≤ n; omega
  · split
    · show ((0 : Nat) : Int) ≤ n; omega
    · show (((s.extract _ _).size : Nat) : Int) ≤ n
      rw [ByteArray.size_extract]; omega
theorem idT_20 {s : ByteArray} {p : Nat} {c : Int} (hp : p ≤ s.size) (h : (idT s p c).c = 0) : (idT s p c).t.size ≤ 20 := by
  obtain rfl := idT_c0 h
  by_cases hl : p < s.size
  · rw [idT_in hl] at h ⊢
    have hb := at8_in s p
    by_cases h2 : 20 < at8 s p
    · rw [if_pos h2] at h
      exact absurd (takeT_c0 h) (by decide)
    · have := takeT_tz (s := s) (p := p + 1) (c := if 20 < at8 s p then 3 else 0) (n := at8 s p) hb.1 (by omega)
      omega
  · exact absurd h (idT_none (by omega))
theorem big_under : ∀ (l : List UInt8) (m : Int) (B : Nat), 0 ≤ m → m < B → B * 256 ^ l.length ≤ 4294967296 → 0 ≤ big m l ∧ big m l < 4294967296
  | [], m, B, h0, h1, hB => by
    rw [show big m [] = m from rfl]
    simp at hB
    omega
  | c :: r, m, B, h0, h1, hB => by
    have hc := c.toNat_lt
    have hp : 0 < 256 ^ (r.length + 1) := Nat.pow_pos (by omega)
    have hB2 : B ≤ B * 256 ^ (r.length + 1) := Nat.le_mul_of_pos_right _ hp
    rw [List.length_cons] at hB
    have e := st_in m c h0 (by omega)
    rw [show c :: r = [c] ++ r from rfl, show big m ([c] ++ r) = big (st m c) r from List.foldl_append ..]
    refine big_under r (st m c) (B * 256) (by rw [e]; omega) (by rw [e]; omega) ?_
    rw [Nat.mul_assoc, Nat.mul_comm 256, ← Nat.pow_succ]
    exact hB
theorem big_word (l : List UInt8) (hl : l.length ≤ 4) : 0 ≤ big 0 l ∧ big 0 l ≤ 4294967295 := by
  have h4 : 256 ^ l.length ≤ 256 ^ 4 := Nat.pow_le_pow_right (by omega) hl
  have h := big_under l 0 1 (by omega) (by omega) (by omega)
  omega
theorem len_bytes (s : ByteArray) : s.data.toList.length = s.size := by rw [Array.length_toList]; rfl
theorem w4_in (s : ByteArray) : 0 ≤ w4 s ∧ w4 s ≤ 4294967295 := big_word _ (by rw [len_bytes, ByteArray.size_extract]; omega)
theorem wdA_in (s : ByteArray) (p k : Nat) : 0 ≤ wdA s p k ∧ wdA s p k ≤ 4294967295 := big_word _ (by rw [len_bytes, ByteArray.size_extract]; omega)
theorem wdA_all (s : ByteArray) (p n : Nat) : allW 0 (wdA s p) n = true := allW_yes fun j _ => by
  have := wdA_in s p j
  unfold okW
  exact decide_eq_true ⟨this.1, this.2⟩
/-! how hdR goes, step by step -/
theorem hd_none {s : ByteArray} {short : Nat} (h : s.size = 0) : hdR s short = none := by unfold hdR; rw [if_pos h]
theorem hd_kind {s : ByteArray} {short : Nat} (h0 : 0 < s.size) (h : at8 s 0 / 64 % 2 = 0) : hdR s short = none := by unfold hdR; rw [if_neg (by omega), if_pos h]
theorem hd_short {s : ByteArray} {short : Nat} (h0 : 0 < s.size) (h1 : ¬ at8 s 0 / 64 % 2 = 0) (h2 : at8 s 0 < 128) :
    hdR s short = (if at8 s 0 < 80 ∧ 1 + short ≤ s.size ∧ s.size - (1 + short) ≤ 1200 then some ⟨5, at8 s 0 % 16, 0, s.extract 1 (1 + short), sE, sE, s.extract (1 + short) s.size, 0, fun _ => 0, s.size⟩ else none) := by
  unfold hdR; rw [if_neg (by omega), if_neg h1, if_pos h2]
theorem hd_cut {s : ByteArray} {short : Nat} (h0 : 0 < s.size) (h2 : ¬ at8 s 0 < 128) (h5 : s.size < 5) : hdR s short = none := by
  by_cases h1 : at8 s 0 / 64 % 2 = 0
  · exact hd_kind h0 h1
  · unfold hdR
    rw [if_neg (by omega), if_neg h1, if_neg h2, if_pos h5]
theorem v4_yes {s : ByteArray} (h5 : ¬ s.size < 5) : v4 s = ⟨s.extract 1 5, 5, 0⟩ := takeT_ok (n := 4) (by omega)
theorem v4_no {s : ByteArray} (h5 : s.size < 5) : (v4 s).c ≠ 0 := by
  unfold v4
  rw [takeT_short (by omega)]
  exact (by decide : (1 : Int) ≠ 0)
theorem i2_no {s : ByteArray} (h5 : s.size < 5) : (i2 s).c ≠ 0 := idT_code (idT_code (v4_no h5))
theorem i1_yes {s : ByteArray} (h5 : ¬ s.size < 5) : i1 s = idT s 5 0 := by unfold i1; rw [v4_yes h5]
theorem vN_yes {s : ByteArray} (h5 : ¬ s.size < 5) : vN s = w4 s := by unfold vN; rw [v4_yes h5]; rfl
theorem i2_ok {s : ByteArray} (h : (i2 s).c = 0) : (i1 s).c = 0 ∧ i2 s = idT s (i1 s).p 0 := by
  have e := idT_c0 h
  exact ⟨e, by unfold i2; rw [e]⟩
theorem hd_ids {s : ByteArray} {short : Nat} (h0 : 0 < s.size) (h2 : ¬ at8 s 0 < 128) (h : (i2 s).c ≠ 0) : hdR s short = none := by
  by_cases h5 : s.size < 5
  · exact hd_cut h0 h2 h5
  · by_cases h1 : at8 s 0 / 64 % 2 = 0
    · exact hd_kind h0 h1
    · unfold hdR
      rw [if_neg (by omega), if_neg h1, if_neg h2, if_neg h5, if_pos ?_]
      rintro ⟨a, b⟩
      apply h
      unfold i2
      rw [i1_yes h5, a]
      exact b
/-- a long header, its ids read -/
theorem hd_long {s : ByteArray} {short : Nat} (h0 : 0 < s.size) (h1 : ¬ at8 s 0 / 64 % 2 = 0) (h2 : ¬ at8 s 0 < 128) (h : (i2 s).c = 0) :
    hdR s short = (if vN s = 0 then
      (if at8 s 0 < 208 ∧ vD s (i2 s).p then some ⟨4, at8 s 0 % 16, 0, (i1 s).t, (i2 s).t, sE, sE, (s.size - (i2 s).p) / 4, wdA s (i2 s).p, s.size⟩ else none)
    else if at8 s 0 / 16 % 4 = 0 then
      (if ((textT s (i2 s).p 0).c = 0 ∧ (textT s (i2 s).p 0).t.size ≤ 200) ∧ ((textT s (textT s (i2 s).p 0).p 0).c = 0 ∧ 1 ≤ (textT s (textT s (i2 s).p 0).p 0).t.size ∧ (textT s (textT s (i2 s).p 0).p 0).t.size ≤ 1200)
        then some ⟨0, at8 s 0 % 16, vN s, (i1 s).t, (i2 s).t, (textT s (i2 s).p 0).t, (textT s (textT s (i2 s).p 0).p 0).t, 0, fun _ => 0, (textT s (textT s (i2 s).p 0).p 0).p⟩ else none)
    else if at8 s 0 / 16 % 4 = 3 then
      (if 1 ≤ s.size - (i2 s).p ∧ s.size - (i2 s).p ≤ 1200 then some ⟨3, at8 s 0 % 16, vN s, (i1 s).t, (i2 s).t, sE, s.extract (i2 s).p s.size, 0, fun _ => 0, s.size⟩ else none)
    else
      (if (textT s (i2 s).p 0).c = 0 ∧ 1 ≤ (textT s (i2 s).p 0).t.size ∧ (textT s (i2 s).p 0).t.size ≤ 1200 then some ⟨at8 s 0 / 16 % 4, at8 s 0 % 16, vN s, (i1 s).t, (i2 s).t, sE, (textT s (i2 s).p 0).t, 0, fun _ => 0, (textT s (i2 s).p 0).p⟩ else none)) := by
  have h5 : ¬ s.size < 5 := fun h5 => i2_no h5 h
  obtain ⟨a, b⟩ := i2_ok h
  rw [b, i1_yes h5, vN_yes h5]
  rw [b, i1_yes h5] at h
  rw [i1_yes h5] at a
  unfold hdR
  rw [if_neg (by omega), if_neg h1, if_neg h2, if_neg h5, if_neg (fun z => z ⟨a, h⟩)]
end Go.Proofs.Ytbabipaipbjlbaa
