/-
  What HeaderBytes writes reads back: the fields, and the id it goes to.
-/
import Derived.Test.YtmajcpimahkpfaaDoorNhw
import Derived.Test.YtmajcpimahkpfaaDoorVbk
import Derived.Test.YtmajcpimahkpfaaDoorHda
import Derived.Test.YtmajcpimahkpfaaDoorDsi
namespace Go.Proofs.YtmajcpimahkpfaaDoor
open Go.ChangeShapes Go.WideShapes Go.ChangeAt Go.RowKit
set_option linter.unusedVariables false

/-- bytes as a text -/
def bl (l : List UInt8) : ByteArray := ⟨l.toArray⟩
theorem bl_size (l : List UInt8) : (bl l).size = l.length := by simp [bl, ByteArray.size]
theorem bl_list (l : List UInt8) : (bl l).data.toList = l := rfl
theorem bl_data (s : ByteArray) : bl s.data.toList = s := rfl
theorem ext_mid (a m r : List UInt8) : (bl (a ++ (m ++ r))).extract a.length (a.length + m.length) = bl m := by
  apply ByteArray.ext
  rw [ByteArray.data_extract]
  apply Array.toList_inj.1
  rw [Array.toList_extract]
  show List.extract (a ++ (m ++ r)) _ _ = m
  simp [List.extract_eq_take_drop]
theorem ext_end (a r : List UInt8) : (bl (a ++ r)).extract a.length (bl (a ++ r)).size = bl r := by
  have h := ext_mid a r []
  rw [List.append_nil] at h
  rw [bl_size, List.length_append]
  exact h
theorem fx_one (x : Int) : fx x 1 1 = [bt x 0] := by simp [fx, List.range_succ]
theorem at_first (x : Int) (h0 : 0 ≤ x) (h1 : x ≤ 255) (r : List UInt8) : at8 (bl (fx x 1 1 ++ r)) 0 = x := by
  rw [fx_one]
  unfold at8
  rw [dif_pos (by rw [bl_size]; simp)]
  have c0 := bt_toNat x 0
  simp only [Nat.mul_zero, Int.pow_zero, Int.ediv_one] at c0
  show ((bt x 0).toNat : Int) = x
  omega
theorem at_mid (x : Int) (h0 : 0 ≤ x) (h1 : x ≤ 255) (a r : List UInt8) : at8 (bl (a ++ (fx x 1 1 ++ r))) a.length = x := by
  rw [fx_one]
  unfold at8
  rw [dif_pos (by rw [bl_size]; simp)]
  have c0 := bt_toNat x 0
  simp only [Nat.mul_zero, Int.pow_zero, Int.ediv_one] at c0
  have e : (bl (a ++ ([bt x 0] ++ r)))[a.length]'(by rw [bl_size]; simp) = bt x 0 := by
    show (a ++ ([bt x 0] ++ r)).toArray[a.length]'_ = _
    simp
  rw [e]
  omega
theorem take_back (a m r : List UInt8) : takeT (bl (a ++ (m ++ r))) a.length 0 m.length = ⟨bl m, a.length + m.length, 0⟩ := by
  rw [takeT_ok (by rw [bl_size]; simp), ext_mid]
theorem id_back (a r : List UInt8) (d : ByteArray) (hd : d.size ≤ 20) : idT (bl (a ++ (fx (d.size : Int) 1 1 ++ (d.data.toList ++ r)))) a.length 0 = ⟨d, a.length + 1 + d.size, 0⟩ := by
  have hl : d.data.toList.length = d.size := by simp
  have h1 := take_back a (fx (d.size : Int) 1 1) (d.data.toList ++ r)
  rw [fx_length] at h1
  have h2 : idN (bl (a ++ (fx (d.size : Int) 1 1 ++ (d.data.toList ++ r)))) a.length 0 = d.size := by
    unfold idN
    rw [show ((1 : Int)) = ((1 : Nat) : Int) from rfl, h1]
    exact big_fx1 _ (by omega) (by omega)
  unfold idT
  rw [show ((1 : Int)) = ((1 : Nat) : Int) from rfl, h1, h2]
  simp only
  rw [if_neg (by omega)]
  have h3 := take_back (a ++ fx (d.size : Int) 1 1) d.data.toList r
  rw [List.length_append, fx_length, hl, List.append_assoc, bl_data] at h3
  exact h3
theorem text_back (a v r : List UInt8) (t : ByteArray) (hv : 0 < v.length) (h : ∀ q, tk (v ++ q) = ((t.size : Int), v.length)) : textT (bl (a ++ (v ++ (t.data.toList ++ r)))) a.length 0 = ⟨t, a.length + v.length + t.size, 0⟩ := by
  have hl : t.data.toList.length = t.size := by simp
  have h1 : nm (bl (a ++ (v ++ (t.data.toList ++ r)))) a.length = ((t.size : Int), v.length) := by
    unfold nm
    rw [ext_end, bl_list, h]
  unfold textT numC
  rw [h1]
  simp only
  rw [if_neg (by omega)]
  have h3 := take_back (a ++ v) t.data.toList r
  rw [List.length_append, hl, List.append_assoc, bl_data] at h3
  exact h3
theorem w4_back (x ve : Int) (r : List UInt8) (h0 : 0 ≤ ve) (h1 : ve ≤ 4294967295) : w4 (bl (fx x 1 1 ++ (fx ve 4 4 ++ r))) = ve := by
  have h := ext_mid (fx x 1 1) (fx ve 4 4) r
  rw [fx_length, fx_length] at h
  unfold w4
  rw [h, bl_list]
  exact big_fx4 ve h0 h1
theorem wds_split (V : Nat → Int) (k : Nat) : ∀ n, k < n → ∃ r, wds V n = wds V k ++ (fx (V k) 4 4 ++ r)
  | 0, h => absurd h (Nat.not_lt_zero k)
  | n + 1, h => by
    by_cases e : k = n
    · subst e
      exact ⟨[], by simp [wds]⟩
    · obtain ⟨r, hr⟩ := wds_split V k n (by omega)
      exact ⟨r ++ fx (V n) 4 4, by rw [wds, hr]; simp [List.append_assoc]⟩
theorem wdA_back (a : List UInt8) (V : Nat → Int) (n k : Nat) (hk : k < n) (h0 : 0 ≤ V k) (h1 : V k ≤ 4294967295) : wdA (bl (a ++ wds V n)) a.length k = V k := by
  obtain ⟨r, hr⟩ := wds_split V k n hk
  have h := ext_mid (a ++ wds V k) (fx (V k) 4 4) r
  rw [List.length_append, wds_length, fx_length, List.append_assoc, ← hr] at h
  unfold wdA
  rw [h, bl_list]
  exact big_fx4 _ h0 h1
/-- what stands ahead of a long header's rest -/
def aL (x ve : Int) (d s : ByteArray) : List UInt8 := fx x 1 1 ++ AD ve d s
theorem aL_length (x ve : Int) (d s : ByteArray) : (aL x ve d s).length = 7 + d.size + s.size := by
  unfold aL
  rw [List.length_append, fx_length, AD_length]
  omega
/-- a long header's front reads back -/
theorem long_back (x ve : Int) (d s : ByteArray) (R : List UInt8) (hx0 : 0 ≤ x) (hx1 : x ≤ 255) (v0 : 0 ≤ ve) (v1 : ve ≤ 4294967295) (hd : d.size ≤ 20) (hs : s.size ≤ 20) :
    at8 (bl (aL x ve d s ++ R)) 0 = x ∧ w4 (bl (aL x ve d s ++ R)) = ve ∧ idT (bl (aL x ve d s ++ R)) 5 0 = ⟨d, 6 + d.size, 0⟩ ∧ idT (bl (aL x ve d s ++ R)) (6 + d.size) 0 = ⟨s, 7 + d.size + s.size, 0⟩ ∧ (bl (aL x ve d s ++ R)).size = 7 + d.size + s.size + R.length ∧ at8 (bl (aL x ve d s ++ R)) 5 = d.size ∧ (bl (aL x ve d s ++ R)).extract 6 (6 + d.size) = d := by
  have hl : d.data.toList.length = d.size := by simp
  have e1 : aL x ve d s ++ R = fx x 1 1 ++ (fx ve 4 4 ++ (fx (d.size : Int) 1 1 ++ (d.data.toList ++ (fx (s.size : Int) 1 1 ++ (s.data.toList ++ R))))) := by simp [aL, AD, List.append_assoc]
  have e2 : aL x ve d s ++ R = (fx x 1 1 ++ fx ve 4 4) ++ (fx (d.size : Int) 1 1 ++ (d.data.toList ++ (fx (s.size : Int) 1 1 ++ (s.data.toList ++ R)))) := by rw [e1]; simp [List.append_assoc]
  have e3 : aL x ve d s ++ R = (fx x 1 1 ++ fx ve 4 4 ++ fx (d.size : Int) 1 1 ++ d.data.toList) ++ (fx (s.size : Int) 1 1 ++ (s.data.toList ++ R)) := by rw [e1]; simp [List.append_assoc]
  have e4 : aL x ve d s ++ R = (fx x 1 1 ++ fx ve 4 4 ++ fx (d.size : Int) 1 1) ++ (d.data.toList ++ (fx (s.size : Int) 1 1 ++ (s.data.toList ++ R))) := by rw [e1]; simp [List.append_assoc]
  refine ⟨?_, ?_, ?_, ?_, ?_, ?_, ?_⟩
  · rw [e1]; exact at_first x hx0 hx1 _
  · rw [e1]; exact w4_back x ve _ v0 v1
  · have h := id_back (fx x 1 1 ++ fx ve 4 4) (fx (s.size : Int) 1 1 ++ (s.data.toList ++ R)) d hd
    rw [List.length_append, fx_length, fx_length] at h
    rw [e2]
    exact h
  · have h := id_back (fx x 1 1 ++ fx ve 4 4 ++ fx (d.size : Int) 1 1 ++ d.data.toList) R s hs
    rw [List.length_append, List.length_append, List.length_append, fx_length, fx_length, fx_length, hl] at h
    rw [e3]
    rw [show 1 + 4 + 1 + d.size = 6 + d.size by omega] at h
    rw [h, show 6 + d.size + 1 + s.size = 7 + d.size + s.size by omega]
  · rw [bl_size, List.length_append, aL_length]
  · have h := at_mid (d.size : Int) (by omega) (by omega) (fx x 1 1 ++ fx ve 4 4) (d.data.toList ++ (fx (s.size : Int) 1 1 ++ (s.data.toList ++ R)))
    rw [List.length_append, fx_length, fx_length] at h
    rw [e2]
    exact h
  · have h := ext_mid (fx x 1 1 ++ fx ve 4 4 ++ fx (d.size : Int) 1 1) d.data.toList (fx (s.size : Int) 1 1 ++ (s.data.toList ++ R))
    rw [List.length_append, List.length_append, fx_length, fx_length, fx_length, hl, bl_data] at h
    rw [e4]
    exact h
theorem dR_long (x ve : Int) (d s : ByteArray) (R : List UInt8) (short : Nat) (hx0 : 128 ≤ x) (hx1 : x ≤ 255) (v0 : 0 ≤ ve) (v1 : ve ≤ 4294967295) (hd : d.size ≤ 20) (hs : s.size ≤ 20) :
    dR (bl (aL x ve d s ++ R)) short = some (d, true) := by
  obtain ⟨b0, _, _, _, bz, b5, be⟩ := long_back x ve d s R (by omega) hx1 v0 v1 hd hs
  unfold dR
  rw [b0, b5, if_neg (by omega), if_neg (by omega), if_neg (by omega), Int.toNat_natCast, be]
theorem bl_app (a r : List UInt8) (s : ByteArray) : bl (a ++ (r ++ s.data.toList)) = bl (a ++ (r ++ (s.data.toList ++ []))) := by rw [List.append_nil]
/-- Initial -/
theorem back_0 (bi ve : Int) (d s t p : ByteArray) (short : Nat) (b0 : 0 ≤ bi) (b1 : bi ≤ 15) (v0 : 1 ≤ ve) (v1 : ve ≤ 4294967295) (hd : d.size ≤ 20) (hs : s.size ≤ 20) (ht : t.size ≤ 200) (hp0 : 1 ≤ p.size) (hp : p.size ≤ 1200) :
    hdR (bl (aL (192 + bi) ve d s ++ (vb t.size ++ (t.data.toList ++ (fx ((p.size : Int) + 16384) 2 2 ++ p.data.toList))))) short = some ⟨0, bi, ve, d, s, t, p, 0, fun _ => 0, (bl (aL (192 + bi) ve d s ++ (vb t.size ++ (t.data.toList ++ (fx ((p.size : Int) + 16384) 2 2 ++ p.data.toList))))).size⟩ := by
  have ht' : t.data.toList.length = t.size := by simp
  have hp' : p.data.toList.length = p.size := by simp
  obtain ⟨c0, c4, i1, i2, cz, _, _⟩ := long_back (192 + bi) ve d s (vb t.size ++ (t.data.toList ++ (fx ((p.size : Int) + 16384) 2 2 ++ p.data.toList))) (by omega) (by omega) (by omega) v1 hd hs
  have t1 := text_back (aL (192 + bi) ve d s) (vb t.size) (fx ((p.size : Int) + 16384) 2 2 ++ p.data.toList) t (by rw [vb_length]; rcases vsz_cases (t.size : Int) with ⟨_, e⟩ | ⟨_, _, e⟩ | ⟨_, _, e⟩ | ⟨_, e⟩ <;> omega) (fun q => by rw [vb_length]; exact vb_small _ (by omega) (by omega) q)
  have t2 := text_back (aL (192 + bi) ve d s ++ (vb t.size ++ t.data.toList)) (fx ((p.size : Int) + 16384) 2 2) [] p (by rw [fx_length]; omega) (fun q => by rw [fx_length]; exact tk_two _ (by omega) (by omega) q)
  have e2 : aL (192 + bi) ve d s ++ (vb t.size ++ t.data.toList) ++ (fx ((p.size : Int) + 16384) 2 2 ++ (p.data.toList ++ [])) = aL (192 + bi) ve d s ++ (vb t.size ++ (t.data.toList ++ (fx ((p.size : Int) + 16384) 2 2 ++ p.data.toList))) := by simp [List.append_assoc]
  rw [e2] at t2
  have l2 : (aL (192 + bi) ve d s ++ (vb t.size ++ t.data.toList)).length = (aL (192 + bi) ve d s).length + (vb t.size).length + t.size := by rw [List.length_append, List.length_append, ht']; omega
  have lz : (vb t.size ++ (t.data.toList ++ (fx ((p.size : Int) + 16384) 2 2 ++ p.data.toList))).length = (vb t.size).length + t.size + 2 + p.size := by simp only [List.length_append, fx_length, ht', hp']; omega
  rw [l2, fx_length, aL_length] at t2
  rw [aL_length] at t1
  rw [lz] at cz
  generalize bl (aL (192 + bi) ve d s ++ (vb t.size ++ (t.data.toList ++ (fx ((p.size : Int) + 16384) 2 2 ++ p.data.toList)))) = B at *
  unfold hdR
  rw [c0, if_neg (by omega), if_neg (by omega), if_neg (by omega), if_neg (by omega), i1, if_neg (by simp [i2]), c4, if_neg (by omega), if_pos (by omega)]
  simp only
  rw [i2]
  simp only
  rw [t1]
  simp only
  rw [t2]
  simp only
  rw [if_pos ⟨⟨trivial, ht⟩, trivial, hp0, hp⟩, show (192 + bi) % 16 = bi by omega, cz, show 7 + d.size + s.size + (vb ↑t.size).length + t.size + 2 + p.size = 7 + d.size + s.size + ((vb ↑t.size).length + t.size + 2 + p.size) by omega]
/-- 0-RTT, Handshake -/
theorem back_12 (k : Int) (hk : k = 1 ∨ k = 2) (bi ve : Int) (d s p : ByteArray) (short : Nat) (b0 : 0 ≤ bi) (b1 : bi ≤ 15) (v0 : 1 ≤ ve) (v1 : ve ≤ 4294967295) (hd : d.size ≤ 20) (hs : s.size ≤ 20) (hp0 : 1 ≤ p.size) (hp : p.size ≤ 1200) :
    hdR (bl (aL (192 + 16 * k + bi) ve d s ++ (fx ((p.size : Int) + 16384) 2 2 ++ p.data.toList))) short = some ⟨k, bi, ve, d, s, sE, p, 0, fun _ => 0, (bl (aL (192 + 16 * k + bi) ve d s ++ (fx ((p.size : Int) + 16384) 2 2 ++ p.data.toList))).size⟩ := by
  have hp' : p.data.toList.length = p.size := by simp
  obtain ⟨c0, c4, i1, i2, cz, _, _⟩ := long_back (192 + 16 * k + bi) ve d s (fx ((p.size : Int) + 16384) 2 2 ++ p.data.toList) (by omega) (by omega) (by omega) v1 hd hs
  have t1 := text_back (aL (192 + 16 * k + bi) ve d s) (fx ((p.size : Int) + 16384) 2 2) [] p (by rw [fx_length]; omega) (fun q => by rw [fx_length]; exact tk_two _ (by omega) (by omega) q)
  rw [List.append_nil, fx_length, aL_length] at t1
  rw [List.length_append, fx_length, hp'] at cz
  generalize bl (aL (192 + 16 * k + bi) ve d s ++ (fx ((p.size : Int) + 16384) 2 2 ++ p.data.toList)) = B at *
  unfold hdR
  rw [c0, if_neg (by omega), if_neg (by omega), if_neg (by omega), if_neg (by omega), i1, if_neg (by simp [i2]), c4, if_neg (by omega), if_neg (by omega), if_neg (by omega)]
  simp only
  rw [i2]
  simp only
  rw [t1]
  simp only
  rw [if_pos ⟨trivial, hp0, hp⟩, show (192 + 16 * k + bi) % 16 = bi by omega, show (192 + 16 * k + bi) / 16 % 4 = k by omega, cz, show 7 + d.size + s.size + 2 + p.size = 7 + d.size + s.size + (2 + p.size) by omega]
/-- Retry -/
theorem back_3 (bi ve : Int) (d s p : ByteArray) (short : Nat) (b0 : 0 ≤ bi) (b1 : bi ≤ 15) (v0 : 1 ≤ ve) (v1 : ve ≤ 4294967295) (hd : d.size ≤ 20) (hs : s.size ≤ 20) (hp0 : 1 ≤ p.size) (hp : p.size ≤ 1200) :
    hdR (bl (aL (240 + bi) ve d s ++ p.data.toList)) short = some ⟨3, bi, ve, d, s, sE, p, 0, fun _ => 0, (bl (aL (240 + bi) ve d s ++ p.data.toList)).size⟩ := by
  have hp' : p.data.toList.length = p.size := by simp
  obtain ⟨c0, c4, i1, i2, cz, _, _⟩ := long_back (240 + bi) ve d s p.data.toList (by omega) (by omega) (by omega) v1 hd hs
  have t1 := ext_end (aL (240 + bi) ve d s) p.data.toList
  rw [aL_length, bl_data] at t1
  rw [hp'] at cz
  generalize bl (aL (240 + bi) ve d s ++ p.data.toList) = B at *
  unfold hdR
  rw [c0, if_neg (by omega), if_neg (by omega), if_neg (by omega), if_neg (by omega), i1, if_neg (by simp [i2]), c4, if_neg (by omega), if_neg (by omega), if_pos (by omega)]
  simp only
  rw [i2]
  simp only
  rw [t1, if_pos (by omega), show (240 + bi) % 16 = bi by omega]
/-- versions -/
theorem back_4 (bi : Int) (d s : ByteArray) (short n : Nat) (V : Nat → Int) (b0 : 0 ≤ bi) (b1 : bi ≤ 15) (hd : d.size ≤ 20) (hs : s.size ≤ 20) (n0 : 1 ≤ n) (n1 : n ≤ 20) :
    hdR (bl (aL (192 + bi) 0 d s ++ wds V n)) short = some ⟨4, bi, 0, d, s, sE, sE, n, wdA (bl (aL (192 + bi) 0 d s ++ wds V n)) (7 + d.size + s.size), (bl (aL (192 + bi) 0 d s ++ wds V n)).size⟩ := by
  obtain ⟨c0, c4, i1, i2, cz, _, _⟩ := long_back (192 + bi) 0 d s (wds V n) (by omega) (by omega) (by omega) (by omega) hd hs
  rw [wds_length] at cz
  generalize bl (aL (192 + bi) 0 d s ++ wds V n) = B at *
  unfold hdR
  rw [c0, if_neg (by omega), if_neg (by omega), if_neg (by omega), if_neg (by omega), i1, if_neg (by simp [i2]), c4, if_pos rfl]
  simp only
  rw [i2]
  simp only
  rw [if_pos ⟨by omega, by unfold vD; omega⟩, show (192 + bi) % 16 = bi by omega, show (B.size - (7 + d.size + s.size)) / 4 = n by omega]
/-- a short header -/
theorem back_5 (bi : Int) (d p : ByteArray) (b0 : 0 ≤ bi) (b1 : bi ≤ 15) (hp : p.size ≤ 1200) :
    hdR (bl (fx (64 + bi) 1 1 ++ (d.data.toList ++ p.data.toList))) d.size = some ⟨5, bi, 0, d, sE, sE, p, 0, fun _ => 0, (bl (fx (64 + bi) 1 1 ++ (d.data.toList ++ p.data.toList))).size⟩ ∧
    dR (bl (fx (64 + bi) 1 1 ++ (d.data.toList ++ p.data.toList))) d.size = some (d, false) := by
  have hd' : d.data.toList.length = d.size := by simp
  have hp' : p.data.toList.length = p.size := by simp
  have c0 := at_first (64 + bi) (by omega) (by omega) (d.data.toList ++ p.data.toList)
  have c1 := ext_mid (fx (64 + bi) 1 1) d.data.toList p.data.toList
  have c2 := ext_end (fx (64 + bi) 1 1 ++ d.data.toList) p.data.toList
  have cz := bl_size (fx (64 + bi) 1 1 ++ (d.data.toList ++ p.data.toList))
  rw [fx_length, hd', bl_data] at c1
  rw [List.append_assoc, List.length_append, fx_length, hd', bl_data] at c2
  rw [List.length_append, List.length_append, fx_length, hd', hp'] at cz
  generalize bl (fx (64 + bi) 1 1 ++ (d.data.toList ++ p.data.toList)) = B at *
  constructor
  · unfold hdR
    rw [c0, if_neg (by omega), if_neg (by omega), if_pos (by omega), if_pos ⟨by omega, by omega, by omega⟩, c1, c2, show (64 + bi) % 16 = bi by omega]
  · unfold dR
    rw [c0, if_neg (by omega), if_pos (by omega), if_neg (by omega), c1]
theorem sE_of {t : ByteArray} (h : t.size = 0) : t = sE := by
  have : t.data.toList = [] := by rw [← List.length_eq_zero_iff]; simpa using h
  calc t = bl t.data.toList := rfl
    _ = sE := by rw [this]; rfl
/-- what HeaderBytes writes of a good header reads back -/
theorem hb_back (f bi ve : Int) (d s t p : ByteArray) (n : Nat) (V : Nat → Int) (h : gh f bi ve d.size s.size t.size p.size n V = true) :
    ∃ V' : Nat → Int, (∀ i, i < n → V' i = V i) ∧ hdR (HBW f bi ve d s t p n V) d.size = some ⟨f, bi, ve, d, s, t, p, n, V', (HBW f bi ve d s t p n V).size⟩ ∧ dR (HBW f bi ve d s t p n V) d.size = some (d, decide (f ≠ 5)) ∧ d.size ≤ 20 ∧ (HBW f bi ve d s t p n V).size ≤ 1048576 := by
  obtain ⟨d2, s2, b0, b1, hg⟩ := of_decide_eq_true h
  obtain ⟨p2, t2, t0, n0, k⟩ := gpB_lim hg
  have ht' : t.data.toList.length = t.size := by simp
  have hp' : p.data.toList.length = p.size := by simp
  have hd' : d.data.toList.length = d.size := by simp
  rcases k with rfl | rfl | rfl | rfl | rfl | rfl
  · rw [gpB_0] at hg
    have hq := of_decide_eq_true hg
    have hy := of_decide_eq_true hq.2.1
    obtain rfl : n = 0 := n0 (by omega)
    have e : HBW 0 bi ve d s t p 0 V = bl (aL (192 + bi) ve d s ++ (vb t.size ++ (t.data.toList ++ (fx ((p.size : Int) + 16384) 2 2 ++ p.data.toList)))) := by
      unfold HBW HBL bl aL; rw [if_pos rfl, List.append_assoc]
    rw [e]
    refine ⟨fun _ => 0, fun i hi => absurd hi (Nat.not_lt_zero i), back_0 bi ve d s t p d.size b0 b1 hy.1 hy.2 d2 s2 t2 hq.2.2.2.1 p2, ?_, d2, ?_⟩
    · exact dR_long _ _ _ _ _ _ (by omega) (by omega) (by omega) hy.2 d2 s2
    · rw [bl_size]
      have := VB_le (t.size : Int)
      simp only [List.length_append, aL_length, fx_length, ht', hp', vb_length]
      have h8 : vsz (t.size : Int) ≤ 8 := by rcases vsz_cases (t.size : Int) with ⟨_, e⟩ | ⟨_, _, e⟩ | ⟨_, _, e⟩ | ⟨_, e⟩ <;> omega
      omega
  · rw [gpB_1] at hg
    have hq := of_decide_eq_true hg
    have hy := of_decide_eq_true hq.2.1
    obtain rfl : n = 0 := n0 (by omega)
    obtain rfl := sE_of hq.2.2.1
    have e : HBW 1 bi ve d s sE p 0 V = bl (aL (192 + 16 * 1 + bi) ve d s ++ (fx ((p.size : Int) + 16384) 2 2 ++ p.data.toList)) := by
      unfold HBW HBL bl aL; rw [if_neg (by decide), if_pos rfl, List.append_assoc]; rfl
    rw [e]
    refine ⟨fun _ => 0, fun i hi => absurd hi (Nat.not_lt_zero i), back_12 1 (Or.inl rfl) bi ve d s p d.size b0 b1 hy.1 hy.2 d2 s2 hq.2.2.2.1 p2, ?_, d2, ?_⟩
    · exact dR_long _ _ _ _ _ _ (by omega) (by omega) (by omega) hy.2 d2 s2
    · rw [bl_size]
      simp only [List.length_append, aL_length, fx_length, hp']
      omega
  · rw [gpB_2] at hg
    have hq := of_decide_eq_true hg
    have hy := of_decide_eq_true hq.2.1
    obtain rfl : n = 0 := n0 (by omega)
    obtain rfl := sE_of hq.2.2.1
    have e : HBW 2 bi ve d s sE p 0 V = bl (aL (192 + 16 * 2 + bi) ve d s ++ (fx ((p.size : Int) + 16384) 2 2 ++ p.data.toList)) := by
      unfold HBW HBL bl aL; rw [if_neg (by decide), if_neg (by decide), if_pos rfl, List.append_assoc]; rfl
    rw [e]
    refine ⟨fun _ => 0, fun i hi => absurd hi (Nat.not_lt_zero i), back_12 2 (Or.inr rfl) bi ve d s p d.size b0 b1 hy.1 hy.2 d2 s2 hq.2.2.2.1 p2, ?_, d2, ?_⟩
    · exact dR_long _ _ _ _ _ _ (by omega) (by omega) (by omega) hy.2 d2 s2
    · rw [bl_size]
      simp only [List.length_append, aL_length, fx_length, hp']
      omega
  · rw [gpB_3] at hg
    have hq := of_decide_eq_true hg
    have hy := of_decide_eq_true hq.2.1
    obtain rfl : n = 0 := n0 (by omega)
    obtain rfl := sE_of hq.2.2.1
    have e : HBW 3 bi ve d s sE p 0 V = bl (aL (240 + bi) ve d s ++ p.data.toList) := by
      unfold HBW HBL bl aL; rw [if_neg (by decide), if_neg (by decide), if_neg (by decide), if_pos rfl, List.append_assoc]
    rw [e]
    refine ⟨fun _ => 0, fun i hi => absurd hi (Nat.not_lt_zero i), back_3 bi ve d s p d.size b0 b1 hy.1 hy.2 d2 s2 hq.2.2.2.1 p2, ?_, d2, ?_⟩
    · exact dR_long _ _ _ _ _ _ (by omega) (by omega) (by omega) hy.2 d2 s2
    · rw [bl_size]
      simp only [List.length_append, aL_length, hp']
      omega
  · rw [gpB_4] at hg
    have hq := of_decide_eq_true hg
    obtain rfl : ve = 0 := hq.2.1
    have hy := of_decide_eq_true hq.2.2.2.2
    obtain rfl := sE_of hq.2.2.1
    obtain rfl := sE_of hq.2.2.2.1
    have hN : ∀ i, i < n → 0 ≤ V i ∧ V i ≤ 4294967295 := fun i hi => of_decide_eq_true (List.all_eq_true.1 hy.2.2 i (List.mem_range.2 hi))
    have e : HBW 4 bi 0 d s sE sE n V = bl (aL (192 + bi) 0 d s ++ wds V n) := by
      unfold HBW HBL bl aL; rw [if_neg (by decide), if_neg (by decide), if_neg (by decide), if_neg (by decide), if_pos rfl, List.append_assoc]
    rw [e]
    refine ⟨_, fun i hi => ?_, back_4 bi d s d.size n V b0 b1 d2 s2 hy.1 hy.2.1, ?_, d2, ?_⟩
    · have := wdA_back (aL (192 + bi) 0 d s) V n i hi (hN i hi).1 (hN i hi).2
      rw [aL_length] at this
      exact this
    · exact dR_long _ _ _ _ _ _ (by omega) (by omega) (by omega) (by omega) d2 s2
    · rw [bl_size]
      simp only [List.length_append, aL_length, wds_length]
      omega
  · rw [gpB_5] at hg
    have hq := of_decide_eq_true hg
    obtain rfl : ve = 0 := hq.2.1
    obtain rfl : n = 0 := n0 (by omega)
    obtain rfl := sE_of hq.2.2.1
    obtain rfl := sE_of hq.2.2.2.1
    have e : HBW 5 bi 0 d sE sE p 0 V = bl (fx (64 + bi) 1 1 ++ (d.data.toList ++ p.data.toList)) := by
      unfold HBW HBL bl; rw [if_neg (by decide), if_neg (by decide), if_neg (by decide), if_neg (by decide), if_neg (by decide)]
    rw [e]
    obtain ⟨q1, q2⟩ := back_5 bi d p b0 b1 p2
    refine ⟨fun _ => 0, fun i hi => absurd hi (Nat.not_lt_zero i), q1, q2, d2, ?_⟩
    rw [bl_size]
    simp only [List.length_append, fx_length, hd', hp']
    omega
end Go.Proofs.YtmajcpimahkpfaaDoor
