/-
  Contracts: a frame's bytes, as the program puts them behind: the other kinds.
-/
import Derived.Test.YtcnpbcigndcheaaDoorApf
namespace Go.Proofs.YtcnpbcigndcheaaDoor
open Go.ChangeShapes Go.WideShapes Go.ChangeAt Go.RowKit
set_option linter.unusedVariables false
theorem ow_text {base : Nat} {w w' : World} {v v' : Value} {xs : List UInt8} {s : ByteArray} (h : Ow base w v xs) {m : Nat} (ho : w'.ownsRow base 5 1 v' m (bs xs ++ Lib.strCells s)) (hm : m = xs.length + s.size) : Ow base w' v' (xs ++ s.data.toList) := by
  subst hm
  unfold Ow
  rw [strCells_bs, ← bs_append] at ho
  have e : xs.length + s.size = (xs ++ s.data.toList).length := by simp [List.length_append]
  rw [e] at ho
  exact ho
theorem rr_below {w w' : World} {b off n base : Nat} {F T : Nat → Int} (h : Rr w b off n F T) (hb : Below base w w') (hg : b < base) : Rr w' b off n F T := by
  refine ⟨?_, fun i hi => (hb.cell (p := ⟨b, off + i * 2, none⟩) hg).trans (h.cf i hi), fun i hi => (hb.cell (p := ⟨b, off + i * 2 + 1, none⟩) hg).trans (h.ct i hi), h.bf, h.bt⟩
  rcases h.lt with h1 | h1
  · exact Or.inl h1
  · exact Or.inr (Nat.lt_of_lt_of_le h1 hb.size)

set_option maxRecDepth 100000 in
set_option maxHeartbeats 2000000 in
theorem appendFrame_6 (v : Value) (xs : List UInt8) (a : Int) (s : ByteArray) (g off n cap : Nat) (w : World) (base : Nat) (h : Ow base w v xs) (hbase : base ≤ w.heap.size) (htz : Tz w) (hg1 : 1 < base) (hlen : xs.length ≤ 900000) (hs : s.size ≤ 1000) (ha0 : 0 ≤ a) (ha1 : a ≤ 4611686018427387903) :
    Calls Tryd.prog 14 #[v, fv 6 a 0 0 false s g off n cap] w fun e w' => ∃ v', e = .returned v' ∧ Ow base w' v' (xs ++ (vb 6 ++ (vb a ++ (vb s.size ++ s.data.toList)))) ∧ Below base w w' := by
  have hlk := vb_le 6
  have hl0 := vb_le a
  have A1 : Below w.heap.size w (w.alloc (.cells #[.int .i64 6, .int .i64 a, .int .i64 0, .int .i64 0, .bool false, .string s, .slice (some ⟨g, off, none⟩) n cap] 36)) := (Below.refl _ _).alloc (Nat.le_refl _) _
  have F1 : Fb w.heap.size 6 a 0 0 false s g off n cap (w.alloc (.cells #[.int .i64 6, .int .i64 a, .int .i64 0, .int .i64 0, .bool false, .string s, .slice (some ⟨g, off, none⟩) n cap] 36)) := heap_new w _
  have O1 : Ow base (w.alloc (.cells #[.int .i64 6, .int .i64 a, .int .i64 0, .int .i64 0, .bool false, .string s, .slice (some ⟨g, off, none⟩) n cap] 36)) v xs := h.alloc _
  have HT := hide htz
  have HF := hide F1
  have HO := hide O1
  have HA := hide A1
  clear A1 F1 O1 h htz
  go_enter Tryd.func14, Tryd.ntmps14
  go_wp2_with fail
  refine (toldKind_any 6 a 0 0 6 false s g off n cap _ (Or.inr (Or.inr (Or.inr (Or.inr (Or.inr ⟨by decide, by decide, rfl⟩)))))).mono ?_
  rintro e w1 ⟨rfl, hb1⟩
  have FA : Fb w.heap.size 6 a 0 0 false s g off n cap w1 := (hb1.block w.heap.size (by simp)).trans (unhide HF)
  have OA : Ow base w1 v xs := (unhide HO).later hb1
  have BA : Below base w w1 := ((unhide HA).trans (hb1.mono (unhide HA).size)).mono hbase
  have HV := hide (appendVarint_ow v xs 6 w1 base OA (Nat.le_trans hbase BA.size) ((unhide HT).kept BA hg1) hg1 (by omega) (by omega) (by omega))
  clear hb1
  go_wp2_with fail
  refine (unhide HV).mono ?_
  rintro e w2 ⟨v2, rfl, o2, g2⟩
  have F2 := g2.keep FA (OA.far FA (by decide))
  have B2 : Below base w w2 := BA.trans (g2.below OA (Nat.le_trans hbase BA.size))
  have T2 := (unhide HT).kept B2 hg1
  have hb2 := Nat.le_trans hbase B2.size
  clear FA OA BA HV g2
  have HF2 := hide F2
  have HO2 := hide o2
  have HT2 := hide T2
  clear T2 o2
  obtain ⟨c0, c1, c2, c3, c4, c5, c6, c7⟩ := sf_mk F2
  clear F2
  go_wp2_with fail
  go_region_held3 (fun W => Sf w.heap.size 6 a 0 0 false s g off n cap W) (first | assumption | exact sf_mk F4 | exact sf_mk F3 | exact sf_alloc _ (by assumption) | exact sf_mk (unhide HF2)) (first | (go_at_call 31; refine (nums1 v2 _ a _ w2.drew base (unhide HO2) hb2 (unhide HT2).drew hg1 (by rw [List.length_append]; omega) rfl ⟨ha0, ha1⟩).mono ?_; rintro e w3 ⟨v3, rfl, o3, g3⟩; have F3 := g3.keep (fb_drew (unhide HF2)) (Ow.far (unhide HO2) (unhide HF2) (by decide)); have B3 : Below base w w3 := B2.drew.trans (g3.below (unhide HO2) hb2)) | (go_at_call 32; refine (appendSized_ow v3 _ s w3 base o3 (Nat.le_trans hbase B3.size) ((unhide HT).kept B3 hg1) hg1 (by rw [List.length_append, List.length_append]; omega) (by omega)).mono ?_; rintro e w4 ⟨v4, rfl, o4, b4, k4⟩; have F4 := k4 _ _ _ _ F3 (by decide)))
  all_goals
    go_wp2
    go_ret
    exact ⟨_, rfl, by simpa [List.append_assoc] using o4, B3.trans b4⟩

set_option maxRecDepth 100000 in
set_option maxHeartbeats 2000000 in
theorem appendFrame_28 (v : Value) (xs : List UInt8) (a b : Int) (s : ByteArray) (g off n cap : Nat) (w : World) (base : Nat) (h : Ow base w v xs) (hbase : base ≤ w.heap.size) (htz : Tz w) (hg1 : 1 < base) (hlen : xs.length ≤ 900000) (hs : s.size ≤ 1000) (ha0 : 0 ≤ a) (ha1 : a ≤ 4611686018427387903) (hb0 : 0 ≤ b) (hb1 : b ≤ 4611686018427387903) :
    Calls Tryd.prog 14 #[v, fv 28 a b 0 false s g off n cap] w fun e w' => ∃ v', e = .returned v' ∧ Ow base w' v' (xs ++ (vb 28 ++ (vb a ++ vb b ++ (vb s.size ++ s.data.toList)))) ∧ Below base w w' := by
  have hlk := vb_le 28
  have hl0 := vb_le a
  have hl1 := vb_le b
  have A1 : Below w.heap.size w (w.alloc (.cells #[.int .i64 28, .int .i64 a, .int .i64 b, .int .i64 0, .bool false, .string s, .slice (some ⟨g, off, none⟩) n cap] 36)) := (Below.refl _ _).alloc (Nat.le_refl _) _
  have F1 : Fb w.heap.size 28 a b 0 false s g off n cap (w.alloc (.cells #[.int .i64 28, .int .i64 a, .int .i64 b, .int .i64 0, .bool false, .string s, .slice (some ⟨g, off, none⟩) n cap] 36)) := heap_new w _
  have O1 : Ow base (w.alloc (.cells #[.int .i64 28, .int .i64 a, .int .i64 b, .int .i64 0, .bool false, .string s, .slice (some ⟨g, off, none⟩) n cap] 36)) v xs := h.alloc _
  have HT := hide htz
  have HF := hide F1
  have HO := hide O1
  have HA := hide A1
  clear A1 F1 O1 h htz
  go_enter Tryd.func14, Tryd.ntmps14
  go_wp2_with fail
  refine (toldKind_any 28 a b 0 28 false s g off n cap _ (Or.inr (Or.inr (Or.inr (Or.inr (Or.inr ⟨by decide, by decide, rfl⟩)))))).mono ?_
  rintro e w1 ⟨rfl, hb1⟩
  have FA : Fb w.heap.size 28 a b 0 false s g off n cap w1 := (hb1.block w.heap.size (by simp)).trans (unhide HF)
  have OA : Ow base w1 v xs := (unhide HO).later hb1
  have BA : Below base w w1 := ((unhide HA).trans (hb1.mono (unhide HA).size)).mono hbase
  have HV := hide (appendVarint_ow v xs 28 w1 base OA (Nat.le_trans hbase BA.size) ((unhide HT).kept BA hg1) hg1 (by omega) (by omega) (by omega))
  clear hb1
  go_wp2_with fail
  refine (unhide HV).mono ?_
  rintro e w2 ⟨v2, rfl, o2, g2⟩
  have F2 := g2.keep FA (OA.far FA (by decide))
  have B2 : Below base w w2 := BA.trans (g2.below OA (Nat.le_trans hbase BA.size))
  have T2 := (unhide HT).kept B2 hg1
  have hb2 := Nat.le_trans hbase B2.size
  clear FA OA BA HV g2
  have HF2 := hide F2
  have HO2 := hide o2
  have HT2 := hide T2
  clear T2 o2
  obtain ⟨c0, c1, c2, c3, c4, c5, c6, c7⟩ := sf_mk F2
  clear F2
  go_wp2_with fail
  go_region_held3 (fun W => Sf w.heap.size 28 a b 0 false s g off n cap W) (first | assumption | exact sf_mk F4 | exact sf_mk F3 | exact sf_alloc _ (by assumption) | exact sf_mk (unhide HF2)) (first | (go_at_call 31; refine (nums2 v2 _ a b _ w2.drew base (unhide HO2) hb2 (unhide HT2).drew hg1 (by rw [List.length_append]; omega) rfl ⟨ha0, ha1⟩ ⟨hb0, hb1⟩).mono ?_; rintro e w3 ⟨v3, rfl, o3, g3⟩; have F3 := g3.keep (fb_drew (unhide HF2)) (Ow.far (unhide HO2) (unhide HF2) (by decide)); have B3 : Below base w w3 := B2.drew.trans (g3.below (unhide HO2) hb2)) | (go_at_call 32; refine (appendSized_ow v3 _ s w3 base o3 (Nat.le_trans hbase B3.size) ((unhide HT).kept B3 hg1) hg1 (by rw [List.length_append, List.length_append]; rw [List.length_append]; omega) (by omega)).mono ?_; rintro e w4 ⟨v4, rfl, o4, b4, k4⟩; have F4 := k4 _ _ _ _ F3 (by decide)))
  all_goals
    go_wp2
    go_ret
    exact ⟨_, rfl, by simpa [List.append_assoc] using o4, B3.trans b4⟩

set_option maxRecDepth 100000 in
set_option maxHeartbeats 2000000 in
theorem appendFrame_80F (v : Value) (xs : List UInt8) (a : Int) (s : ByteArray) (g off n cap : Nat) (w : World) (base : Nat) (h : Ow base w v xs) (hbase : base ≤ w.heap.size) (htz : Tz w) (hg1 : 1 < base) (hlen : xs.length ≤ 900000) (hs : s.size ≤ 1000) (ha0 : 0 ≤ a) (ha1 : a ≤ 4611686018427387903) :
    Calls Tryd.prog 14 #[v, fv 8 a 0 0 false s g off n cap] w fun e w' => ∃ v', e = .returned v' ∧ Ow base w' v' (xs ++ (vb 10 ++ (vb a ++ (vb s.size ++ s.data.toList)))) ∧ Below base w w' := by
  have hlk := vb_le 10
  have hl0 := vb_le a
  have A1 : Below w.heap.size w (w.alloc (.cells #[.int .i64 8, .int .i64 a, .int .i64 0, .int .i64 0, .bool false, .string s, .slice (some ⟨g, off, none⟩) n cap] 36)) := (Below.refl _ _).alloc (Nat.le_refl _) _
  have F1 : Fb w.heap.size 8 a 0 0 false s g off n cap (w.alloc (.cells #[.int .i64 8, .int .i64 a, .int .i64 0, .int .i64 0, .bool false, .string s, .slice (some ⟨g, off, none⟩) n cap] 36)) := heap_new w _
  have O1 : Ow base (w.alloc (.cells #[.int .i64 8, .int .i64 a, .int .i64 0, .int .i64 0, .bool false, .string s, .slice (some ⟨g, off, none⟩) n cap] 36)) v xs := h.alloc _
  have HT := hide htz
  have HF := hide F1
  have HO := hide O1
  have HA := hide A1
  clear A1 F1 O1 h htz
  go_enter Tryd.func14, Tryd.ntmps14
  go_wp2_with fail
  refine (toldKind_any 8 a 0 0 10 false s g off n cap _ (Or.inr (Or.inl ⟨rfl, rfl, rfl, rfl⟩))).mono ?_
  rintro e w1 ⟨rfl, hb1⟩
  have FA : Fb w.heap.size 8 a 0 0 false s g off n cap w1 := (hb1.block w.heap.size (by simp)).trans (unhide HF)
  have OA : Ow base w1 v xs := (unhide HO).later hb1
  have BA : Below base w w1 := ((unhide HA).trans (hb1.mono (unhide HA).size)).mono hbase
  have HV := hide (appendVarint_ow v xs 10 w1 base OA (Nat.le_trans hbase BA.size) ((unhide HT).kept BA hg1) hg1 (by omega) (by omega) (by omega))
  clear hb1
  go_wp2_with fail
  refine (unhide HV).mono ?_
  rintro e w2 ⟨v2, rfl, o2, g2⟩
  have F2 := g2.keep FA (OA.far FA (by decide))
  have B2 : Below base w w2 := BA.trans (g2.below OA (Nat.le_trans hbase BA.size))
  have T2 := (unhide HT).kept B2 hg1
  have hb2 := Nat.le_trans hbase B2.size
  clear FA OA BA HV g2
  have HF2 := hide F2
  have HO2 := hide o2
  have HT2 := hide T2
  clear T2 o2
  obtain ⟨c0, c1, c2, c3, c4, c5, c6, c7⟩ := sf_mk F2
  clear F2
  have HZ := hide (appendStream_0F v2 _ a s g off n cap w2 base (unhide HO2) hb2 (unhide HT2) hg1 (by rw [List.length_append]; omega) hs ha0 ha1)
  go_wp2_with fail
  refine (unhide HZ).mono ?_
  rintro e w4 ⟨v4, rfl, o4, b4⟩
  go_wp2
  go_ret
  exact ⟨_, rfl, by simpa [List.append_assoc] using o4, B2.trans b4⟩

set_option maxRecDepth 100000 in
set_option maxHeartbeats 2000000 in
theorem appendFrame_80T (v : Value) (xs : List UInt8) (a : Int) (s : ByteArray) (g off n cap : Nat) (w : World) (base : Nat) (h : Ow base w v xs) (hbase : base ≤ w.heap.size) (htz : Tz w) (hg1 : 1 < base) (hlen : xs.length ≤ 900000) (hs : s.size ≤ 1000) (ha0 : 0 ≤ a) (ha1 : a ≤ 4611686018427387903) :
    Calls Tryd.prog 14 #[v, fv 8 a 0 0 true s g off n cap] w fun e w' => ∃ v', e = .returned v' ∧ Ow base w' v' (xs ++ (vb 11 ++ (vb a ++ (vb s.size ++ s.data.toList)))) ∧ Below base w w' := by
  have hlk := vb_le 11
  have hl0 := vb_le a
  have A1 : Below w.heap.size w (w.alloc (.cells #[.int .i64 8, .int .i64 a, .int .i64 0, .int .i64 0, .bool true, .string s, .slice (some ⟨g, off, none⟩) n cap] 36)) := (Below.refl _ _).alloc (Nat.le_refl _) _
  have F1 : Fb w.heap.size 8 a 0 0 true s g off n cap (w.alloc (.cells #[.int .i64 8, .int .i64 a, .int .i64 0, .int .i64 0, .bool true, .string s, .slice (some ⟨g, off, none⟩) n cap] 36)) := heap_new w _
  have O1 : Ow base (w.alloc (.cells #[.int .i64 8, .int .i64 a, .int .i64 0, .int .i64 0, .bool true, .string s, .slice (some ⟨g, off, none⟩) n cap] 36)) v xs := h.alloc _
  have HT := hide htz
  have HF := hide F1
  have HO := hide O1
  have HA := hide A1
  clear A1 F1 O1 h htz
  go_enter Tryd.func14, Tryd.ntmps14
  go_wp2_with fail
  refine (toldKind_any 8 a 0 0 11 true s g off n cap _ (Or.inr (Or.inr (Or.inl ⟨rfl, rfl, rfl, rfl⟩)))).mono ?_
  rintro e w1 ⟨rfl, hb1⟩
  have FA : Fb w.heap.size 8 a 0 0 true s g off n cap w1 := (hb1.block w.heap.size (by simp)).trans (unhide HF)
  have OA : Ow base w1 v xs := (unhide HO).later hb1
  have BA : Below base w w1 := ((unhide HA).trans (hb1.mono (unhide HA).size)).mono hbase
  have HV := hide (appendVarint_ow v xs 11 w1 base OA (Nat.le_trans hbase BA.size) ((unhide HT).kept BA hg1) hg1 (by omega) (by omega) (by omega))
  clear hb1
  go_wp2_with fail
  refine (unhide HV).mono ?_
  rintro e w2 ⟨v2, rfl, o2, g2⟩
  have F2 := g2.keep FA (OA.far FA (by decide))
  have B2 : Below base w w2 := BA.trans (g2.below OA (Nat.le_trans hbase BA.size))
  have T2 := (unhide HT).kept B2 hg1
  have hb2 := Nat.le_trans hbase B2.size
  clear FA OA BA HV g2
  have HF2 := hide F2
  have HO2 := hide o2
  have HT2 := hide T2
  clear T2 o2
  obtain ⟨c0, c1, c2, c3, c4, c5, c6, c7⟩ := sf_mk F2
  clear F2
  have HZ := hide (appendStream_0T v2 _ a s g off n cap w2 base (unhide HO2) hb2 (unhide HT2) hg1 (by rw [List.length_append]; omega) hs ha0 ha1)
  go_wp2_with fail
  refine (unhide HZ).mono ?_
  rintro e w4 ⟨v4, rfl, o4, b4⟩
  go_wp2
  go_ret
  exact ⟨_, rfl, by simpa [List.append_assoc] using o4, B2.trans b4⟩

set_option maxRecDepth 100000 in
set_option maxHeartbeats 2000000 in
theorem appendFrame_81F (v : Value) (xs : List UInt8) (a b : Int) (s : ByteArray) (g off n cap : Nat) (w : World) (base : Nat) (h : Ow base w v xs) (hbase : base ≤ w.heap.size) (htz : Tz w) (hg1 : 1 < base) (hlen : xs.length ≤ 900000) (hs : s.size ≤ 1000) (ha0 : 0 ≤ a) (ha1 : a ≤ 4611686018427387903) (hb0 : 0 ≤ b) (hb1 : b ≤ 4611686018427387903) (hbn : b ≠ 0) (hbz : (b != 0) = true) :
    Calls Tryd.prog 14 #[v, fv 8 a b 0 false s g off n cap] w fun e w' => ∃ v', e = .returned v' ∧ Ow base w' v' (xs ++ (vb 14 ++ (vb a ++ vb b ++ (vb s.size ++ s.data.toList)))) ∧ Below base w w' := by
  have hlk := vb_le 14
  have hl0 := vb_le a
  have A1 : Below w.heap.size w (w.alloc (.cells #[.int .i64 8, .int .i64 a, .int .i64 b, .int .i64 0, .bool false, .string s, .slice (some ⟨g, off, none⟩) n cap] 36)) := (Below.refl _ _).alloc (Nat.le_refl _) _
  have F1 : Fb w.heap.size 8 a b 0 false s g off n cap (w.alloc (.cells #[.int .i64 8, .int .i64 a, .int .i64 b, .int .i64 0, .bool false, .string s, .slice (some ⟨g, off, none⟩) n cap] 36)) := heap_new w _
  have O1 : Ow base (w.alloc (.cells #[.int .i64 8, .int .i64 a, .int .i64 b, .int .i64 0, .bool false, .string s, .slice (some ⟨g, off, none⟩) n cap] 36)) v xs := h.alloc _
  have HT := hide htz
  have HF := hide F1
  have HO := hide O1
  have HA := hide A1
  clear A1 F1 O1 h htz
  go_enter Tryd.func14, Tryd.ntmps14
  go_wp2_with fail
  refine (toldKind_any 8 a b 0 14 false s g off n cap _ (Or.inr (Or.inr (Or.inr (Or.inl ⟨rfl, hbn, rfl, rfl⟩))))).mono ?_
  rintro e w1 ⟨rfl, hb1⟩
  have FA : Fb w.heap.size 8 a b 0 false s g off n cap w1 := (hb1.block w.heap.size (by simp)).trans (unhide HF)
  have OA : Ow base w1 v xs := (unhide HO).later hb1
  have BA : Below base w w1 := ((unhide HA).trans (hb1.mono (unhide HA).size)).mono hbase
  have HV := hide (appendVarint_ow v xs 14 w1 base OA (Nat.le_trans hbase BA.size) ((unhide HT).kept BA hg1) hg1 (by omega) (by omega) (by omega))
  clear hb1
  go_wp2_with fail
  refine (unhide HV).mono ?_
  rintro e w2 ⟨v2, rfl, o2, g2⟩
  have F2 := g2.keep FA (OA.far FA (by decide))
  have B2 : Below base w w2 := BA.trans (g2.below OA (Nat.le_trans hbase BA.size))
  have T2 := (unhide HT).kept B2 hg1
  have hb2 := Nat.le_trans hbase B2.size
  clear FA OA BA HV g2
  have HF2 := hide F2
  have HO2 := hide o2
  have HT2 := hide T2
  clear T2 o2
  obtain ⟨c0, c1, c2, c3, c4, c5, c6, c7⟩ := sf_mk F2
  clear F2
  have HZ := hide (appendStream_1F v2 _ a b s g off n cap w2 base (unhide HO2) hb2 (unhide HT2) hg1 (by rw [List.length_append]; omega) hs ha0 ha1 hb0 hb1 hbz)
  go_wp2_with fail
  refine (unhide HZ).mono ?_
  rintro e w4 ⟨v4, rfl, o4, b4⟩
  go_wp2
  go_ret
  exact ⟨_, rfl, by simpa [List.append_assoc] using o4, B2.trans b4⟩

set_option maxRecDepth 100000 in
set_option maxHeartbeats 2000000 in
theorem appendFrame_81T (v : Value) (xs : List UInt8) (a b : Int) (s : ByteArray) (g off n cap : Nat) (w : World) (base : Nat) (h : Ow base w v xs) (hbase : base ≤ w.heap.size) (htz : Tz w) (hg1 : 1 < base) (hlen : xs.length ≤ 900000) (hs : s.size ≤ 1000) (ha0 : 0 ≤ a) (ha1 : a ≤ 4611686018427387903) (hb0 : 0 ≤ b) (hb1 : b ≤ 4611686018427387903) (hbn : b ≠ 0) (hbz : (b != 0) = true) :
    Calls Tryd.prog 14 #[v, fv 8 a b 0 true s g off n cap] w fun e w' => ∃ v', e = .returned v' ∧ Ow base w' v' (xs ++ (vb 15 ++ (vb a ++ vb b ++ (vb s.size ++ s.data.toList)))) ∧ Below base w w' := by
  have hlk := vb_le 15
  have hl0 := vb_le a
  have A1 : Below w.heap.size w (w.alloc (.cells #[.int .i64 8, .int .i64 a, .int .i64 b, .int .i64 0, .bool true, .string s, .slice (some ⟨g, off, none⟩) n cap] 36)) := (Below.refl _ _).alloc (Nat.le_refl _) _
  have F1 : Fb w.heap.size 8 a b 0 true s g off n cap (w.alloc (.cells #[.int .i64 8, .int .i64 a, .int .i64 b, .int .i64 0, .bool true, .string s, .slice (some ⟨g, off, none⟩) n cap] 36)) := heap_new w _
  have O1 : Ow base (w.alloc (.cells #[.int .i64 8, .int .i64 a, .int .i64 b, .int .i64 0, .bool true, .string s, .slice (some ⟨g, off, none⟩) n cap] 36)) v xs := h.alloc _
  have HT := hide htz
  have HF := hide F1
  have HO := hide O1
  have HA := hide A1
  clear A1 F1 O1 h htz
  go_enter Tryd.func14, Tryd.ntmps14
  go_wp2_with fail
  refine (toldKind_any 8 a b 0 15 true s g off n cap _ (Or.inr (Or.inr (Or.inr (Or.inr (Or.inl ⟨rfl, hbn, rfl, rfl⟩)))))).mono ?_
  rintro e w1 ⟨rfl, hb1⟩
  have FA : Fb w.heap.size 8 a b 0 true s g off n cap w1 := (hb1.block w.heap.size (by simp)).trans (unhide HF)
  have OA : Ow base w1 v xs := (unhide HO).later hb1
  have BA : Below base w w1 := ((unhide HA).trans (hb1.mono (unhide HA).size)).mono hbase
  have HV := hide (appendVarint_ow v xs 15 w1 base OA (Nat.le_trans hbase BA.size) ((unhide HT).kept BA hg1) hg1 (by omega) (by omega) (by omega))
  clear hb1
  go_wp2_with fail
  refine (unhide HV).mono ?_
  rintro e w2 ⟨v2, rfl, o2, g2⟩
  have F2 := g2.keep FA (OA.far FA (by decide))
  have B2 : Below base w w2 := BA.trans (g2.below OA (Nat.le_trans hbase BA.size))
  have T2 := (unhide HT).kept B2 hg1
  have hb2 := Nat.le_trans hbase B2.size
  clear FA OA BA HV g2
  have HF2 := hide F2
  have HO2 := hide o2
  have HT2 := hide T2
  clear T2 o2
  obtain ⟨c0, c1, c2, c3, c4, c5, c6, c7⟩ := sf_mk F2
  clear F2
  have HZ := hide (appendStream_1T v2 _ a b s g off n cap w2 base (unhide HO2) hb2 (unhide HT2) hg1 (by rw [List.length_append]; omega) hs ha0 ha1 hb0 hb1 hbz)
  go_wp2_with fail
  refine (unhide HZ).mono ?_
  rintro e w4 ⟨v4, rfl, o4, b4⟩
  go_wp2
  go_ret
  exact ⟨_, rfl, by simpa [List.append_assoc] using o4, B2.trans b4⟩

set_option maxRecDepth 100000 in
set_option maxHeartbeats 2000000 in
theorem appendFrame_2 (v : Value) (xs : List UInt8) (a : Int) (s : ByteArray) (g off n cap : Nat) (w : World) (base : Nat) (h : Ow base w v xs) (hbase : base ≤ w.heap.size) (htz : Tz w) (hg1 : 1 < base) (hlen : xs.length ≤ 900000) (hs : s.size ≤ 1000) (ha0 : 0 ≤ a) (ha1 : a ≤ 4611686018427387903) (F T : Nat → Int) (hn1 : 1 ≤ n) (hn2 : n ≤ 20) (hR : Rr w g off n F T) (hgb : g < base) (hA : allR F T n = true) (hcap : n ≤ cap) :
    Calls Tryd.prog 14 #[v, fv 2 a 0 0 false s g off n cap] w fun e w' => ∃ v', e = .returned v' ∧ Ow base w' v' (xs ++ (vb 2 ++ ackL a n F T (n - 1))) ∧ Below base w w' := by
  have hlk := vb_le 2
  have hl0 := vb_le a
  have A1 : Below w.heap.size w (w.alloc (.cells #[.int .i64 2, .int .i64 a, .int .i64 0, .int .i64 0, .bool false, .string s, .slice (some ⟨g, off, none⟩) n cap] 36)) := (Below.refl _ _).alloc (Nat.le_refl _) _
  have F1 : Fb w.heap.size 2 a 0 0 false s g off n cap (w.alloc (.cells #[.int .i64 2, .int .i64 a, .int .i64 0, .int .i64 0, .bool false, .string s, .slice (some ⟨g, off, none⟩) n cap] 36)) := heap_new w _
  have O1 : Ow base (w.alloc (.cells #[.int .i64 2, .int .i64 a, .int .i64 0, .int .i64 0, .bool false, .string s, .slice (some ⟨g, off, none⟩) n cap] 36)) v xs := h.alloc _
  have HT := hide htz
  have HF := hide F1
  have HO := hide O1
  have HA := hide A1
  clear A1 F1 O1 h htz
  go_enter Tryd.func14, Tryd.ntmps14
  go_wp2_with fail
  refine (toldKind_any 2 a 0 0 2 false s g off n cap _ (Or.inr (Or.inr (Or.inr (Or.inr (Or.inr ⟨by decide, by decide, rfl⟩)))))).mono ?_
  rintro e w1 ⟨rfl, hb1⟩
  have FA : Fb w.heap.size 2 a 0 0 false s g off n cap w1 := (hb1.block w.heap.size (by simp)).trans (unhide HF)
  have OA : Ow base w1 v xs := (unhide HO).later hb1
  have BA : Below base w w1 := ((unhide HA).trans (hb1.mono (unhide HA).size)).mono hbase
  have HV := hide (appendVarint_ow v xs 2 w1 base OA (Nat.le_trans hbase BA.size) ((unhide HT).kept BA hg1) hg1 (by omega) (by omega) (by omega))
  clear hb1
  go_wp2_with fail
  refine (unhide HV).mono ?_
  rintro e w2 ⟨v2, rfl, o2, g2⟩
  have F2 := g2.keep FA (OA.far FA (by decide))
  have B2 : Below base w w2 := BA.trans (g2.below OA (Nat.le_trans hbase BA.size))
  have T2 := (unhide HT).kept B2 hg1
  have hb2 := Nat.le_trans hbase B2.size
  clear FA OA BA HV g2
  have HF2 := hide F2
  have HO2 := hide o2
  have HT2 := hide T2
  clear T2 o2
  obtain ⟨c0, c1, c2, c3, c4, c5, c6, c7⟩ := sf_mk F2
  clear F2
  have HRR := hide (rr_below hR B2 hgb)
  have HZ := hide (appendAck_ow v2 _ a s g off n cap F T w2 base (unhide HO2) hb2 (unhide HT2) hg1 (by rw [List.length_append]; omega) hn1 hn2 (unhide HRR) hgb hA ha0 ha1 hcap)
  go_wp2_with fail
  refine (unhide HZ).mono ?_
  rintro e w4 ⟨v4, rfl, o4, b4⟩
  go_wp2
  go_ret
  exact ⟨_, rfl, by simpa [List.append_assoc] using o4, B2.trans b4⟩

set_option maxRecDepth 100000 in
set_option maxHeartbeats 2000000 in
theorem appendFrame_26 (v : Value) (xs : List UInt8) (s : ByteArray) (g off n cap : Nat) (w : World) (base : Nat) (h : Ow base w v xs) (hbase : base ≤ w.heap.size) (htz : Tz w) (hg1 : 1 < base) (hlen : xs.length ≤ 900000) (hs : s.size ≤ 1000) :
    Calls Tryd.prog 14 #[v, fv 26 0 0 0 false s g off n cap] w fun e w' => ∃ v', e = .returned v' ∧ Ow base w' v' (xs ++ (vb 26 ++ s.data.toList)) ∧ Below base w w' := by
  have hlk := vb_le 26
  have A1 : Below w.heap.size w (w.alloc (.cells #[.int .i64 26, .int .i64 0, .int .i64 0, .int .i64 0, .bool false, .string s, .slice (some ⟨g, off, none⟩) n cap] 36)) := (Below.refl _ _).alloc (Nat.le_refl _) _
  have F1 : Fb w.heap.size 26 0 0 0 false s g off n cap (w.alloc (.cells #[.int .i64 26, .int .i64 0, .int .i64 0, .int .i64 0, .bool false, .string s, .slice (some ⟨g, off, none⟩) n cap] 36)) := heap_new w _
  have O1 : Ow base (w.alloc (.cells #[.int .i64 26, .int .i64 0, .int .i64 0, .int .i64 0, .bool false, .string s, .slice (some ⟨g, off, none⟩) n cap] 36)) v xs := h.alloc _
  have HT := hide htz
  have HF := hide F1
  have HO := hide O1
  have HA := hide A1
  clear A1 F1 O1 h htz
  go_enter Tryd.func14, Tryd.ntmps14
  go_wp2_with fail
  refine (toldKind_any 26 0 0 0 26 false s g off n cap _ (Or.inr (Or.inr (Or.inr (Or.inr (Or.inr ⟨by decide, by decide, rfl⟩)))))).mono ?_
  rintro e w1 ⟨rfl, hb1⟩
  have FA : Fb w.heap.size 26 0 0 0 false s g off n cap w1 := (hb1.block w.heap.size (by simp)).trans (unhide HF)
  have OA : Ow base w1 v xs := (unhide HO).later hb1
  have BA : Below base w w1 := ((unhide HA).trans (hb1.mono (unhide HA).size)).mono hbase
  have HV := hide (appendVarint_ow v xs 26 w1 base OA (Nat.le_trans hbase BA.size) ((unhide HT).kept BA hg1) hg1 (by omega) (by omega) (by omega))
  clear hb1
  go_wp2_with fail
  refine (unhide HV).mono ?_
  rintro e w2 ⟨v2, rfl, o2, g2⟩
  have F2 := g2.keep FA (OA.far FA (by decide))
  have B2 : Below base w w2 := BA.trans (g2.below OA (Nat.le_trans hbase BA.size))
  have T2 := (unhide HT).kept B2 hg1
  have hb2 := Nat.le_trans hbase B2.size
  clear FA OA BA HV g2
  have HF2 := hide F2
  have HO2 := hide o2
  have HT2 := hide T2
  clear T2 o2
  obtain ⟨c0, c1, c2, c3, c4, c5, c6, c7⟩ := sf_mk F2
  clear F2
  obtain ⟨i0, hi, hz0, hz1, hz2⟩ := info_parts Tryd.info5
  go_wp2_with (at_builtin; refine Lib.wpList_append_own_string _ rfl _ _ 40 9 rfl base 5 i0 Tryd.underlying40 Tryd.underlying9 hi hz0 hz1 hz2 _ _ _ rfl (unhide HO2) s rfl ?c1 ?c2 ?c3 ?_)
  case c1 => rw [List.length_append]; unfold maxLen; omega
  case c2 => rw [List.length_append]; omega
  case c3 => omega
  intro v3 w3 ho3 hg3 _
  have B3 : Below base w w3 := B2.trans ((unhide HO2).below hg3 hb2)
  have O3 := ow_text (unhide HO2) ho3 (by simp [List.length_append])
  clear ho3 hg3
  go_wp2
  go_ret
  exact ⟨_, rfl, by simpa [List.append_assoc] using O3, B3⟩

set_option maxRecDepth 100000 in
set_option maxHeartbeats 2000000 in
theorem appendFrame_27 (v : Value) (xs : List UInt8) (s : ByteArray) (g off n cap : Nat) (w : World) (base : Nat) (h : Ow base w v xs) (hbase : base ≤ w.heap.size) (htz : Tz w) (hg1 : 1 < base) (hlen : xs.length ≤ 900000) (hs : s.size ≤ 1000) :
    Calls Tryd.prog 14 #[v, fv 27 0 0 0 false s g off n cap] w fun e w' => ∃ v', e = .returned v' ∧ Ow base w' v' (xs ++ (vb 27 ++ s.data.toList)) ∧ Below base w w' := by
  have hlk := vb_le 27
  have A1 : Below w.heap.size w (w.alloc (.cells #[.int .i64 27, .int .i64 0, .int .i64 0, .int .i64 0, .bool false, .string s, .slice (some ⟨g, off, none⟩) n cap] 36)) := (Below.refl _ _).alloc (Nat.le_refl _) _
  have F1 : Fb w.heap.size 27 0 0 0 false s g off n cap (w.alloc (.cells #[.int .i64 27, .int .i64 0, .int .i64 0, .int .i64 0, .bool false, .string s, .slice (some ⟨g, off, none⟩) n cap] 36)) := heap_new w _
  have O1 : Ow base (w.alloc (.cells #[.int .i64 27, .int .i64 0, .int .i64 0, .int .i64 0, .bool false, .string s, .slice (some ⟨g, off, none⟩) n cap] 36)) v xs := h.alloc _
  have HT := hide htz
  have HF := hide F1
  have HO := hide O1
  have HA := hide A1
  clear A1 F1 O1 h htz
  go_enter Tryd.func14, Tryd.ntmps14
  go_wp2_with fail
  refine (toldKind_any 27 0 0 0 27 false s g off n cap _ (Or.inr (Or.inr (Or.inr (Or.inr (Or.inr ⟨by decide, by decide, rfl⟩)))))).mono ?_
  rintro e w1 ⟨rfl, hb1⟩
  have FA : Fb w.heap.size 27 0 0 0 false s g off n cap w1 := (hb1.block w.heap.size (by simp)).trans (unhide HF)
  have OA : Ow base w1 v xs := (unhide HO).later hb1
  have BA : Below base w w1 := ((unhide HA).trans (hb1.mono (unhide HA).size)).mono hbase
  have HV := hide (appendVarint_ow v xs 27 w1 base OA (Nat.le_trans hbase BA.size) ((unhide HT).kept BA hg1) hg1 (by omega) (by omega) (by omega))
  clear hb1
  go_wp2_with fail
  refine (unhide HV).mono ?_
  rintro e w2 ⟨v2, rfl, o2, g2⟩
  have F2 := g2.keep FA (OA.far FA (by decide))
  have B2 : Below base w w2 := BA.trans (g2.below OA (Nat.le_trans hbase BA.size))
  have T2 := (unhide HT).kept B2 hg1
  have hb2 := Nat.le_trans hbase B2.size
  clear FA OA BA HV g2
  have HF2 := hide F2
  have HO2 := hide o2
  have HT2 := hide T2
  clear T2 o2
  obtain ⟨c0, c1, c2, c3, c4, c5, c6, c7⟩ := sf_mk F2
  clear F2
  obtain ⟨i0, hi, hz0, hz1, hz2⟩ := info_parts Tryd.info5
  go_wp2_with (at_builtin; refine Lib.wpList_append_own_string _ rfl _ _ 40 9 rfl base 5 i0 Tryd.underlying40 Tryd.underlying9 hi hz0 hz1 hz2 _ _ _ rfl (unhide HO2) s rfl ?c1 ?c2 ?c3 ?_)
  case c1 => rw [List.length_append]; unfold maxLen; omega
  case c2 => rw [List.length_append]; omega
  case c3 => omega
  intro v3 w3 ho3 hg3 _
  have B3 : Below base w w3 := B2.trans ((unhide HO2).below hg3 hb2)
  have O3 := ow_text (unhide HO2) ho3 (by simp [List.length_append])
  clear ho3 hg3
  go_wp2
  go_ret
  exact ⟨_, rfl, by simpa [List.append_assoc] using O3, B3⟩
end Go.Proofs.YtcnpbcigndcheaaDoor
