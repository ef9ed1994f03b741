/-
  Contracts: a frame's bytes, as the program puts them behind a slice that the call owns.
-/
import Derived.Test.YtcnpbcigndcheaaDoorApa
import Derived.Deep.RegionHeld3
namespace Go.Proofs.YtcnpbcigndcheaaDoor
open Go.ChangeShapes Go.WideShapes Go.ChangeAt Go.RowKit
set_option linter.unusedVariables false

theorem Ow.later {base : Nat} {w w' : World} {v : Value} {xs : List UInt8} (h : Ow base w v xs) (hb : Below w.heap.size w w') : Ow base w' v xs := by
  refine World.ownsRow.kept h (row := none) ⟨hb.os, hb.tape, hb.output, hb.size, fun k hk _ => hb.block k hk⟩ ?_
  cases hv : v.ownBlock with
  | none => exact Or.inl rfl
  | some k => exact Or.inr (by simp)
theorem Gr.of_alloc {w w' : World} {o : Obj} {v v' : Value} (h : Gr (w.alloc o) w' v v') : Gr w w' v v' := ((Gr.refl w v).alloc o).trans h
theorem nums1 (v : Value) (xs : List UInt8) (x : Int) (p : Nat) (W : World) (base : Nat) (h : Ow base W v xs) (hbase : base ≤ W.heap.size) (htz : Tz W) (hg1 : 1 < base) (hlen : xs.length ≤ 1048576) (hp : p = W.heap.size) (h0 : 0 ≤ x ∧ x ≤ 4611686018427387903) :
    Calls Tryd.prog 31 #[v, .slice (some ⟨p, 0, none⟩) 1 1] (W.alloc (.cells #[.int .i64 x] 3)) fun e w' => ∃ v', e = .returned v' ∧ Ow base w' v' (xs ++ vb x) ∧ Gr W w' v v' := by
  subst hp
  refine (appendNumbers_ow v xs W.heap.size 1 (n4 x 0 0 0) #[.int .i64 x] (0, 0) _ base (h.alloc _) (by simp; omega) (htz.below ((Below.refl _ _).alloc (Nat.le_refl _) _)) hg1 hlen (by omega) (heap_new W _) (fun i hi => by rcases (show i = 0 by omega) with rfl; rfl) (fun i hi => by rcases (show i = 0 by omega) with rfl; exact h0)).mono ?_
  rintro e w' ⟨v', rfl, o, g⟩
  rw [vbs1] at o
  exact ⟨v', rfl, o, g.of_alloc⟩
theorem nums2 (v : Value) (xs : List UInt8) (x y : Int) (p : Nat) (W : World) (base : Nat) (h : Ow base W v xs) (hbase : base ≤ W.heap.size) (htz : Tz W) (hg1 : 1 < base) (hlen : xs.length ≤ 1048576) (hp : p = W.heap.size) (h0 : 0 ≤ x ∧ x ≤ 4611686018427387903) (h1 : 0 ≤ y ∧ y ≤ 4611686018427387903) :
    Calls Tryd.prog 31 #[v, .slice (some ⟨p, 0, none⟩) 2 2] (W.alloc (.cells #[.int .i64 x, .int .i64 y] 3)) fun e w' => ∃ v', e = .returned v' ∧ Ow base w' v' (xs ++ (vb x ++ vb y)) ∧ Gr W w' v v' := by
  subst hp
  refine (appendNumbers_ow v xs W.heap.size 2 (n4 x y 0 0) #[.int .i64 x, .int .i64 y] (0, 0) _ base (h.alloc _) (by simp; omega) (htz.below ((Below.refl _ _).alloc (Nat.le_refl _) _)) hg1 hlen (by omega) (heap_new W _) (fun i hi => by rcases (show i = 0 ∨ i = 1 by omega) with rfl | rfl <;> rfl) (fun i hi => by rcases (show i = 0 ∨ i = 1 by omega) with rfl | rfl <;> simp [n4] <;> omega)).mono ?_
  rintro e w' ⟨v', rfl, o, g⟩
  rw [vbs2] at o
  exact ⟨v', rfl, o, g.of_alloc⟩
theorem nums3 (v : Value) (xs : List UInt8) (x y z : Int) (p : Nat) (W : World) (base : Nat) (h : Ow base W v xs) (hbase : base ≤ W.heap.size) (htz : Tz W) (hg1 : 1 < base) (hlen : xs.length ≤ 1048576) (hp : p = W.heap.size) (h0 : 0 ≤ x ∧ x ≤ 4611686018427387903) (h1 : 0 ≤ y ∧ y ≤ 4611686018427387903) (h2 : 0 ≤ z ∧ z ≤ 4611686018427387903) :
    Calls Tryd.prog 31 #[v, .slice (some ⟨p, 0, none⟩) 3 3] (W.alloc (.cells #[.int .i64 x, .int .i64 y, .int .i64 z] 3)) fun e w' => ∃ v', e = .returned v' ∧ Ow base w' v' (xs ++ (vb x ++ vb y ++ vb z)) ∧ Gr W w' v v' := by
  subst hp
  refine (appendNumbers_ow v xs W.heap.size 3 (n4 x y z 0) #[.int .i64 x, .int .i64 y, .int .i64 z] (0, 0) _ base (h.alloc _) (by simp; omega) (htz.below ((Below.refl _ _).alloc (Nat.le_refl _) _)) hg1 hlen (by omega) (heap_new W _) (fun i hi => by rcases (show i = 0 ∨ i = 1 ∨ i = 2 by omega) with rfl | rfl | rfl <;> rfl) (fun i hi => by rcases (show i = 0 ∨ i = 1 ∨ i = 2 by omega) with rfl | rfl | rfl <;> simp [n4] <;> omega)).mono ?_
  rintro e w' ⟨v', rfl, o, g⟩
  rw [vbs3] at o
  exact ⟨v', rfl, o, g.of_alloc⟩

/-- block p holds the frame -/
abbrev Fb (p : Nat) (k a b c : Int) (fin : Bool) (s : ByteArray) (g off n cap : Nat) (W : World) : Prop :=
  W.heap[p]? = some (.cells #[.int .i64 k, .int .i64 a, .int .i64 b, .int .i64 c, .bool fin, .string s, .slice (some ⟨g, off, none⟩) n cap] 36 (0, 0))
/-- .. and so do its cells -/
abbrev Sf (p : Nat) (k a b c : Int) (fin : Bool) (s : ByteArray) (g off n cap : Nat) (W : World) : Prop :=
  W.cell? ⟨p, 0, none⟩ = some (.int .i64 k) ∧ W.cell? ⟨p, 1, none⟩ = some (.int .i64 a) ∧ W.cell? ⟨p, 2, none⟩ = some (.int .i64 b) ∧ W.cell? ⟨p, 3, none⟩ = some (.int .i64 c) ∧
  W.cell? ⟨p, 4, none⟩ = some (.bool fin) ∧ W.cell? ⟨p, 5, none⟩ = some (.string s) ∧ W.cell? ⟨p, 6, none⟩ = some (.slice (some ⟨g, off, none⟩) n cap) ∧ p < W.heap.size
section
variable {p : Nat} {k a b c : Int} {fin : Bool} {s : ByteArray} {g off n cap : Nat} {W : World}
theorem sf_mk (h : Fb p k a b c fin s g off n cap W) : Sf p k a b c fin s g off n cap W :=
  ⟨cell_in h 0, cell_in h 1, cell_in h 2, cell_in h 3, cell_in h 4, cell_in h 5, cell_in h 6, World.block_lt_of_cell? W ⟨p, 0, none⟩ (cell_in h 0)⟩
theorem sf_alloc (o : Obj) (h : Sf p k a b c fin s g off n cap W) : Sf p k a b c fin s g off n cap (W.alloc o) := by
  obtain ⟨h0, h1, h2, h3, h4, h5, h6, h7⟩ := h
  have e : ∀ i, (W.alloc o).cell? ⟨p, i, none⟩ = W.cell? ⟨p, i, none⟩ := fun i => World.cell?_alloc_lt _ _ _ h7
  exact ⟨(e 0).trans h0, (e 1).trans h1, (e 2).trans h2, (e 3).trans h3, (e 4).trans h4, (e 5).trans h5, (e 6).trans h6, by simp; omega⟩
theorem fb_drew (h : Fb p k a b c fin s g off n cap W) : Fb p k a b c fin s g off n cap W.drew := h
end

set_option maxRecDepth 100000 in
set_option maxHeartbeats 2000000 in
theorem appendStream_0F (v : Value) (xs : List UInt8) (a : Int) (s : ByteArray) (g off n cap : Nat) (w : World) (base : Nat) (h : Ow base w v xs) (hbase : base ≤ w.heap.size) (htz : Tz w) (hg1 : 1 < base) (hlen : xs.length ≤ 1000000) (hs : s.size ≤ 1000) (ha0 : 0 ≤ a) (ha1 : a ≤ 4611686018427387903) :
    Calls Tryd.prog 33 #[v, fv 8 a 0 0 false s g off n cap] w fun e w' => ∃ v', e = .returned v' ∧ Ow base w' v' (xs ++ (vb a ++ (vb s.size ++ s.data.toList))) ∧ Below base w w' := by
  have hla := vb_le a
  have A1 : Below w.heap.size w (w.alloc (.cells #[.int .i64 8, .int .i64 a, .int .i64 0, .int .i64 0, .bool false, .string s, .slice (some ⟨g, off, none⟩) n cap] 36)) := (Below.refl _ _).alloc (Nat.le_refl _) _
  have F1 : Fb w.heap.size 8 a 0 0 false s g off n cap (w.alloc (.cells #[.int .i64 8, .int .i64 a, .int .i64 0, .int .i64 0, .bool false, .string s, .slice (some ⟨g, off, none⟩) n cap] 36)) := heap_new w _
  have O1 : Ow base (w.alloc (.cells #[.int .i64 8, .int .i64 a, .int .i64 0, .int .i64 0, .bool false, .string s, .slice (some ⟨g, off, none⟩) n cap] 36)) v xs := h.alloc _
  have HN := hide (nums1 v xs a (w.heap.size + 1) _ base O1 (Nat.le_trans hbase A1.size) (htz.below A1) hg1 (by omega) (by simp) ⟨ha0, ha1⟩)
  have HF := hide F1
  have HO := hide O1
  have HA := hide A1
  have HT := hide htz
  clear A1 F1 O1 h htz
  go_enter Tryd.func33, Tryd.ntmps33
  go_wp2_with fail
  refine (unhide HN).mono ?_
  rintro e w2 ⟨v2, rfl, o2, g2⟩
  have F2 := g2.keep (unhide HF) ((unhide HO).far (unhide HF) (by decide))
  have B2 : Below base w w2 := ((unhide HA).mono hbase).trans (g2.below (unhide HO) (Nat.le_trans hbase (unhide HA).size))
  have S2 := sf_mk F2
  obtain ⟨c0, c1, c2, c3, c4, c5, c6, c7⟩ := S2
  have HZ := hide (appendSized_ow v2 _ s w2 base o2 (Nat.le_trans hbase B2.size) ((unhide HT).kept B2 hg1) hg1 (by rw [List.length_append]; omega) (by omega))
  clear o2 F2 g2
  go_wp2_with fail
  refine (unhide HZ).mono ?_
  rintro e w4 ⟨v4, rfl, o4, b4, k4⟩
  go_wp2
  go_ret
  exact ⟨_, rfl, by simpa [List.append_assoc] using o4, B2.trans b4⟩

set_option maxRecDepth 100000 in
set_option maxHeartbeats 2000000 in
theorem appendStream_1F (v : Value) (xs : List UInt8) (a b : Int) (s : ByteArray) (g off n cap : Nat) (w : World) (base : Nat) (h : Ow base w v xs) (hbase : base ≤ w.heap.size) (htz : Tz w) (hg1 : 1 < base) (hlen : xs.length ≤ 1000000) (hs : s.size ≤ 1000) (ha0 : 0 ≤ a) (ha1 : a ≤ 4611686018427387903) (hb0 : 0 ≤ b) (hb1 : b ≤ 4611686018427387903) (hbz : (b != 0) = true) :
    Calls Tryd.prog 33 #[v, fv 8 a b 0 false s g off n cap] w fun e w' => ∃ v', e = .returned v' ∧ Ow base w' v' (xs ++ (vb a ++ vb b ++ (vb s.size ++ s.data.toList))) ∧ Below base w w' := by
  have hla := vb_le a
  have hlb := vb_le b
  have A1 : Below w.heap.size w (w.alloc (.cells #[.int .i64 8, .int .i64 a, .int .i64 b, .int .i64 0, .bool false, .string s, .slice (some ⟨g, off, none⟩) n cap] 36)) := (Below.refl _ _).alloc (Nat.le_refl _) _
  have F1 : Fb w.heap.size 8 a b 0 false s g off n cap (w.alloc (.cells #[.int .i64 8, .int .i64 a, .int .i64 b, .int .i64 0, .bool false, .string s, .slice (some ⟨g, off, none⟩) n cap] 36)) := heap_new w _
  have O1 : Ow base (w.alloc (.cells #[.int .i64 8, .int .i64 a, .int .i64 b, .int .i64 0, .bool false, .string s, .slice (some ⟨g, off, none⟩) n cap] 36)) v xs := h.alloc _
  have HN := hide (nums1 v xs a (w.heap.size + 1) _ base O1 (Nat.le_trans hbase A1.size) (htz.below A1) hg1 (by omega) (by simp) ⟨ha0, ha1⟩)
  have HF := hide F1
  have HO := hide O1
  have HA := hide A1
  have HT := hide htz
  clear A1 F1 O1 h htz
  go_enter Tryd.func33, Tryd.ntmps33
  go_wp2_with fail
  refine (unhide HN).mono ?_
  rintro e w2 ⟨v2, rfl, o2, g2⟩
  have F2 := g2.keep (unhide HF) ((unhide HO).far (unhide HF) (by decide))
  have B2 : Below base w w2 := ((unhide HA).mono hbase).trans (g2.below (unhide HO) (Nat.le_trans hbase (unhide HA).size))
  have S2 := sf_mk F2
  obtain ⟨c0, c1, c2, c3, c4, c5, c6, c7⟩ := S2
  have HM := hide (nums1 v2 _ b w2.heap.size w2 base o2 (Nat.le_trans hbase B2.size) ((unhide HT).kept B2 hg1) hg1 (by rw [List.length_append]; omega) rfl ⟨hb0, hb1⟩)
  have HF2 := hide F2
  have HO2 := hide o2
  clear F2 o2 g2
  go_wp2_with fail
  refine (unhide HM).mono ?_
  rintro e w3 ⟨v3, rfl, o3, g3⟩
  have F3 := g3.keep (unhide HF2) ((unhide HO2).far (unhide HF2) (by decide))
  have B3 : Below base w w3 := B2.trans (g3.below (unhide HO2) (Nat.le_trans hbase B2.size))
  obtain ⟨d0, d1, d2, d3, d4, d5, d6, d7⟩ := sf_mk F3
  clear c0 c1 c2 c3 c4 c5 c6 c7 F3 g3
  have HZ := hide (appendSized_ow v3 _ s w3 base o3 (Nat.le_trans hbase B3.size) ((unhide HT).kept B3 hg1) hg1 (by rw [List.length_append, List.length_append]; omega) (by omega))
  clear o3
  go_wp2_with fail
  refine (unhide HZ).mono ?_
  rintro e w4 ⟨v4, rfl, o4, b4, k4⟩
  go_wp2
  go_ret
  exact ⟨_, rfl, by simpa [List.append_assoc] using o4, B3.trans b4⟩

set_option maxRecDepth 100000 in
set_option maxHeartbeats 2000000 in
theorem appendStream_0T (v : Value) (xs : List UInt8) (a : Int) (s : ByteArray) (g off n cap : Nat) (w : World) (base : Nat) (h : Ow base w v xs) (hbase : base ≤ w.heap.size) (htz : Tz w) (hg1 : 1 < base) (hlen : xs.length ≤ 1000000) (hs : s.size ≤ 1000) (ha0 : 0 ≤ a) (ha1 : a ≤ 4611686018427387903) :
    Calls Tryd.prog 33 #[v, fv 8 a 0 0 true s g off n cap] w fun e w' => ∃ v', e = .returned v' ∧ Ow base w' v' (xs ++ (vb a ++ (vb s.size ++ s.data.toList))) ∧ Below base w w' := by
  have hla := vb_le a
  have A1 : Below w.heap.size w (w.alloc (.cells #[.int .i64 8, .int .i64 a, .int .i64 0, .int .i64 0, .bool true, .string s, .slice (some ⟨g, off, none⟩) n cap] 36)) := (Below.refl _ _).alloc (Nat.le_refl _) _
  have F1 : Fb w.heap.size 8 a 0 0 true s g off n cap (w.alloc (.cells #[.int .i64 8, .int .i64 a, .int .i64 0, .int .i64 0, .bool true, .string s, .slice (some ⟨g, off, none⟩) n cap] 36)) := heap_new w _
  have O1 : Ow base (w.alloc (.cells #[.int .i64 8, .int .i64 a, .int .i64 0, .int .i64 0, .bool true, .string s, .slice (some ⟨g, off, none⟩) n cap] 36)) v xs := h.alloc _
  have HN := hide (nums1 v xs a (w.heap.size + 1) _ base O1 (Nat.le_trans hbase A1.size) (htz.below A1) hg1 (by omega) (by simp) ⟨ha0, ha1⟩)
  have HF := hide F1
  have HO := hide O1
  have HA := hide A1
  have HT := hide htz
  clear A1 F1 O1 h htz
  go_enter Tryd.func33, Tryd.ntmps33
  go_wp2_with fail
  refine (unhide HN).mono ?_
  rintro e w2 ⟨v2, rfl, o2, g2⟩
  have F2 := g2.keep (unhide HF) ((unhide HO).far (unhide HF) (by decide))
  have B2 : Below base w w2 := ((unhide HA).mono hbase).trans (g2.below (unhide HO) (Nat.le_trans hbase (unhide HA).size))
  have S2 := sf_mk F2
  obtain ⟨c0, c1, c2, c3, c4, c5, c6, c7⟩ := S2
  have HZ := hide (appendSized_ow v2 _ s w2 base o2 (Nat.le_trans hbase B2.size) ((unhide HT).kept B2 hg1) hg1 (by rw [List.length_append]; omega) (by omega))
  clear o2 F2 g2
  go_wp2_with fail
  refine (unhide HZ).mono ?_
  rintro e w4 ⟨v4, rfl, o4, b4, k4⟩
  go_wp2
  go_ret
  exact ⟨_, rfl, by simpa [List.append_assoc] using o4, B2.trans b4⟩

set_option maxRecDepth 100000 in
set_option maxHeartbeats 2000000 in
theorem appendStream_1T (v : Value) (xs : List UInt8) (a b : Int) (s : ByteArray) (g off n cap : Nat) (w : World) (base : Nat) (h : Ow base w v xs) (hbase : base ≤ w.heap.size) (htz : Tz w) (hg1 : 1 < base) (hlen : xs.length ≤ 1000000) (hs : s.size ≤ 1000) (ha0 : 0 ≤ a) (ha1 : a ≤ 4611686018427387903) (hb0 : 0 ≤ b) (hb1 : b ≤ 4611686018427387903) (hbz : (b != 0) = true) :
    Calls Tryd.prog 33 #[v, fv 8 a b 0 true s g off n cap] w fun e w' => ∃ v', e = .returned v' ∧ Ow base w' v' (xs ++ (vb a ++ vb b ++ (vb s.size ++ s.data.toList))) ∧ Below base w w' := by
  have hla := vb_le a
  have hlb := vb_le b
  have A1 : Below w.heap.size w (w.alloc (.cells #[.int .i64 8, .int .i64 a, .int .i64 b, .int .i64 0, .bool true, .string s, .slice (some ⟨g, off, none⟩) n cap] 36)) := (Below.refl _ _).alloc (Nat.le_refl _) _
  have F1 : Fb w.heap.size 8 a b 0 true s g off n cap (w.alloc (.cells #[.int .i64 8, .int .i64 a, .int .i64 b, .int .i64 0, .bool true, .string s, .slice (some ⟨g, off, none⟩) n cap] 36)) := heap_new w _
  have O1 : Ow base (w.alloc (.cells #[.int .i64 8, .int .i64 a, .int .i64 b, .int .i64 0, .bool true, .string s, .slice (some ⟨g, off, none⟩) n cap] 36)) v xs := h.alloc _
  have HN := hide (nums1 v xs a (w.heap.size + 1) _ base O1 (Nat.le_trans hbase A1.size) (htz.below A1) hg1 (by omega) (by simp) ⟨ha0, ha1⟩)
  have HF := hide F1
  have HO := hide O1
  have HA := hide A1
  have HT := hide htz
  clear A1 F1 O1 h htz
  go_enter Tryd.func33, Tryd.ntmps33
  go_wp2_with fail
  refine (unhide HN).mono ?_
  rintro e w2 ⟨v2, rfl, o2, g2⟩
  have F2 := g2.keep (unhide HF) ((unhide HO).far (unhide HF) (by decide))
  have B2 : Below base w w2 := ((unhide HA).mono hbase).trans (g2.below (unhide HO) (Nat.le_trans hbase (unhide HA).size))
  have S2 := sf_mk F2
  obtain ⟨c0, c1, c2, c3, c4, c5, c6, c7⟩ := S2
  have HM := hide (nums1 v2 _ b w2.heap.size w2 base o2 (Nat.le_trans hbase B2.size) ((unhide HT).kept B2 hg1) hg1 (by rw [List.length_append]; omega) rfl ⟨hb0, hb1⟩)
  have HF2 := hide F2
  have HO2 := hide o2
  clear F2 o2 g2
  go_wp2_with fail
  refine (unhide HM).mono ?_
  rintro e w3 ⟨v3, rfl, o3, g3⟩
  have F3 := g3.keep (unhide HF2) ((unhide HO2).far (unhide HF2) (by decide))
  have B3 : Below base w w3 := B2.trans (g3.below (unhide HO2) (Nat.le_trans hbase B2.size))
  obtain ⟨d0, d1, d2, d3, d4, d5, d6, d7⟩ := sf_mk F3
  clear c0 c1 c2 c3 c4 c5 c6 c7 F3 g3
  have HZ := hide (appendSized_ow v3 _ s w3 base o3 (Nat.le_trans hbase B3.size) ((unhide HT).kept B3 hg1) hg1 (by rw [List.length_append, List.length_append]; omega) (by omega))
  clear o3
  go_wp2_with fail
  refine (unhide HZ).mono ?_
  rintro e w4 ⟨v4, rfl, o4, b4, k4⟩
  go_wp2
  go_ret
  exact ⟨_, rfl, by simpa [List.append_assoc] using o4, B3.trans b4⟩

set_option maxRecDepth 100000 in
set_option maxHeartbeats 2000000 in
theorem appendFrame_0 (v : Value) (xs : List UInt8) (s : ByteArray) (g off n cap : Nat) (w : World) (base : Nat) (h : Ow base w v xs) (hbase : base ≤ w.heap.size) (htz : Tz w) (hg1 : 1 < base) (hlen : xs.length ≤ 900000) (hs : s.size ≤ 1000) :
    Calls Tryd.prog 14 #[v, fv 0 0 0 0 false s g off n cap] w fun e w' => ∃ v', e = .returned v' ∧ Ow base w' v' (xs ++ (vb 0)) ∧ Below base w w' := by
  have hlk := vb_le 0
  have A1 : Below w.heap.size w (w.alloc (.cells #[.int .i64 0, .int .i64 0, .int .i64 0, .int .i64 0, .bool false, .string s, .slice (some ⟨g, off, none⟩) n cap] 36)) := (Below.refl _ _).alloc (Nat.le_refl _) _
  have F1 : Fb w.heap.size 0 0 0 0 false s g off n cap (w.alloc (.cells #[.int .i64 0, .int .i64 0, .int .i64 0, .int .i64 0, .bool false, .string s, .slice (some ⟨g, off, none⟩) n cap] 36)) := heap_new w _
  have O1 : Ow base (w.alloc (.cells #[.int .i64 0, .int .i64 0, .int .i64 0, .int .i64 0, .bool false, .string s, .slice (some ⟨g, off, none⟩) n cap] 36)) v xs := h.alloc _
  have HT := hide htz
  have HF := hide F1
  have HO := hide O1
  have HA := hide A1
  clear A1 F1 O1 h htz
  go_enter Tryd.func14, Tryd.ntmps14
  go_wp2_with fail
  refine (toldKind_any 0 0 0 0 0 false s g off n cap _ (Or.inr (Or.inr (Or.inr (Or.inr (Or.inr ⟨by decide, by decide, rfl⟩)))))).mono ?_
  rintro e w1 ⟨rfl, hb1⟩
  have FA : Fb w.heap.size 0 0 0 0 false s g off n cap w1 := (hb1.block w.heap.size (by simp)).trans (unhide HF)
  have OA : Ow base w1 v xs := (unhide HO).later hb1
  have BA : Below base w w1 := ((unhide HA).trans (hb1.mono (unhide HA).size)).mono hbase
  have HV := hide (appendVarint_ow v xs 0 w1 base OA (Nat.le_trans hbase BA.size) ((unhide HT).kept BA hg1) hg1 (by omega) (by omega) (by omega))
  clear hb1
  go_wp2_with fail
  refine (unhide HV).mono ?_
  rintro e w2 ⟨v2, rfl, o2, g2⟩
  have F2 := g2.keep FA (OA.far FA (by decide))
  have B2 : Below base w w2 := BA.trans (g2.below OA (Nat.le_trans hbase BA.size))
  have T2 := (unhide HT).kept B2 hg1
  have hb2 := Nat.le_trans hbase B2.size
  clear FA OA BA HV g2
  have HF2 := hide F2
  have HO2 := hide o2
  have HT2 := hide T2
  clear T2 o2
  obtain ⟨c0, c1, c2, c3, c4, c5, c6, c7⟩ := sf_mk F2
  clear F2
  go_wp2
  go_ret
  exact ⟨_, rfl, unhide HO2, B2⟩

set_option maxRecDepth 100000 in
set_option maxHeartbeats 2000000 in
theorem appendFrame_1 (v : Value) (xs : List UInt8) (s : ByteArray) (g off n cap : Nat) (w : World) (base : Nat) (h : Ow base w v xs) (hbase : base ≤ w.heap.size) (htz : Tz w) (hg1 : 1 < base) (hlen : xs.length ≤ 900000) (hs : s.size ≤ 1000) :
    Calls Tryd.prog 14 #[v, fv 1 0 0 0 false s g off n cap] w fun e w' => ∃ v', e = .returned v' ∧ Ow base w' v' (xs ++ (vb 1)) ∧ Below base w w' := by
  have hlk := vb_le 1
  have A1 : Below w.heap.size w (w.alloc (.cells #[.int .i64 1, .int .i64 0, .int .i64 0, .int .i64 0, .bool false, .string s, .slice (some ⟨g, off, none⟩) n cap] 36)) := (Below.refl _ _).alloc (Nat.le_refl _) _
  have F1 : Fb w.heap.size 1 0 0 0 false s g off n cap (w.alloc (.cells #[.int .i64 1, .int .i64 0, .int .i64 0, .int .i64 0, .bool false, .string s, .slice (some ⟨g, off, none⟩) n cap] 36)) := heap_new w _
  have O1 : Ow base (w.alloc (.cells #[.int .i64 1, .int .i64 0, .int .i64 0, .int .i64 0, .bool false, .string s, .slice (some ⟨g, off, none⟩) n cap] 36)) v xs := h.alloc _
  have HT := hide htz
  have HF := hide F1
  have HO := hide O1
  have HA := hide A1
  clear A1 F1 O1 h htz
  go_enter Tryd.func14, Tryd.ntmps14
  go_wp2_with fail
  refine (toldKind_any 1 0 0 0 1 false s g off n cap _ (Or.inr (Or.inr (Or.inr (Or.inr (Or.inr ⟨by decide, by decide, rfl⟩)))))).mono ?_
  rintro e w1 ⟨rfl, hb1⟩
  have FA : Fb w.heap.size 1 0 0 0 false s g off n cap w1 := (hb1.block w.heap.size (by simp)).trans (unhide HF)
  have OA : Ow base w1 v xs := (unhide HO).later hb1
  have BA : Below base w w1 := ((unhide HA).trans (hb1.mono (unhide HA).size)).mono hbase
  have HV := hide (appendVarint_ow v xs 1 w1 base OA (Nat.le_trans hbase BA.size) ((unhide HT).kept BA hg1) hg1 (by omega) (by omega) (by omega))
  clear hb1
  go_wp2_with fail
  refine (unhide HV).mono ?_
  rintro e w2 ⟨v2, rfl, o2, g2⟩
  have F2 := g2.keep FA (OA.far FA (by decide))
  have B2 : Below base w w2 := BA.trans (g2.below OA (Nat.le_trans hbase BA.size))
  have T2 := (unhide HT).kept B2 hg1
  have hb2 := Nat.le_trans hbase B2.size
  clear FA OA BA HV g2
  have HF2 := hide F2
  have HO2 := hide o2
  have HT2 := hide T2
  clear T2 o2
  obtain ⟨c0, c1, c2, c3, c4, c5, c6, c7⟩ := sf_mk F2
  clear F2
  go_wp2
  go_ret
  exact ⟨_, rfl, unhide HO2, B2⟩

set_option maxRecDepth 100000 in
set_option maxHeartbeats 2000000 in
theorem appendFrame_16 (v : Value) (xs : List UInt8) (a : Int) (s : ByteArray) (g off n cap : Nat) (w : World) (base : Nat) (h : Ow base w v xs) (hbase : base ≤ w.heap.size) (htz : Tz w) (hg1 : 1 < base) (hlen : xs.length ≤ 900000) (hs : s.size ≤ 1000) (ha0 : 0 ≤ a) (ha1 : a ≤ 4611686018427387903) :
    Calls Tryd.prog 14 #[v, fv 16 a 0 0 false s g off n cap] w fun e w' => ∃ v', e = .returned v' ∧ Ow base w' v' (xs ++ (vb 16 ++ vb a)) ∧ Below base w w' := by
  have hlk := vb_le 16
  have hl0 := vb_le a
  have A1 : Below w.heap.size w (w.alloc (.cells #[.int .i64 16, .int .i64 a, .int .i64 0, .int .i64 0, .bool false, .string s, .slice (some ⟨g, off, none⟩) n cap] 36)) := (Below.refl _ _).alloc (Nat.le_refl _) _
  have F1 : Fb w.heap.size 16 a 0 0 false s g off n cap (w.alloc (.cells #[.int .i64 16, .int .i64 a, .int .i64 0, .int .i64 0, .bool false, .string s, .slice (some ⟨g, off, none⟩) n cap] 36)) := heap_new w _
  have O1 : Ow base (w.alloc (.cells #[.int .i64 16, .int .i64 a, .int .i64 0, .int .i64 0, .bool false, .string s, .slice (some ⟨g, off, none⟩) n cap] 36)) v xs := h.alloc _
  have HT := hide htz
  have HF := hide F1
  have HO := hide O1
  have HA := hide A1
  clear A1 F1 O1 h htz
  go_enter Tryd.func14, Tryd.ntmps14
  go_wp2_with fail
  refine (toldKind_any 16 a 0 0 16 false s g off n cap _ (Or.inr (Or.inr (Or.inr (Or.inr (Or.inr ⟨by decide, by decide, rfl⟩)))))).mono ?_
  rintro e w1 ⟨rfl, hb1⟩
  have FA : Fb w.heap.size 16 a 0 0 false s g off n cap w1 := (hb1.block w.heap.size (by simp)).trans (unhide HF)
  have OA : Ow base w1 v xs := (unhide HO).later hb1
  have BA : Below base w w1 := ((unhide HA).trans (hb1.mono (unhide HA).size)).mono hbase
  have HV := hide (appendVarint_ow v xs 16 w1 base OA (Nat.le_trans hbase BA.size) ((unhide HT).kept BA hg1) hg1 (by omega) (by omega) (by omega))
  clear hb1
  go_wp2_with fail
  refine (unhide HV).mono ?_
  rintro e w2 ⟨v2, rfl, o2, g2⟩
  have F2 := g2.keep FA (OA.far FA (by decide))
  have B2 : Below base w w2 := BA.trans (g2.below OA (Nat.le_trans hbase BA.size))
  have T2 := (unhide HT).kept B2 hg1
  have hb2 := Nat.le_trans hbase B2.size
  clear FA OA BA HV g2
  have HF2 := hide F2
  have HO2 := hide o2
  have HT2 := hide T2
  clear T2 o2
  obtain ⟨c0, c1, c2, c3, c4, c5, c6, c7⟩ := sf_mk F2
  clear F2
  have HM := hide (nums1 v2 _ a w2.heap.size w2 base (unhide HO2) hb2 (unhide HT2) hg1 (by rw [List.length_append]; omega) rfl ⟨ha0, ha1⟩)
  go_wp2_with fail
  refine (unhide HM).mono ?_
  rintro e w3 ⟨v3, rfl, o3, g3⟩
  have B3 : Below base w w3 := B2.trans (g3.below (unhide HO2) hb2)
  clear g3
  go_wp2
  go_ret
  exact ⟨_, rfl, by simpa [List.append_assoc] using o3, B3⟩

set_option maxRecDepth 100000 in
set_option maxHeartbeats 2000000 in
theorem appendFrame_17 (v : Value) (xs : List UInt8) (a b : Int) (s : ByteArray) (g off n cap : Nat) (w : World) (base : Nat) (h : Ow base w v xs) (hbase : base ≤ w.heap.size) (htz : Tz w) (hg1 : 1 < base) (hlen : xs.length ≤ 900000) (hs : s.size ≤ 1000) (ha0 : 0 ≤ a) (ha1 : a ≤ 4611686018427387903) (hb0 : 0 ≤ b) (hb1 : b ≤ 4611686018427387903) :
    Calls Tryd.prog 14 #[v, fv 17 a b 0 false s g off n cap] w fun e w' => ∃ v', e = .returned v' ∧ Ow base w' v' (xs ++ (vb 17 ++ (vb a ++ vb b))) ∧ Below base w w' := by
  have hlk := vb_le 17
  have hl0 := vb_le a
  have hl1 := vb_le b
  have A1 : Below w.heap.size w (w.alloc (.cells #[.int .i64 17, .int .i64 a, .int .i64 b, .int .i64 0, .bool false, .string s, .slice (some ⟨g, off, none⟩) n cap] 36)) := (Below.refl _ _).alloc (Nat.le_refl _) _
  have F1 : Fb w.heap.size 17 a b 0 false s g off n cap (w.alloc (.cells #[.int .i64 17, .int .i64 a, .int .i64 b, .int .i64 0, .bool false, .string s, .slice (some ⟨g, off, none⟩) n cap] 36)) := heap_new w _
  have O1 : Ow base (w.alloc (.cells #[.int .i64 17, .int .i64 a, .int .i64 b, .int .i64 0, .bool false, .string s, .slice (some ⟨g, off, none⟩) n cap] 36)) v xs := h.alloc _
  have HT := hide htz
  have HF := hide F1
  have HO := hide O1
  have HA := hide A1
  clear A1 F1 O1 h htz
  go_enter Tryd.func14, Tryd.ntmps14
  go_wp2_with fail
  refine (toldKind_any 17 a b 0 17 false s g off n cap _ (Or.inr (Or.inr (Or.inr (Or.inr (Or.inr ⟨by decide, by decide, rfl⟩)))))).mono ?_
  rintro e w1 ⟨rfl, hb1⟩
  have FA : Fb w.heap.size 17 a b 0 false s g off n cap w1 := (hb1.block w.heap.size (by simp)).trans (unhide HF)
  have OA : Ow base w1 v xs := (unhide HO).later hb1
  have BA : Below base w w1 := ((unhide HA).trans (hb1.mono (unhide HA).size)).mono hbase
  have HV := hide (appendVarint_ow v xs 17 w1 base OA (Nat.le_trans hbase BA.size) ((unhide HT).kept BA hg1) hg1 (by omega) (by omega) (by omega))
  clear hb1
  go_wp2_with fail
  refine (unhide HV).mono ?_
  rintro e w2 ⟨v2, rfl, o2, g2⟩
  have F2 := g2.keep FA (OA.far FA (by decide))
  have B2 : Below base w w2 := BA.trans (g2.below OA (Nat.le_trans hbase BA.size))
  have T2 := (unhide HT).kept B2 hg1
  have hb2 := Nat.le_trans hbase B2.size
  clear FA OA BA HV g2
  have HF2 := hide F2
  have HO2 := hide o2
  have HT2 := hide T2
  clear T2 o2
  obtain ⟨c0, c1, c2, c3, c4, c5, c6, c7⟩ := sf_mk F2
  clear F2
  have HM := hide (nums2 v2 _ a b w2.heap.size w2 base (unhide HO2) hb2 (unhide HT2) hg1 (by rw [List.length_append]; omega) rfl ⟨ha0, ha1⟩ ⟨hb0, hb1⟩)
  go_wp2_with fail
  refine (unhide HM).mono ?_
  rintro e w3 ⟨v3, rfl, o3, g3⟩
  have B3 : Below base w w3 := B2.trans (g3.below (unhide HO2) hb2)
  clear g3
  go_wp2
  go_ret
  exact ⟨_, rfl, by simpa [List.append_assoc] using o3, B3⟩

set_option maxRecDepth 100000 in
set_option maxHeartbeats 2000000 in
theorem appendFrame_5 (v : Value) (xs : List UInt8) (a b : Int) (s : ByteArray) (g off n cap : Nat) (w : World) (base : Nat) (h : Ow base w v xs) (hbase : base ≤ w.heap.size) (htz : Tz w) (hg1 : 1 < base) (hlen : xs.length ≤ 900000) (hs : s.size ≤ 1000) (ha0 : 0 ≤ a) (ha1 : a ≤ 4611686018427387903) (hb0 : 0 ≤ b) (hb1 : b ≤ 4611686018427387903) :
    Calls Tryd.prog 14 #[v, fv 5 a b 0 false s g off n cap] w fun e w' => ∃ v', e = .returned v' ∧ Ow base w' v' (xs ++ (vb 5 ++ (vb a ++ vb b))) ∧ Below base w w' := by
  have hlk := vb_le 5
  have hl0 := vb_le a
  have hl1 := vb_le b
  have A1 : Below w.heap.size w (w.alloc (.cells #[.int .i64 5, .int .i64 a, .int .i64 b, .int .i64 0, .bool false, .string s, .slice (some ⟨g, off, none⟩) n cap] 36)) := (Below.refl _ _).alloc (Nat.le_refl _) _
  have F1 : Fb w.heap.size 5 a b 0 false s g off n cap (w.alloc (.cells #[.int .i64 5, .int .i64 a, .int .i64 b, .int .i64 0, .bool false, .string s, .slice (some ⟨g, off, none⟩) n cap] 36)) := heap_new w _
  have O1 : Ow base (w.alloc (.cells #[.int .i64 5, .int .i64 a, .int .i64 b, .int .i64 0, .bool false, .string s, .slice (some ⟨g, off, none⟩) n cap] 36)) v xs := h.alloc _
  have HT := hide htz
  have HF := hide F1
  have HO := hide O1
  have HA := hide A1
  clear A1 F1 O1 h htz
  go_enter Tryd.func14, Tryd.ntmps14
  go_wp2_with fail
  refine (toldKind_any 5 a b 0 5 false s g off n cap _ (Or.inr (Or.inr (Or.inr (Or.inr (Or.inr ⟨by decide, by decide, rfl⟩)))))).mono ?_
  rintro e w1 ⟨rfl, hb1⟩
  have FA : Fb w.heap.size 5 a b 0 false s g off n cap w1 := (hb1.block w.heap.size (by simp)).trans (unhide HF)
  have OA : Ow base w1 v xs := (unhide HO).later hb1
  have BA : Below base w w1 := ((unhide HA).trans (hb1.mono (unhide HA).size)).mono hbase
  have HV := hide (appendVarint_ow v xs 5 w1 base OA (Nat.le_trans hbase BA.size) ((unhide HT).kept BA hg1) hg1 (by omega) (by omega) (by omega))
  clear hb1
  go_wp2_with fail
  refine (unhide HV).mono ?_
  rintro e w2 ⟨v2, rfl, o2, g2⟩
  have F2 := g2.keep FA (OA.far FA (by decide))
  have B2 : Below base w w2 := BA.trans (g2.below OA (Nat.le_trans hbase BA.size))
  have T2 := (unhide HT).kept B2 hg1
  have hb2 := Nat.le_trans hbase B2.size
  clear FA OA BA HV g2
  have HF2 := hide F2
  have HO2 := hide o2
  have HT2 := hide T2
  clear T2 o2
  obtain ⟨c0, c1, c2, c3, c4, c5, c6, c7⟩ := sf_mk F2
  clear F2
  have HM := hide (nums2 v2 _ a b w2.heap.size w2 base (unhide HO2) hb2 (unhide HT2) hg1 (by rw [List.length_append]; omega) rfl ⟨ha0, ha1⟩ ⟨hb0, hb1⟩)
  go_wp2_with fail
  refine (unhide HM).mono ?_
  rintro e w3 ⟨v3, rfl, o3, g3⟩
  have B3 : Below base w w3 := B2.trans (g3.below (unhide HO2) hb2)
  clear g3
  go_wp2
  go_ret
  exact ⟨_, rfl, by simpa [List.append_assoc] using o3, B3⟩

set_option maxRecDepth 100000 in
set_option maxHeartbeats 2000000 in
theorem appendFrame_4 (v : Value) (xs : List UInt8) (a b c : Int) (s : ByteArray) (g off n cap : Nat) (w : World) (base : Nat) (h : Ow base w v xs) (hbase : base ≤ w.heap.size) (htz : Tz w) (hg1 : 1 < base) (hlen : xs.length ≤ 900000) (hs : s.size ≤ 1000) (ha0 : 0 ≤ a) (ha1 : a ≤ 4611686018427387903) (hb0 : 0 ≤ b) (hb1 : b ≤ 4611686018427387903) (hc0 : 0 ≤ c) (hc1 : c ≤ 4611686018427387903) :
    Calls Tryd.prog 14 #[v, fv 4 a b c false s g off n cap] w fun e w' => ∃ v', e = .returned v' ∧ Ow base w' v' (xs ++ (vb 4 ++ (vb a ++ vb b ++ vb c))) ∧ Below base w w' := by
  have hlk := vb_le 4
  have hl0 := vb_le a
  have hl1 := vb_le b
  have hl2 := vb_le c
  have A1 : Below w.heap.size w (w.alloc (.cells #[.int .i64 4, .int .i64 a, .int .i64 b, .int .i64 c, .bool false, .string s, .slice (some ⟨g, off, none⟩) n cap] 36)) := (Below.refl _ _).alloc (Nat.le_refl _) _
  have F1 : Fb w.heap.size 4 a b c false s g off n cap (w.alloc (.cells #[.int .i64 4, .int .i64 a, .int .i64 b, .int .i64 c, .bool false, .string s, .slice (some ⟨g, off, none⟩) n cap] 36)) := heap_new w _
  have O1 : Ow base (w.alloc (.cells #[.int .i64 4, .int .i64 a, .int .i64 b, .int .i64 c, .bool false, .string s, .slice (some ⟨g, off, none⟩) n cap] 36)) v xs := h.alloc _
  have HT := hide htz
  have HF := hide F1
  have HO := hide O1
  have HA := hide A1
  clear A1 F1 O1 h htz
  go_enter Tryd.func14, Tryd.ntmps14
  go_wp2_with fail
  refine (toldKind_any 4 a b c 4 false s g off n cap _ (Or.inr (Or.inr (Or.inr (Or.inr (Or.inr ⟨by decide, by decide, rfl⟩)))))).mono ?_
  rintro e w1 ⟨rfl, hb1⟩
  have FA : Fb w.heap.size 4 a b c false s g off n cap w1 := (hb1.block w.heap.size (by simp)).trans (unhide HF)
  have OA : Ow base w1 v xs := (unhide HO).later hb1
  have BA : Below base w w1 := ((unhide HA).trans (hb1.mono (unhide HA).size)).mono hbase
  have HV := hide (appendVarint_ow v xs 4 w1 base OA (Nat.le_trans hbase BA.size) ((unhide HT).kept BA hg1) hg1 (by omega) (by omega) (by omega))
  clear hb1
  go_wp2_with fail
  refine (unhide HV).mono ?_
  rintro e w2 ⟨v2, rfl, o2, g2⟩
  have F2 := g2.keep FA (OA.far FA (by decide))
  have B2 : Below base w w2 := BA.trans (g2.below OA (Nat.le_trans hbase BA.size))
  have T2 := (unhide HT).kept B2 hg1
  have hb2 := Nat.le_trans hbase B2.size
  clear FA OA BA HV g2
  have HF2 := hide F2
  have HO2 := hide o2
  have HT2 := hide T2
  clear T2 o2
  obtain ⟨c0, c1, c2, c3, c4, c5, c6, c7⟩ := sf_mk F2
  clear F2
  have HM := hide (nums3 v2 _ a b c w2.heap.size w2 base (unhide HO2) hb2 (unhide HT2) hg1 (by rw [List.length_append]; omega) rfl ⟨ha0, ha1⟩ ⟨hb0, hb1⟩ ⟨hc0, hc1⟩)
  go_wp2_with fail
  refine (unhide HM).mono ?_
  rintro e w3 ⟨v3, rfl, o3, g3⟩
  have B3 : Below base w w3 := B2.trans (g3.below (unhide HO2) hb2)
  clear g3
  go_wp2
  go_ret
  exact ⟨_, rfl, by simpa [List.append_assoc] using o3, B3⟩

set_option maxRecDepth 100000 in
set_option maxHeartbeats 2000000 in
theorem appendFrame_7 (v : Value) (xs : List UInt8) (s : ByteArray) (g off n cap : Nat) (w : World) (base : Nat) (h : Ow base w v xs) (hbase : base ≤ w.heap.size) (htz : Tz w) (hg1 : 1 < base) (hlen : xs.length ≤ 900000) (hs : s.size ≤ 1000) :
    Calls Tryd.prog 14 #[v, fv 7 0 0 0 false s g off n cap] w fun e w' => ∃ v', e = .returned v' ∧ Ow base w' v' (xs ++ (vb 7 ++ (vb s.size ++ s.data.toList))) ∧ Below base w w' := by
  have hlk := vb_le 7
  have A1 : Below w.heap.size w (w.alloc (.cells #[.int .i64 7, .int .i64 0, .int .i64 0, .int .i64 0, .bool false, .string s, .slice (some ⟨g, off, none⟩) n cap] 36)) := (Below.refl _ _).alloc (Nat.le_refl _) _
  have F1 : Fb w.heap.size 7 0 0 0 false s g off n cap (w.alloc (.cells #[.int .i64 7, .int .i64 0, .int .i64 0, .int .i64 0, .bool false, .string s, .slice (some ⟨g, off, none⟩) n cap] 36)) := heap_new w _
  have O1 : Ow base (w.alloc (.cells #[.int .i64 7, .int .i64 0, .int .i64 0, .int .i64 0, .bool false, .string s, .slice (some ⟨g, off, none⟩) n cap] 36)) v xs := h.alloc _
  have HT := hide htz
  have HF := hide F1
  have HO := hide O1
  have HA := hide A1
  clear A1 F1 O1 h htz
  go_enter Tryd.func14, Tryd.ntmps14
  go_wp2_with fail
  refine (toldKind_any 7 0 0 0 7 false s g off n cap _ (Or.inr (Or.inr (Or.inr (Or.inr (Or.inr ⟨by decide, by decide, rfl⟩)))))).mono ?_
  rintro e w1 ⟨rfl, hb1⟩
  have FA : Fb w.heap.size 7 0 0 0 false s g off n cap w1 := (hb1.block w.heap.size (by simp)).trans (unhide HF)
  have OA : Ow base w1 v xs := (unhide HO).later hb1
  have BA : Below base w w1 := ((unhide HA).trans (hb1.mono (unhide HA).size)).mono hbase
  have HV := hide (appendVarint_ow v xs 7 w1 base OA (Nat.le_trans hbase BA.size) ((unhide HT).kept BA hg1) hg1 (by omega) (by omega) (by omega))
  clear hb1
  go_wp2_with fail
  refine (unhide HV).mono ?_
  rintro e w2 ⟨v2, rfl, o2, g2⟩
  have F2 := g2.keep FA (OA.far FA (by decide))
  have B2 : Below base w w2 := BA.trans (g2.below OA (Nat.le_trans hbase BA.size))
  have T2 := (unhide HT).kept B2 hg1
  have hb2 := Nat.le_trans hbase B2.size
  clear FA OA BA HV g2
  have HF2 := hide F2
  have HO2 := hide o2
  have HT2 := hide T2
  clear T2 o2
  obtain ⟨c0, c1, c2, c3, c4, c5, c6, c7⟩ := sf_mk F2
  clear F2
  have HZ := hide (appendSized_ow v2 _ s w2 base (unhide HO2) hb2 (unhide HT2) hg1 (by rw [List.length_append]; omega) (by omega))
  go_wp2_with fail
  refine (unhide HZ).mono ?_
  rintro e w4 ⟨v4, rfl, o4, b4, k4⟩
  go_wp2
  go_ret
  exact ⟨_, rfl, by simpa [List.append_assoc] using o4, B2.trans b4⟩

set_option maxRecDepth 100000 in
set_option maxHeartbeats 2000000 in
theorem appendFrame_48 (v : Value) (xs : List UInt8) (s : ByteArray) (g off n cap : Nat) (w : World) (base : Nat) (h : Ow base w v xs) (hbase : base ≤ w.heap.size) (htz : Tz w) (hg1 : 1 < base) (hlen : xs.length ≤ 900000) (hs : s.size ≤ 1000) :
    Calls Tryd.prog 14 #[v, fv 48 0 0 0 false s g off n cap] w fun e w' => ∃ v', e = .returned v' ∧ Ow base w' v' (xs ++ (vb 49 ++ (vb s.size ++ s.data.toList))) ∧ Below base w w' := by
  have hlk := vb_le 49
  have A1 : Below w.heap.size w (w.alloc (.cells #[.int .i64 48, .int .i64 0, .int .i64 0, .int .i64 0, .bool false, .string s, .slice (some ⟨g, off, none⟩) n cap] 36)) := (Below.refl _ _).alloc (Nat.le_refl _) _
  have F1 : Fb w.heap.size 48 0 0 0 false s g off n cap (w.alloc (.cells #[.int .i64 48, .int .i64 0, .int .i64 0, .int .i64 0, .bool false, .string s, .slice (some ⟨g, off, none⟩) n cap] 36)) := heap_new w _
  have O1 : Ow base (w.alloc (.cells #[.int .i64 48, .int .i64 0, .int .i64 0, .int .i64 0, .bool false, .string s, .slice (some ⟨g, off, none⟩) n cap] 36)) v xs := h.alloc _
  have HT := hide htz
  have HF := hide F1
  have HO := hide O1
  have HA := hide A1
  clear A1 F1 O1 h htz
  go_enter Tryd.func14, Tryd.ntmps14
  go_wp2_with fail
  refine (toldKind_any 48 0 0 0 49 false s g off n cap _ (Or.inl ⟨rfl, rfl⟩)).mono ?_
  rintro e w1 ⟨rfl, hb1⟩
  have FA : Fb w.heap.size 48 0 0 0 false s g off n cap w1 := (hb1.block w.heap.size (by simp)).trans (unhide HF)
  have OA : Ow base w1 v xs := (unhide HO).later hb1
  have BA : Below base w w1 := ((unhide HA).trans (hb1.mono (unhide HA).size)).mono hbase
  have HV := hide (appendVarint_ow v xs 49 w1 base OA (Nat.le_trans hbase BA.size) ((unhide HT).kept BA hg1) hg1 (by omega) (by omega) (by omega))
  clear hb1
  go_wp2_with fail
  refine (unhide HV).mono ?_
  rintro e w2 ⟨v2, rfl, o2, g2⟩
  have F2 := g2.keep FA (OA.far FA (by decide))
  have B2 : Below base w w2 := BA.trans (g2.below OA (Nat.le_trans hbase BA.size))
  have T2 := (unhide HT).kept B2 hg1
  have hb2 := Nat.le_trans hbase B2.size
  clear FA OA BA HV g2
  have HF2 := hide F2
  have HO2 := hide o2
  have HT2 := hide T2
  clear T2 o2
  obtain ⟨c0, c1, c2, c3, c4, c5, c6, c7⟩ := sf_mk F2
  clear F2
  have HZ := hide (appendSized_ow v2 _ s w2 base (unhide HO2) hb2 (unhide HT2) hg1 (by rw [List.length_append]; omega) (by omega))
  go_wp2_with fail
  refine (unhide HZ).mono ?_
  rintro e w4 ⟨v4, rfl, o4, b4, k4⟩
  go_wp2
  go_ret
  exact ⟨_, rfl, by simpa [List.append_assoc] using o4, B2.trans b4⟩
end Go.Proofs.YtcnpbcigndcheaaDoor
