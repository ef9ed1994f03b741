/-
  Contracts: what follows a header's first byte, as the program puts it behind a slice that the call owns, form by form.
-/
import Derived.Test.YtmajcpimahkpfaaDoorNad
import Derived.Test.YtmajcpimahkpfaaDoorGta
namespace Go.Proofs.YtmajcpimahkpfaaDoor
open Go.ChangeShapes Go.WideShapes Go.ChangeAt Go.RowKit
set_option linter.unusedVariables false

/-- Version and both ids -/
def AD (ve : Int) (d s : ByteArray) : List UInt8 := fx ve 4 4 ++ (fx (d.size : Int) 1 1 ++ (d.data.toList ++ (fx (s.size : Int) 1 1 ++ s.data.toList)))
theorem AD_length (ve : Int) (d s : ByteArray) : (AD ve d s).length = 6 + d.size + s.size := by
  have h1 : d.data.toList.length = d.size := by simp
  have h2 : s.data.toList.length = s.size := by simp
  unfold AD
  simp only [List.length_append, fx_length, h1, h2]; omega
theorem str_len (s : ByteArray) : s.data.toList.length = s.size := by simp

set_option maxRecDepth 100000 in
set_option maxHeartbeats 2000000 in
theorem ap_0 (v : Value) (xs : List UInt8) (bi ve : Int) (d s t p : ByteArray) (ra : Option Addr) (n cap : Nat) (w : World) (base : Nat) (h : Ow base w v xs) (hbase : base ≤ w.heap.size) (htz : Tz w) (hg1 : 1 < base) (hlen : xs.length ≤ 100000) (hd : d.size ≤ 20) (hs : s.size ≤ 20) (ht : t.size ≤ 200) (hp : p.size ≤ 1200) (hv0 : 0 ≤ ve) (hv1 : ve ≤ 4294967295) :
    Calls Tryd.prog 13 #[v, .iface 58 (.agg #[]), hv 0 bi ve d s t p ra n cap] w fun e w' => ∃ v', e = .returned v' ∧ Ow base w' v' (xs ++ (AD ve d s ++ ((vb t.size ++ t.data.toList) ++ (fx ((p.size : Int) + 16384) 2 2 ++ p.data.toList)))) ∧ Below base w w' := by
  have lAD := AD_length ve d s
  have lt := str_len t
  have lv := vb_le (t.size : Int)
  have t0 := ta_00
  have t1 := ta_01
  have t2 := ta_02
  have t3 := ta_03
  have t4 := ta_04
  have O0 : Ow base (w.alloc (.cells #[.int .i64 0, .int .i64 bi, .int .i64 ve, .string d, .string s, .string t, .string p, .slice ra n cap] 25)).drew v xs := (h.alloc _).drew
  have F0 : Hb w.heap.size 0 bi ve d s t p ra n cap (w.alloc (.cells #[.int .i64 0, .int .i64 bi, .int .i64 ve, .string d, .string s, .string t, .string p, .slice ra n cap] 25)).drew := heap_drew' (heap_new w _)
  have B0 : Below base w (w.alloc (.cells #[.int .i64 0, .int .i64 bi, .int .i64 ve, .string d, .string s, .string t, .string p, .slice ra n cap] 25)).drew := ((Below.refl _ _).alloc hbase _).drew
  have F00 : Hb w.heap.size 0 bi ve d s t p ra n cap (w.alloc (.cells #[.int .i64 0, .int .i64 bi, .int .i64 ve, .string d, .string s, .string t, .string p, .slice ra n cap] 25)) := heap_new w _
  have HT := hide htz
  have HF0 := hide F00
  have HA := hide (appendAddress_ow v xs 0 bi ve d s t p ra n cap _ base O0 (by simp; omega) (by omega) hd hs hv0 hv1)
  have HJ := hide (fun (w1 : World) (b1 : Below base (w.alloc (.cells #[.int .i64 0, .int .i64 bi, .int .i64 ve, .string d, .string s, .string t, .string p, .slice ra n cap] 25)).drew w1) (k1 : Kn (w.alloc (.cells #[.int .i64 0, .int .i64 bi, .int .i64 ve, .string d, .string s, .string t, .string p, .slice ra n cap] 25)).drew w1) => And.intro (k1 _ _ _ _ F0 (by decide)) (B0.trans b1))
  obtain ⟨c0, c1, c2, c3, c4, c5, c6, c7, c8⟩ := sh_mk F00
  clear h htz O0 F0 F00 B0
  go_enter Tryd.func13, Tryd.ntmps13
  go_wp2_with fail
  go_region_held3 (fun W => Sh w.heap.size 0 bi ve d s t p ra n cap W) (first | assumption | exact sh_mk F2 | exact sh_mk F1 | exact sh_alloc _ (by assumption) | exact sh_mk (unhide HF0)) (first | (go_at_call 26; refine (unhide HA).mono ?_; rintro e w1 ⟨v1, rfl, o1, b1, k1⟩; obtain ⟨F1, B1⟩ := unhide HJ _ b1 k1) | (go_at_call 25; refine (appendSized_ow v1 (xs ++ AD ve d s) t w1 base o1 (Nat.le_trans hbase B1.size) ((unhide HT).kept B1 hg1) hg1 (by rw [List.length_append, lAD]; omega) (by omega)).mono ?_; rintro e w2 ⟨v2, rfl, o2, b2, k2⟩; have F2 := k2 _ _ _ _ F1 (by decide); have B2 := B1.trans b2))
  all_goals
    obtain ⟨d0, d1, d2, d3, d4, d5, d6, d7, d8⟩ := sh_mk F2
    have HP := hide (appendPayload_ow v2 _ p w2 base o2 (Nat.le_trans hbase B2.size) (by simp only [List.length_append, lAD, lt]; omega) hp)
    clear HA HJ HF0 o1 b1 k1 F1 o2 b2 k2 F2
    go_wp2_with (go_at_call 27; refine (unhide HP).mono ?_; rintro e w3 ⟨v3, rfl, o3, b3, k3⟩)
    go_ret
    exact ⟨_, rfl, by simpa [List.append_assoc] using o3, B2.trans b3⟩
set_option maxRecDepth 100000 in
set_option maxHeartbeats 2000000 in
theorem ap_1 (v : Value) (xs : List UInt8) (bi ve : Int) (d s t p : ByteArray) (ra : Option Addr) (n cap : Nat) (w : World) (base : Nat) (h : Ow base w v xs) (hbase : base ≤ w.heap.size) (htz : Tz w) (hg1 : 1 < base) (hlen : xs.length ≤ 100000) (hd : d.size ≤ 20) (hs : s.size ≤ 20) (ht : t.size ≤ 200) (hp : p.size ≤ 1200) (hv0 : 0 ≤ ve) (hv1 : ve ≤ 4294967295) :
    Calls Tryd.prog 13 #[v, .iface 60 (.agg #[.int .i64 1]), hv 1 bi ve d s t p ra n cap] w fun e w' => ∃ v', e = .returned v' ∧ Ow base w' v' (xs ++ (AD ve d s ++ (fx ((p.size : Int) + 16384) 2 2 ++ p.data.toList))) ∧ Below base w w' := by
  have lAD := AD_length ve d s
  have lt := str_len t
  have lv := vb_le (t.size : Int)
  have t0 := ta_10
  have t1 := ta_11
  have t2 := ta_12
  have t3 := ta_13
  have t4 := ta_14
  have O0 : Ow base (w.alloc (.cells #[.int .i64 1, .int .i64 bi, .int .i64 ve, .string d, .string s, .string t, .string p, .slice ra n cap] 25)).drew v xs := (h.alloc _).drew
  have F0 : Hb w.heap.size 1 bi ve d s t p ra n cap (w.alloc (.cells #[.int .i64 1, .int .i64 bi, .int .i64 ve, .string d, .string s, .string t, .string p, .slice ra n cap] 25)).drew := heap_drew' (heap_new w _)
  have B0 : Below base w (w.alloc (.cells #[.int .i64 1, .int .i64 bi, .int .i64 ve, .string d, .string s, .string t, .string p, .slice ra n cap] 25)).drew := ((Below.refl _ _).alloc hbase _).drew
  have F00 : Hb w.heap.size 1 bi ve d s t p ra n cap (w.alloc (.cells #[.int .i64 1, .int .i64 bi, .int .i64 ve, .string d, .string s, .string t, .string p, .slice ra n cap] 25)) := heap_new w _
  have HT := hide htz
  have HF0 := hide F00
  have HA := hide (appendAddress_ow v xs 1 bi ve d s t p ra n cap _ base O0 (by simp; omega) (by omega) hd hs hv0 hv1)
  have HJ := hide (fun (w1 : World) (b1 : Below base (w.alloc (.cells #[.int .i64 1, .int .i64 bi, .int .i64 ve, .string d, .string s, .string t, .string p, .slice ra n cap] 25)).drew w1) (k1 : Kn (w.alloc (.cells #[.int .i64 1, .int .i64 bi, .int .i64 ve, .string d, .string s, .string t, .string p, .slice ra n cap] 25)).drew w1) => And.intro (k1 _ _ _ _ F0 (by decide)) (B0.trans b1))
  obtain ⟨c0, c1, c2, c3, c4, c5, c6, c7, c8⟩ := sh_mk F00
  clear h htz O0 F0 F00 B0
  go_enter Tryd.func13, Tryd.ntmps13
  go_wp2_with fail
  go_region_held3 (fun W => Sh w.heap.size 1 bi ve d s t p ra n cap W) (first | assumption | exact sh_mk F2 | exact sh_mk F1 | exact sh_alloc _ (by assumption) | exact sh_mk (unhide HF0)) (first | (go_at_call 26; refine (unhide HA).mono ?_; rintro e w1 ⟨v1, rfl, o1, b1, k1⟩; obtain ⟨F1, B1⟩ := unhide HJ _ b1 k1) | (go_at_call 27; refine (appendPayload_ow v1 (xs ++ AD ve d s) p w1 base o1 (Nat.le_trans hbase B1.size) (by rw [List.length_append, lAD]; omega) hp).mono ?_; rintro e w2 ⟨v2, rfl, o2, b2, k2⟩; have F2 := k2 _ _ _ _ F1 (by decide); have B2 := B1.trans b2))
  all_goals
    clear HA HJ HF0 o1 b1 k1 F1 b2 k2 F2
    go_wp2
    go_ret
    exact ⟨_, rfl, by simpa [List.append_assoc] using o2, B2⟩
set_option maxRecDepth 100000 in
set_option maxHeartbeats 2000000 in
theorem ap_2 (v : Value) (xs : List UInt8) (bi ve : Int) (d s t p : ByteArray) (ra : Option Addr) (n cap : Nat) (w : World) (base : Nat) (h : Ow base w v xs) (hbase : base ≤ w.heap.size) (htz : Tz w) (hg1 : 1 < base) (hlen : xs.length ≤ 100000) (hd : d.size ≤ 20) (hs : s.size ≤ 20) (ht : t.size ≤ 200) (hp : p.size ≤ 1200) (hv0 : 0 ≤ ve) (hv1 : ve ≤ 4294967295) :
    Calls Tryd.prog 13 #[v, .iface 60 (.agg #[.int .i64 2]), hv 2 bi ve d s t p ra n cap] w fun e w' => ∃ v', e = .returned v' ∧ Ow base w' v' (xs ++ (AD ve d s ++ (fx ((p.size : Int) + 16384) 2 2 ++ p.data.toList))) ∧ Below base w w' := by
  have lAD := AD_length ve d s
  have lt := str_len t
  have lv := vb_le (t.size : Int)
  have t0 := ta_20
  have t1 := ta_21
  have t2 := ta_22
  have t3 := ta_23
  have t4 := ta_24
  have O0 : Ow base (w.alloc (.cells #[.int .i64 2, .int .i64 bi, .int .i64 ve, .string d, .string s, .string t, .string p, .slice ra n cap] 25)).drew v xs := (h.alloc _).drew
  have F0 : Hb w.heap.size 2 bi ve d s t p ra n cap (w.alloc (.cells #[.int .i64 2, .int .i64 bi, .int .i64 ve, .string d, .string s, .string t, .string p, .slice ra n cap] 25)).drew := heap_drew' (heap_new w _)
  have B0 : Below base w (w.alloc (.cells #[.int .i64 2, .int .i64 bi, .int .i64 ve, .string d, .string s, .string t, .string p, .slice ra n cap] 25)).drew := ((Below.refl _ _).alloc hbase _).drew
  have F00 : Hb w.heap.size 2 bi ve d s t p ra n cap (w.alloc (.cells #[.int .i64 2, .int .i64 bi, .int .i64 ve, .string d, .string s, .string t, .string p, .slice ra n cap] 25)) := heap_new w _
  have HT := hide htz
  have HF0 := hide F00
  have HA := hide (appendAddress_ow v xs 2 bi ve d s t p ra n cap _ base O0 (by simp; omega) (by omega) hd hs hv0 hv1)
  have HJ := hide (fun (w1 : World) (b1 : Below base (w.alloc (.cells #[.int .i64 2, .int .i64 bi, .int .i64 ve, .string d, .string s, .string t, .string p, .slice ra n cap] 25)).drew w1) (k1 : Kn (w.alloc (.cells #[.int .i64 2, .int .i64 bi, .int .i64 ve, .string d, .string s, .string t, .string p, .slice ra n cap] 25)).drew w1) => And.intro (k1 _ _ _ _ F0 (by decide)) (B0.trans b1))
  obtain ⟨c0, c1, c2, c3, c4, c5, c6, c7, c8⟩ := sh_mk F00
  clear h htz O0 F0 F00 B0
  go_enter Tryd.func13, Tryd.ntmps13
  go_wp2_with fail
  go_region_held3 (fun W => Sh w.heap.size 2 bi ve d s t p ra n cap W) (first | assumption | exact sh_mk F2 | exact sh_mk F1 | exact sh_alloc _ (by assumption) | exact sh_mk (unhide HF0)) (first | (go_at_call 26; refine (unhide HA).mono ?_; rintro e w1 ⟨v1, rfl, o1, b1, k1⟩; obtain ⟨F1, B1⟩ := unhide HJ _ b1 k1) | (go_at_call 27; refine (appendPayload_ow v1 (xs ++ AD ve d s) p w1 base o1 (Nat.le_trans hbase B1.size) (by rw [List.length_append, lAD]; omega) hp).mono ?_; rintro e w2 ⟨v2, rfl, o2, b2, k2⟩; have F2 := k2 _ _ _ _ F1 (by decide); have B2 := B1.trans b2))
  all_goals
    clear HA HJ HF0 o1 b1 k1 F1 b2 k2 F2
    go_wp2
    go_ret
    exact ⟨_, rfl, by simpa [List.append_assoc] using o2, B2⟩
set_option maxRecDepth 100000 in
set_option maxHeartbeats 2000000 in
theorem ap_3 (v : Value) (xs : List UInt8) (bi ve : Int) (d s t p : ByteArray) (ra : Option Addr) (n cap : Nat) (w : World) (base : Nat) (h : Ow base w v xs) (hbase : base ≤ w.heap.size) (htz : Tz w) (hg1 : 1 < base) (hlen : xs.length ≤ 100000) (hd : d.size ≤ 20) (hs : s.size ≤ 20) (ht : t.size ≤ 200) (hp : p.size ≤ 1200) (hv0 : 0 ≤ ve) (hv1 : ve ≤ 4294967295) :
    Calls Tryd.prog 13 #[v, .iface 61 (.agg #[]), hv 3 bi ve d s t p ra n cap] w fun e w' => ∃ v', e = .returned v' ∧ Ow base w' v' (xs ++ (AD ve d s ++ p.data.toList)) ∧ Below base w w' := by
  have lAD := AD_length ve d s
  have lt := str_len t
  have lv := vb_le (t.size : Int)
  have t0 := ta_30
  have t1 := ta_31
  have t2 := ta_32
  have t3 := ta_33
  have t4 := ta_34
  have O0 : Ow base (w.alloc (.cells #[.int .i64 3, .int .i64 bi, .int .i64 ve, .string d, .string s, .string t, .string p, .slice ra n cap] 25)).drew v xs := (h.alloc _).drew
  have F0 : Hb w.heap.size 3 bi ve d s t p ra n cap (w.alloc (.cells #[.int .i64 3, .int .i64 bi, .int .i64 ve, .string d, .string s, .string t, .string p, .slice ra n cap] 25)).drew := heap_drew' (heap_new w _)
  have B0 : Below base w (w.alloc (.cells #[.int .i64 3, .int .i64 bi, .int .i64 ve, .string d, .string s, .string t, .string p, .slice ra n cap] 25)).drew := ((Below.refl _ _).alloc hbase _).drew
  have F00 : Hb w.heap.size 3 bi ve d s t p ra n cap (w.alloc (.cells #[.int .i64 3, .int .i64 bi, .int .i64 ve, .string d, .string s, .string t, .string p, .slice ra n cap] 25)) := heap_new w _
  have HT := hide htz
  have HF0 := hide F00
  have HA := hide (appendAddress_ow v xs 3 bi ve d s t p ra n cap _ base O0 (by simp; omega) (by omega) hd hs hv0 hv1)
  have HJ := hide (fun (w1 : World) (b1 : Below base (w.alloc (.cells #[.int .i64 3, .int .i64 bi, .int .i64 ve, .string d, .string s, .string t, .string p, .slice ra n cap] 25)).drew w1) (k1 : Kn (w.alloc (.cells #[.int .i64 3, .int .i64 bi, .int .i64 ve, .string d, .string s, .string t, .string p, .slice ra n cap] 25)).drew w1) => And.intro (k1 _ _ _ _ F0 (by decide)) (B0.trans b1))
  obtain ⟨i0, hi, hz0, hz1, hz2⟩ := info_parts Tryd.info5
  obtain ⟨c0, c1, c2, c3, c4, c5, c6, c7, c8⟩ := sh_mk F00
  clear h htz O0 F0 F00 B0
  go_enter Tryd.func13, Tryd.ntmps13
  go_wp2_with fail
  go_region_held3 (fun W => Sh w.heap.size 3 bi ve d s t p ra n cap W) (first | assumption | exact sh_mk Fw2 | exact sh_mk F1 | exact sh_alloc _ (by assumption) | exact sh_mk (unhide HF0)) (first | (go_at_call 26; refine (unhide HA).mono ?_; rintro e w1 ⟨v1, rfl, o1, b1, k1⟩; obtain ⟨F1, B1⟩ := unhide HJ _ b1 k1) | (refine step_append_string _ rfl _ _ 22 9 rfl base 5 i0 Tryd.underlying22 Tryd.underlying9 hi hz0 hz1 hz2 _ _ _ rfl o1 p rfl (by show (xs ++ AD ve d s).length + _ ≤ _; rw [List.length_append, lAD]; unfold maxLen; omega) (by show (xs ++ AD ve d s).length + _ ≤ _; rw [List.length_append, lAD]; omega) (Nat.le_trans hbase B1.size) ?_; intro v2 w2 how2 hgw2; have ow2 := ow_text o1 how2 rfl; have Fw2 := Ow.kn o1 hgw2 _ _ _ _ F1 (by decide); have Bw2 := B1.trans (Ow.below o1 hgw2 (Nat.le_trans hbase B1.size))))
  all_goals
    clear HA HJ HF0 o1 b1 k1 F1 how2 hgw2 Fw2
    go_wp2
    go_ret
    exact ⟨_, rfl, by simpa [AD, List.append_assoc] using ow2, Bw2⟩
set_option maxRecDepth 100000 in
set_option maxHeartbeats 2000000 in
theorem ap_4 (v : Value) (xs : List UInt8) (bi ve : Int) (d s t p : ByteArray) (g off n cap : Nat) (w : World) (base : Nat) (h : Ow base w v xs) (hbase : base ≤ w.heap.size) (htz : Tz w) (hg1 : 1 < base) (hlen : xs.length ≤ 100000) (hd : d.size ≤ 20) (hs : s.size ≤ 20) (ht : t.size ≤ 200) (hp : p.size ≤ 1200) (hv0 : 0 ≤ ve) (hv1 : ve ≤ 4294967295) (V : Nat → Int) (hn : n ≤ 20) (hR : Ir w g off n V) (hgb : n = 0 ∨ g < base) (hN : ∀ i, i < n → 0 ≤ V i ∧ V i ≤ 4294967295) :
    Calls Tryd.prog 13 #[v, .iface 62 (.agg #[]), hv 4 bi ve d s t p (some ⟨g, off, none⟩) n cap] w fun e w' => ∃ v', e = .returned v' ∧ Ow base w' v' (xs ++ (AD ve d s ++ wds V n)) ∧ Below base w w' := by
  have lAD := AD_length ve d s
  have lt := str_len t
  have lv := vb_le (t.size : Int)
  have t0 := ta_40
  have t1 := ta_41
  have t2 := ta_42
  have t3 := ta_43
  have t4 := ta_44
  have O0 : Ow base (w.alloc (.cells #[.int .i64 4, .int .i64 bi, .int .i64 ve, .string d, .string s, .string t, .string p, .slice (some ⟨g, off, none⟩) n cap] 25)).drew v xs := (h.alloc _).drew
  have F0 : Hb w.heap.size 4 bi ve d s t p (some ⟨g, off, none⟩) n cap (w.alloc (.cells #[.int .i64 4, .int .i64 bi, .int .i64 ve, .string d, .string s, .string t, .string p, .slice (some ⟨g, off, none⟩) n cap] 25)).drew := heap_drew' (heap_new w _)
  have B0 : Below base w (w.alloc (.cells #[.int .i64 4, .int .i64 bi, .int .i64 ve, .string d, .string s, .string t, .string p, .slice (some ⟨g, off, none⟩) n cap] 25)).drew := ((Below.refl _ _).alloc hbase _).drew
  have F00 : Hb w.heap.size 4 bi ve d s t p (some ⟨g, off, none⟩) n cap (w.alloc (.cells #[.int .i64 4, .int .i64 bi, .int .i64 ve, .string d, .string s, .string t, .string p, .slice (some ⟨g, off, none⟩) n cap] 25)) := heap_new w _
  have HT := hide htz
  have HF0 := hide F00
  have HA := hide (appendAddress_ow v xs 4 bi ve d s t p (some ⟨g, off, none⟩) n cap _ base O0 (by simp; omega) (by omega) hd hs hv0 hv1)
  have HJ := hide (fun (w1 : World) (b1 : Below base (w.alloc (.cells #[.int .i64 4, .int .i64 bi, .int .i64 ve, .string d, .string s, .string t, .string p, .slice (some ⟨g, off, none⟩) n cap] 25)).drew w1) (k1 : Kn (w.alloc (.cells #[.int .i64 4, .int .i64 bi, .int .i64 ve, .string d, .string s, .string t, .string p, .slice (some ⟨g, off, none⟩) n cap] 25)).drew w1) => And.intro (k1 _ _ _ _ F0 (by decide)) (B0.trans b1))
  have HNn := hide hN
  have HI := hide (fun (w1 : World) (B1 : Below base w w1) (W : World) (x u : Value) (ys : List UInt8) (ox : Ow base w1 x ys) (hg : Gr w1 W x u) (i : Nat) (hi : i < n) => by
    have hgb' : g < base := by rcases hgb with e | e <;> omega
    exact ((B1.trans (hg.below ox (Nat.le_trans hbase B1.size))).cell (p := ⟨g, off + i, none⟩) hgb').trans (hR.cv i hi))
  clear hN hR
  obtain ⟨c0, c1, c2, c3, c4, c5, c6, c7, c8⟩ := sh_mk F00
  clear h htz O0 F0 F00 B0
  go_enter Tryd.func13, Tryd.ntmps13
  go_wp2_with fail
  go_region_held3 (fun W => Sh w.heap.size 4 bi ve d s t p (some ⟨g, off, none⟩) n cap W) (first | assumption | exact sh_mk F2 | exact sh_mk F1 | exact sh_alloc _ (by assumption) | exact sh_mk (unhide HF0)) (first | (go_at_call 26; refine (unhide HA).mono ?_; rintro e w1 ⟨v1, rfl, o1, b1, k1⟩; obtain ⟨F1, B1⟩ := unhide HJ _ b1 k1) | (go_at_call 28; refine (appendWords_ow v1 (xs ++ AD ve d s) g off n cap V w1 base o1 (Nat.le_trans hbase B1.size) (by rw [List.length_append, lAD]; omega) hn (fun W u hg i hi => (unhide HI) w1 B1 W v1 u _ o1 hg i hi) (unhide HNn)).mono ?_; rintro e w2 ⟨v2, rfl, o2, g2⟩; have F2 := Ow.kn o1 g2.grown _ _ _ _ F1 (by decide); have B2 := B1.trans (g2.below o1 (Nat.le_trans hbase B1.size))))
  all_goals
    clear HA HJ HF0 o1 b1 k1 F1 g2 F2
    go_wp2
    go_ret
    exact ⟨_, rfl, by simpa [List.append_assoc] using o2, B2⟩
set_option maxRecDepth 100000 in
set_option maxHeartbeats 2000000 in
theorem ap_5 (v : Value) (xs : List UInt8) (bi ve : Int) (d s t p : ByteArray) (ra : Option Addr) (n cap : Nat) (w : World) (base : Nat) (h : Ow base w v xs) (hbase : base ≤ w.heap.size) (htz : Tz w) (hg1 : 1 < base) (hlen : xs.length ≤ 100000) (hd : d.size ≤ 20) (hs : s.size ≤ 20) (ht : t.size ≤ 200) (hp : p.size ≤ 1200) (hv0 : 0 ≤ ve) (hv1 : ve ≤ 4294967295) :
    Calls Tryd.prog 13 #[v, .iface 63 (.agg #[]), hv 5 bi ve d s t p ra n cap] w fun e w' => ∃ v', e = .returned v' ∧ Ow base w' v' (xs ++ (d.data.toList ++ p.data.toList)) ∧ Below base w w' := by
  have lAD := AD_length ve d s
  have lt := str_len t
  have lv := vb_le (t.size : Int)
  have t0 := ta_50
  have t1 := ta_51
  have t2 := ta_52
  have t3 := ta_53
  have t4 := ta_54
  have O0 : Ow base (w.alloc (.cells #[.int .i64 5, .int .i64 bi, .int .i64 ve, .string d, .string s, .string t, .string p, .slice ra n cap] 25)).drew v xs := (h.alloc _).drew
  have F0 : Hb w.heap.size 5 bi ve d s t p ra n cap (w.alloc (.cells #[.int .i64 5, .int .i64 bi, .int .i64 ve, .string d, .string s, .string t, .string p, .slice ra n cap] 25)).drew := heap_drew' (heap_new w _)
  have B0 : Below base w (w.alloc (.cells #[.int .i64 5, .int .i64 bi, .int .i64 ve, .string d, .string s, .string t, .string p, .slice ra n cap] 25)).drew := ((Below.refl _ _).alloc hbase _).drew
  have F00 : Hb w.heap.size 5 bi ve d s t p ra n cap (w.alloc (.cells #[.int .i64 5, .int .i64 bi, .int .i64 ve, .string d, .string s, .string t, .string p, .slice ra n cap] 25)) := heap_new w _
  have HT := hide htz
  have HF0 := hide F00
  have HA := hide (appendAddress_ow v xs 5 bi ve d s t p ra n cap _ base O0 (by simp; omega) (by omega) hd hs hv0 hv1)
  have HJ := hide (fun (w1 : World) (b1 : Below base (w.alloc (.cells #[.int .i64 5, .int .i64 bi, .int .i64 ve, .string d, .string s, .string t, .string p, .slice ra n cap] 25)).drew w1) (k1 : Kn (w.alloc (.cells #[.int .i64 5, .int .i64 bi, .int .i64 ve, .string d, .string s, .string t, .string p, .slice ra n cap] 25)).drew w1) => And.intro (k1 _ _ _ _ F0 (by decide)) (B0.trans b1))
  obtain ⟨i0, hi, hz0, hz1, hz2⟩ := info_parts Tryd.info5
  have ld := str_len d
  have HO0 := hide O0
  have HB0 := hide B0
  have HF1 := hide F0
  obtain ⟨c0, c1, c2, c3, c4, c5, c6, c7, c8⟩ := sh_mk F00
  clear h htz O0 F0 F00 B0
  go_enter Tryd.func13, Tryd.ntmps13
  go_wp2_with fail
  go_region_held3 (fun W => Sh w.heap.size 5 bi ve d s t p ra n cap W) (first | assumption | exact sh_mk Fw2 | exact sh_mk Fw1 | exact sh_alloc _ (by assumption) | exact sh_mk (unhide HF0)) (first | (refine step_append_string _ rfl _ _ 22 9 rfl base 5 i0 Tryd.underlying22 Tryd.underlying9 hi hz0 hz1 hz2 _ _ _ rfl (unhide HO0) d rfl (by skip; unfold maxLen; omega) (by skip; omega) (Nat.le_trans hbase (unhide HB0).size) ?_; intro v1 w1 how1 hgw1; have ow1 := ow_text (unhide HO0) how1 rfl; have Fw1 := Ow.kn (unhide HO0) hgw1 _ _ _ _ (unhide HF1) (by decide); have Bw1 := (unhide HB0).trans (Ow.below (unhide HO0) hgw1 (Nat.le_trans hbase (unhide HB0).size))) | (refine step_append_string _ rfl _ _ 22 9 rfl base 5 i0 Tryd.underlying22 Tryd.underlying9 hi hz0 hz1 hz2 _ _ _ rfl ow1 p rfl (by rw [List.length_append, ld]; unfold maxLen; omega) (by rw [List.length_append, ld]; omega) (Nat.le_trans hbase Bw1.size) ?_; intro v2 w2 how2 hgw2; have ow2 := ow_text ow1 how2 rfl; have Fw2 := Ow.kn ow1 hgw2 _ _ _ _ Fw1 (by decide); have Bw2 := Bw1.trans (Ow.below ow1 hgw2 (Nat.le_trans hbase Bw1.size))))
  all_goals
    clear HA HJ HF0 HO0 HF1 ow1 how1 hgw1 Fw1 how2 hgw2 Fw2
    go_wp2
    go_ret
    exact ⟨_, rfl, by simpa [List.append_assoc] using ow2, Bw2⟩
end Go.Proofs.YtmajcpimahkpfaaDoor
