/-
  Contract: the program's header: what it reads.
-/
import Derived.Test.YtbabipaipbjlbaaPrp
import Derived.Test.YtbabipaipbjlbaaFmk
namespace Go.Proofs.Ytbabipaipbjlbaa
open Go.ChangeShapes Go.WideShapes Go.ChangeAt Go.RowKit Fm
set_option linter.unusedVariables false
set_option maxRecDepth 100000

theorem b128_lo (s : ByteArray) (p : Nat) (h : at8 s p < 128) : bits .and .i64 (at8 s p) 128 = 0 := by
  have key : ∀ k : Fin 128, bits .and .i64 (k.val : Int) 128 = 0 := by decide +kernel
  have b := at8_in s p
  have := key ⟨(at8 s p).toNat, by omega⟩
  rwa [show (((at8 s p).toNat : Nat) : Int) = at8 s p by omega] at this
theorem b128_hi (s : ByteArray) (p : Nat) (h : ¬ at8 s p < 128) : bits .and .i64 (at8 s p) 128 = 128 := by
  have key : ∀ k : Fin 128, bits .and .i64 ((k.val + 128 : Nat) : Int) 128 = 128 := by decide +kernel
  have b := at8_in s p
  have := key ⟨(at8 s p).toNat - 128, by omega⟩
  rwa [show (((at8 s p).toNat - 128 + 128 : Nat) : Int) = at8 s p by omega] at this
theorem bnot15 (s : ByteArray) (p : Nat) : bits .andNot .i64 (at8 s p) 15 = at8 s p / 16 * 16 := by
  have key : ∀ k : Fin 256, bits .andNot .i64 (k.val : Int) 15 = (k.val : Int) / 16 * 16 := by decide +kernel
  have b := at8_in s p
  have := key ⟨(at8 s p).toNat, by omega⟩
  rwa [show (((at8 s p).toNat : Nat) : Int) = at8 s p by omega] at this

theorem Hh.k2 {w w' : World} {b cb hb : Nat} {v0 v1 v2 v3 v4 v5 v6 v7 : Value} (h : Hh w b v0 v1 v2 v3 v4 v5 v6 v7) (hk : K2 cb hb w w') (h1 : b ≠ cb) (h2 : b ≠ hb) : Hh w' b v0 v1 v2 v3 v4 v5 v6 v7 :=
  have e : w'.heap[b]? = w.heap[b]? := hk.block b h.lt h1 h2
  have c : ∀ o, w'.cell? ⟨b, o, none⟩ = w.cell? ⟨b, o, none⟩ := fun o => World.cell?_of_block (a := ⟨b, o, none⟩) e
  ⟨Nat.lt_of_lt_of_le h.lt hk.size, (c 0).trans h.c0, (c 1).trans h.c1, (c 2).trans h.c2, (c 3).trans h.c3, (c 4).trans h.c4, (c 5).trans h.c5, (c 6).trans h.c6, (c 7).trans h.c7, fun o => (World.frozen?_of_block (a := ⟨b, o, none⟩) e).trans (h.fz o)⟩
set_option maxHeartbeats 2000000 in
theorem header_none (cb short : Nat) (s : ByteArray) (told : Int) (w : World) (hs : s.size = 0) (h : Cc w cb s 0 told) :
    Calls Try.prog 41 #[.pointer (some ⟨cb, 0, none⟩), .int .i64 short] w (Bad cb w) := by
  have HA := hide (packet_none cb s told (wZ w) hs (h.below (wZ_b w)))
  clear h
  go_enter Try.func41, Try.ntmps41
  go_wp2_with fail
  refine (unhide HA).mono ?_
  rintro e1 w1 ⟨c, hC, rfl, k1⟩
  have q1 := (Kx.of (cb := cb) (wZ_b w)).trans k1
  go_wp2_with fail
  exact ⟨rfl, c, hC, rfl, q1⟩
set_option maxHeartbeats 2000000 in
theorem header_kind (cb short : Nat) (s : ByteArray) (told : Int) (w : World) (hs : s.size ≤ 1048576) (h0 : 0 < s.size) (h64 : at8 s 0 / 64 % 2 = 0) (h : Cc w cb s 0 told) :
    Calls Try.prog 41 #[.pointer (some ⟨cb, 0, none⟩), .int .i64 short] w (Bad cb w) := by
  have HA := hide (packet_kind cb s told (wZ w) hs h0 (by rw [b64, h64]; rfl) (h.below (wZ_b w)))
  clear h
  go_enter Try.func41, Try.ntmps41
  go_wp2_with fail
  refine (unhide HA).mono ?_
  rintro e1 w1 ⟨c, hC, rfl, k1⟩
  have q1 := (Kx.of (cb := cb) (wZ_b w)).trans k1
  go_wp2_with fail
  exact ⟨rfl, c, hC, rfl, q1⟩
set_option maxHeartbeats 2000000 in
theorem header_cut (cb short : Nat) (s : ByteArray) (told : Int) (w : World) (hs : s.size ≤ 1048576) (h0 : 0 < s.size) (hl : 192 ≤ at8 s 0) (h5 : s.size < 5) (h : Cc w cb s 0 told) :
    Calls Try.prog 41 #[.pointer (some ⟨cb, 0, none⟩), .int .i64 short] w (Bad cb w) := by
  have hcb := h.lt
  have b8 := at8_in s 0
  have HA := hide (packet_ok cb s told (wZ w) hs h0 (by rw [b64]; omega) (h.below (wZ_b w)))
  have e15 := b15 s 0
  have e128 := b128_hi s 0 (by omega)
  have HW := hide (fun W (hC : Cc W cb s 1 told) => word_short cb 1 s told W hs (by omega) (by omega) hC)
  clear h hl
  generalize at8 s 0 = b at *
  go_enter Try.func41, Try.ntmps41
  go_wp2_with fail
  refine (unhide HA).mono ?_
  rintro e1 w1 ⟨rfl, h1, k1⟩
  have q1 := (Kx.of (cb := cb) (wZ_b w)).trans k1
  clear HA k1
  go_wp2_with fail
  have B1 := (Below.refl w1.heap.size w1).alloc (Nat.le_refl _) (.cells #[.int .i64 0, .int .i64 (b % 16), .int .i64 0, .string sE, .string sE, .string sE, .string sE, nilS] 49)
  refine (unhide HW _ (h1.below B1)).mono ?_
  rintro e2 w2 ⟨rfl, k2⟩
  have q2 := (q1.trans (Kx.of B1)).trans (Kx.of k2)
  clear q1 k2 B1
  go_wp2_with fail
  exact ⟨rfl, Bad.one rfl q2⟩
set_option maxHeartbeats 2000000 in
theorem header5_ok (cb short : Nat) (s : ByteArray) (told : Int) (w : World) (hs : s.size ≤ 1048576) (hsh : short ≤ 20) (h0 : 0 < s.size) (hl : 64 ≤ at8 s 0 ∧ at8 s 0 < 80) (d e t y : ByteArray) (ra : Option Addr) (rn rc : Nat) (q : Nat) (Ex : World → Prop) (hEx : ∀ W i u, Ex W → Ex (W.setCell ⟨w.heap.size, i, none⟩ u)) (hP : ∀ hb W, hb ≠ cb → w.heap.size < hb → w.heap.size < W.heap.size → Cc W cb s 1 told → Hh W hb (.int .i64 5) (.int .i64 (at8 s 0 % 16)) (.int .i64 0) (.string sE) (.string sE) (.string sE) (.string sE) nilS → Calls Try.prog 71 #[.pointer (some ⟨cb, 0, none⟩), .iface 116 (.agg #[]), .pointer (some ⟨hb, 0, none⟩), .int .i64 short] W fun e0 w' => e0 = .returned (.tuple #[]) ∧ Cc w' cb s q told ∧ Hh w' hb (.int .i64 5) (.int .i64 (at8 s 0 % 16)) (.int .i64 0) (.string d) (.string e) (.string t) (.string y) (.slice ra rn rc) ∧ Ex w' ∧ K2 cb hb W w') (h : Cc w cb s 0 told) :
    Calls Try.prog 41 #[.pointer (some ⟨cb, 0, none⟩), .int .i64 short] w fun e0 w' => e0 = .returned (hv 5 (at8 s 0 % 16) 0 d e t y ra rn rc) ∧ Cc w' cb s q told ∧ Ex w' ∧ Kx cb w w' := by
  have hcb := h.lt
  have hne : w.heap.size ≠ cb := by omega
  have b8 := at8_in s 0
  have HA := hide (packet_ok cb s told (wZ w) hs h0 (by rw [b64]; omega) (h.below (wZ_b w)))
  have e15 := b15 s 0
  have e128 := b128_lo s 0 (by omega)
  have en : bits .andNot .i64 (at8 s 0) 15 = 64 := by rw [bnot15]; omega
  have HF := hide (fun W => seen_short (at8 s 0) 0 W e128)
  have HO := hide formOf_5
  have HM := hide mark_5
  have hm := meth_5
  have HP := hide hP
  clear h hP
  clear hl
  generalize at8 s 0 = b at *
  go_enter Try.func41, Try.ntmps41
  go_wp2_with fail
  refine (unhide HA).mono ?_
  rintro e1 w1 ⟨rfl, h1, k1⟩
  have Z1 := (wZ_h w).kx k1 hne
  have q1 := (Kx.of (cb := cb) (wZ_b w)).trans k1
  have lz := Z1.lt
  have lc := h1.lt
  have hne1 : w1.heap.size ≠ cb := by omega
  clear HA k1
  go_wp2_with fail
  refine (unhide HF _).mono ?_
  rintro e2 w2 ⟨rfl, rfl⟩
  go_wp2_with fail
  refine (unhide HO _).mono ?_
  rintro e3 w3 ⟨rfl, rfl⟩
  have H2 := Hh.new w1 49 (.int .i64 5) (.int .i64 (b % 16)) (.int .i64 0) (.string sE) (.string sE) (.string sE) (.string sE) nilS
  have B2 := (Below.refl w1.heap.size w1).alloc (Nat.le_refl _) (.cells #[.int .i64 5, .int .i64 (b % 16), .int .i64 0, .string sE, .string sE, .string sE, .string sE, nilS] 49)
  have Z2 := Z1.below B2
  have h2 := h1.below B2
  have q2 := q1.trans (Kx.of B2)
  clear Z1 h1 q1
  generalize w1.alloc (.cells #[.int .i64 5, .int .i64 (b % 16), .int .i64 0, .string sE, .string sE, .string sE, .string sE, nilS] 49) = w2 at H2 B2 Z2 h2 q2 ⊢
  clear B2
  go_wp2_with fail
  refine (unhide HM _).mono ?_
  rintro e5 w5 ⟨rfl, b5⟩
  have H5 := H2.below b5
  have Z5 := Z2.below b5
  have h5' := h2.below b5
  have q5 := q2.trans (Kx.of b5)
  clear H2 Z2 h2 q2 b5 HM HO HF hm
  go_wp2_with fail
  refine (unhide HP w1.heap.size w5 hne1 lz (by have := H5.lt; omega) h5' H5).mono ?_
  rintro e6 w6 ⟨rfl, h6, H6, X6, K6⟩
  have Z6 := Z5.k2 K6 hne (by omega)
  have q6 := K6.kx q5 (by omega)
  clear H5 Z5 h5' q5 K6 HP
  obtain ⟨y0, y1, y2, y3, y4, y5, y6, y7, y8, yf⟩ := Z6
  obtain ⟨x0, x1, x2, x3, x4, x5, x6, x7, x8, xf⟩ := H6
  go_wp2_with fail
  refine bodyPost_ret (v := hv 5 (b % 16) 0 d e t y ra rn rc) (by simp [results, Try.results41, go_sem, y1, y2, y3, y4, y5, y6, y7, y8]) rfl ⟨rfl, ?_, ?_, ?_⟩
  · iterate 8 refine Cc.other ?_ hne
    exact h6
  · iterate 8 refine hEx _ _ _ ?_
    exact X6
  · iterate 8 refine Kx.fresh ?_ (Nat.le_refl _)
    exact q6
set_option maxHeartbeats 2000000 in
theorem header5_bad (cb short : Nat) (s : ByteArray) (told : Int) (w : World) (hs : s.size ≤ 1048576) (hsh : short ≤ 20) (h0 : 0 < s.size) (hl : 64 ≤ at8 s 0 ∧ at8 s 0 < 80) (hP : ∀ hb W, hb ≠ cb → w.heap.size < hb → w.heap.size < W.heap.size → Cc W cb s 1 told → Hh W hb (.int .i64 5) (.int .i64 (at8 s 0 % 16)) (.int .i64 0) (.string sE) (.string sE) (.string sE) (.string sE) nilS → Calls Try.prog 71 #[.pointer (some ⟨cb, 0, none⟩), .iface 116 (.agg #[]), .pointer (some ⟨hb, 0, none⟩), .int .i64 short] W (Bad2 cb hb W)) (h : Cc w cb s 0 told) :
    Calls Try.prog 41 #[.pointer (some ⟨cb, 0, none⟩), .int .i64 short] w (Bad cb w) := by
  have hcb := h.lt
  have hne : w.heap.size ≠ cb := by omega
  have b8 := at8_in s 0
  have HA := hide (packet_ok cb s told (wZ w) hs h0 (by rw [b64]; omega) (h.below (wZ_b w)))
  have e15 := b15 s 0
  have e128 := b128_lo s 0 (by omega)
  have en : bits .andNot .i64 (at8 s 0) 15 = 64 := by rw [bnot15]; omega
  have HF := hide (fun W => seen_short (at8 s 0) 0 W e128)
  have HO := hide formOf_5
  have HM := hide mark_5
  have hm := meth_5
  have HP := hide hP
  clear h hP
  clear hl
  generalize at8 s 0 = b at *
  go_enter Try.func41, Try.ntmps41
  go_wp2_with fail
  refine (unhide HA).mono ?_
  rintro e1 w1 ⟨rfl, h1, k1⟩
  have Z1 := (wZ_h w).kx k1 hne
  have q1 := (Kx.of (cb := cb) (wZ_b w)).trans k1
  have lz := Z1.lt
  have lc := h1.lt
  have hne1 : w1.heap.size ≠ cb := by omega
  clear HA k1
  go_wp2_with fail
  refine (unhide HF _).mono ?_
  rintro e2 w2 ⟨rfl, rfl⟩
  go_wp2_with fail
  refine (unhide HO _).mono ?_
  rintro e3 w3 ⟨rfl, rfl⟩
  have H2 := Hh.new w1 49 (.int .i64 5) (.int .i64 (b % 16)) (.int .i64 0) (.string sE) (.string sE) (.string sE) (.string sE) nilS
  have B2 := (Below.refl w1.heap.size w1).alloc (Nat.le_refl _) (.cells #[.int .i64 5, .int .i64 (b % 16), .int .i64 0, .string sE, .string sE, .string sE, .string sE, nilS] 49)
  have Z2 := Z1.below B2
  have h2 := h1.below B2
  have q2 := q1.trans (Kx.of B2)
  clear Z1 h1 q1
  generalize w1.alloc (.cells #[.int .i64 5, .int .i64 (b % 16), .int .i64 0, .string sE, .string sE, .string sE, .string sE, nilS] 49) = w2 at H2 B2 Z2 h2 q2 ⊢
  clear B2
  go_wp2_with fail
  refine (unhide HM _).mono ?_
  rintro e5 w5 ⟨rfl, b5⟩
  have H5 := H2.below b5
  have Z5 := Z2.below b5
  have h5' := h2.below b5
  have q5 := q2.trans (Kx.of b5)
  clear H2 Z2 h2 q2 b5 HM HO HF hm
  go_wp2_with fail
  refine (unhide HP w1.heap.size w5 hne1 lz (by have := H5.lt; omega) h5' H5).mono ?_
  rintro e6 w6 ⟨c, hC, rfl, K6⟩
  have q6 := K6.kx q5 (by omega)
  clear H5 Z5 h5' q5 K6 HP
  go_wp2_with fail
  exact ⟨rfl, c, hC, rfl, q6⟩
set_option maxHeartbeats 2000000 in
theorem header5_mark (cb short : Nat) (s : ByteArray) (told : Int) (w : World) (hs : s.size ≤ 1048576) (hsh : short ≤ 20) (h0 : 0 < s.size) (hl : 64 ≤ at8 s 0 ∧ at8 s 0 < 128 ∧ 80 ≤ at8 s 0) (h : Cc w cb s 0 told) :
    Calls Try.prog 41 #[.pointer (some ⟨cb, 0, none⟩), .int .i64 short] w (Bad cb w) := by
  have hcb := h.lt
  have hne : w.heap.size ≠ cb := by omega
  have b8 := at8_in s 0
  have HA := hide (packet_ok cb s told (wZ w) hs h0 (by rw [b64]; omega) (h.below (wZ_b w)))
  have e15 := b15 s 0
  have e128 := b128_lo s 0 (by omega)
  have en0 := bnot15 s 0
  have en : (64 : Int) ≠ bits .andNot .i64 (at8 s 0) 15 := by rw [en0]; omega
  have en1 : ((64 : Int) != bits .andNot .i64 (at8 s 0) 15) = true := by simpa using en
  clear en0
  have HF := hide (fun W => seen_short (at8 s 0) 0 W e128)
  have HO := hide formOf_5
  have HM := hide mark_5
  have hm := meth_5
  clear h 
  clear hl
  generalize at8 s 0 = b at *
  go_enter Try.func41, Try.ntmps41
  go_wp2_with fail
  refine (unhide HA).mono ?_
  rintro e1 w1 ⟨rfl, h1, k1⟩
  have Z1 := (wZ_h w).kx k1 hne
  have q1 := (Kx.of (cb := cb) (wZ_b w)).trans k1
  have lz := Z1.lt
  have lc := h1.lt
  have hne1 : w1.heap.size ≠ cb := by omega
  clear HA k1
  go_wp2_with fail
  refine (unhide HF _).mono ?_
  rintro e2 w2 ⟨rfl, rfl⟩
  go_wp2_with fail
  refine (unhide HO _).mono ?_
  rintro e3 w3 ⟨rfl, rfl⟩
  have H2 := Hh.new w1 49 (.int .i64 5) (.int .i64 (b % 16)) (.int .i64 0) (.string sE) (.string sE) (.string sE) (.string sE) nilS
  have B2 := (Below.refl w1.heap.size w1).alloc (Nat.le_refl _) (.cells #[.int .i64 5, .int .i64 (b % 16), .int .i64 0, .string sE, .string sE, .string sE, .string sE, nilS] 49)
  have Z2 := Z1.below B2
  have h2 := h1.below B2
  have q2 := q1.trans (Kx.of B2)
  clear Z1 h1 q1
  generalize w1.alloc (.cells #[.int .i64 5, .int .i64 (b % 16), .int .i64 0, .string sE, .string sE, .string sE, .string sE, nilS] 49) = w2 at H2 B2 Z2 h2 q2 ⊢
  clear B2
  go_wp2_with fail
  refine (unhide HM _).mono ?_
  rintro e5 w5 ⟨rfl, b5⟩
  have H5 := H2.below b5
  have Z5 := Z2.below b5
  have h5' := h2.below b5
  have q5 := q2.trans (Kx.of b5)
  clear H2 Z2 h2 q2 b5 HM HO HF hm
  go_wp2_with fail
  exact ⟨rfl, Bad.three rfl q5⟩
set_option maxHeartbeats 2000000 in
theorem header0_ok (cb short : Nat) (s : ByteArray) (told : Int) (w : World) (hs : s.size ≤ 1048576) (hsh : short ≤ 20) (h0 : 0 < s.size) (V : Int) (hV : (V == 0) = false) (h5 : 5 ≤ s.size) (hW : big 0 (s.extract 1 5).data.toList = V) (hl : 192 ≤ at8 s 0 ∧ at8 s 0 / 16 % 4 = 0) (d e t y : ByteArray) (ra : Option Addr) (rn rc : Nat) (q : Nat) (Ex : World → Prop) (hEx : ∀ W i u, Ex W → Ex (W.setCell ⟨w.heap.size, i, none⟩ u)) (hP : ∀ hb W, hb ≠ cb → w.heap.size < hb → w.heap.size < W.heap.size → Cc W cb s 5 told → Hh W hb (.int .i64 0) (.int .i64 (at8 s 0 % 16)) (.int .i64 V) (.string sE) (.string sE) (.string sE) (.string sE) nilS → Calls Try.prog 71 #[.pointer (some ⟨cb, 0, none⟩), .iface 111 (.agg #[]), .pointer (some ⟨hb, 0, none⟩), .int .i64 short] W fun e0 w' => e0 = .returned (.tuple #[]) ∧ Cc w' cb s q told ∧ Hh w' hb (.int .i64 0) (.int .i64 (at8 s 0 % 16)) (.int .i64 V) (.string d) (.string e) (.string t) (.string y) (.slice ra rn rc) ∧ Ex w' ∧ K2 cb hb W w') (h : Cc w cb s 0 told) :
    Calls Try.prog 41 #[.pointer (some ⟨cb, 0, none⟩), .int .i64 short] w fun e0 w' => e0 = .returned (hv 0 (at8 s 0 % 16) V d e t y ra rn rc) ∧ Cc w' cb s q told ∧ Ex w' ∧ Kx cb w w' := by
  have hcb := h.lt
  have hne : w.heap.size ≠ cb := by omega
  have b8 := at8_in s 0
  have HA := hide (packet_ok cb s told (wZ w) hs h0 (by rw [b64]; omega) (h.below (wZ_b w)))
  have e15 := b15 s 0
  have e128 := b128_hi s 0 (by omega)
  have en : bits .andNot .i64 (at8 s 0) 15 = 192 := by rw [bnot15]; omega
  have HF := hide (fun W => seen_long (at8 s 0) V W e128 hV b8.1 b8.2 (b3 s 0))
  rw [hl.2] at HF
  have HW := hide (fun W (hC : Cc W cb s 1 told) => word_ok cb 1 s told W hs (by omega) hC)
  rw [hW] at HW
  have HO := hide formOf_0
  have HM := hide mark_0
  have hm := meth_0
  have HP := hide hP
  clear h hP hW
  clear hl
  generalize at8 s 0 = b at *
  go_enter Try.func41, Try.ntmps41
  go_wp2_with fail
  refine (unhide HA).mono ?_
  rintro e1 w1 ⟨rfl, h1, k1⟩
  have Z1 := (wZ_h w).kx k1 hne
  have q1 := (Kx.of (cb := cb) (wZ_b w)).trans k1
  have lz := Z1.lt
  have lc := h1.lt
  have hne1 : w1.heap.size ≠ cb := by omega
  clear HA k1
  go_wp2_with fail
  have B1 := (Below.refl w1.heap.size w1).alloc (Nat.le_refl _) (.cells #[.int .i64 0, .int .i64 (b % 16), .int .i64 0, .string sE, .string sE, .string sE, .string sE, nilS] 49)
  refine (unhide HW _ (h1.below B1)).mono ?_
  rintro e2 w2 ⟨rfl, h2, k2⟩
  have H2 := (Hh.new w1 49 (.int .i64 0) (.int .i64 (b % 16)) (.int .i64 0) (.string sE) (.string sE) (.string sE) (.string sE) nilS).kx k2 hne1
  have Z2 := (Z1.below B1).kx k2 hne
  have q2 := (q1.trans (Kx.of B1)).trans k2
  clear Z1 q1 k2 B1 h1 HW
  have g2 := H2.c2
  have f2 := H2.fz 2
  go_wp2_with fail
  have H3 := H2.s2 (u := .int .i64 V)
  have Z3 := Z2.other (b' := w1.heap.size) (i := 2) (u := .int .i64 V) (by omega)
  have h3 := h2.other (b := w1.heap.size) (i := 2) (u := .int .i64 V) hne1
  have q3 := q2.fresh (b := w1.heap.size) (i := 2) (u := .int .i64 V) (by omega)
  clear H2 Z2 h2 q2 g2 f2
  generalize w2.setCell ⟨w1.heap.size, 2, none⟩ (.int .i64 V) = w3 at H3 Z3 h3 q3 ⊢
  refine (unhide HF _).mono ?_
  rintro e3 w3' ⟨rfl, rfl⟩
  have g0 := H3.c0
  have f0 := H3.fz 0
  have Hk := H3.s0 (u := .int .i64 0)
  have g0k := Hk.c0
  go_wp2_with fail
  have Z4 := Z3.other (b' := w1.heap.size) (i := 0) (u := .int .i64 0) (by omega)
  have h4 := h3.other (b := w1.heap.size) (i := 0) (u := .int .i64 0) hne1
  have q4 := q3.fresh (b := w1.heap.size) (i := 0) (u := .int .i64 0) (by omega)
  clear H3 Z3 h3 q3 g0 f0 g0k
  generalize w3'.setCell ⟨w1.heap.size, 0, none⟩ (.int .i64 0) = w4 at Hk Z4 h4 q4 ⊢
  refine (unhide HO _).mono ?_
  rintro e4 w4' ⟨rfl, rfl⟩
  go_wp2_with fail
  refine (unhide HM _).mono ?_
  rintro e5 w5 ⟨rfl, b5⟩
  have H5 := Hk.below b5
  have Z5 := Z4.below b5
  have h5' := h4.below b5
  have q5 := q4.trans (Kx.of b5)
  clear Hk Z4 h4 q4 b5 HM HO HF hm
  go_wp2_with fail
  refine (unhide HP w1.heap.size w5 hne1 lz (by have := H5.lt; omega) h5' H5).mono ?_
  rintro e6 w6 ⟨rfl, h6, H6, X6, K6⟩
  have Z6 := Z5.k2 K6 hne (by omega)
  have q6 := K6.kx q5 (by omega)
  clear H5 Z5 h5' q5 K6 HP
  obtain ⟨y0, y1, y2, y3, y4, y5, y6, y7, y8, yf⟩ := Z6
  obtain ⟨x0, x1, x2, x3, x4, x5, x6, x7, x8, xf⟩ := H6
  go_wp2_with fail
  refine bodyPost_ret (v := hv 0 (b % 16) V d e t y ra rn rc) (by simp [results, Try.results41, go_sem, y1, y2, y3, y4, y5, y6, y7, y8]) rfl ⟨rfl, ?_, ?_, ?_⟩
  · iterate 8 refine Cc.other ?_ hne
    exact h6
  · iterate 8 refine hEx _ _ _ ?_
    exact X6
  · iterate 8 refine Kx.fresh ?_ (Nat.le_refl _)
    exact q6
set_option maxHeartbeats 2000000 in
theorem header0_bad (cb short : Nat) (s : ByteArray) (told : Int) (w : World) (hs : s.size ≤ 1048576) (hsh : short ≤ 20) (h0 : 0 < s.size) (V : Int) (hV : (V == 0) = false) (h5 : 5 ≤ s.size) (hW : big 0 (s.extract 1 5).data.toList = V) (hl : 192 ≤ at8 s 0 ∧ at8 s 0 / 16 % 4 = 0) (hP : ∀ hb W, hb ≠ cb → w.heap.size < hb → w.heap.size < W.heap.size → Cc W cb s 5 told → Hh W hb (.int .i64 0) (.int .i64 (at8 s 0 % 16)) (.int .i64 V) (.string sE) (.string sE) (.string sE) (.string sE) nilS → Calls Try.prog 71 #[.pointer (some ⟨cb, 0, none⟩), .iface 111 (.agg #[]), .pointer (some ⟨hb, 0, none⟩), .int .i64 short] W (Bad2 cb hb W)) (h : Cc w cb s 0 told) :
    Calls Try.prog 41 #[.pointer (some ⟨cb, 0, none⟩), .int .i64 short] w (Bad cb w) := by
  have hcb := h.lt
  have hne : w.heap.size ≠ cb := by omega
  have b8 := at8_in s 0
  have HA := hide (packet_ok cb s told (wZ w) hs h0 (by rw [b64]; omega) (h.below (wZ_b w)))
  have e15 := b15 s 0
  have e128 := b128_hi s 0 (by omega)
  have en : bits .andNot .i64 (at8 s 0) 15 = 192 := by rw [bnot15]; omega
  have HF := hide (fun W => seen_long (at8 s 0) V W e128 hV b8.1 b8.2 (b3 s 0))
  rw [hl.2] at HF
  have HW := hide (fun W (hC : Cc W cb s 1 told) => word_ok cb 1 s told W hs (by omega) hC)
  rw [hW] at HW
  have HO := hide formOf_0
  have HM := hide mark_0
  have hm := meth_0
  have HP := hide hP
  clear h hP hW
  clear hl
  generalize at8 s 0 = b at *
  go_enter Try.func41, Try.ntmps41
  go_wp2_with fail
  refine (unhide HA).mono ?_
  rintro e1 w1 ⟨rfl, h1, k1⟩
  have Z1 := (wZ_h w).kx k1 hne
  have q1 := (Kx.of (cb := cb) (wZ_b w)).trans k1
  have lz := Z1.lt
  have lc := h1.lt
  have hne1 : w1.heap.size ≠ cb := by omega
  clear HA k1
  go_wp2_with fail
  have B1 := (Below.refl w1.heap.size w1).alloc (Nat.le_refl _) (.cells #[.int .i64 0, .int .i64 (b % 16), .int .i64 0, .string sE, .string sE, .string sE, .string sE, nilS] 49)
  refine (unhide HW _ (h1.below B1)).mono ?_
  rintro e2 w2 ⟨rfl, h2, k2⟩
  have H2 := (Hh.new w1 49 (.int .i64 0) (.int .i64 (b % 16)) (.int .i64 0) (.string sE) (.string sE) (.string sE) (.string sE) nilS).kx k2 hne1
  have Z2 := (Z1.below B1).kx k2 hne
  have q2 := (q1.trans (Kx.of B1)).trans k2
  clear Z1 q1 k2 B1 h1 HW
  have g2 := H2.c2
  have f2 := H2.fz 2
  go_wp2_with fail
  have H3 := H2.s2 (u := .int .i64 V)
  have Z3 := Z2.other (b' := w1.heap.size) (i := 2) (u := .int .i64 V) (by omega)
  have h3 := h2.other (b := w1.heap.size) (i := 2) (u := .int .i64 V) hne1
  have q3 := q2.fresh (b := w1.heap.size) (i := 2) (u := .int .i64 V) (by omega)
  clear H2 Z2 h2 q2 g2 f2
  generalize w2.setCell ⟨w1.heap.size, 2, none⟩ (.int .i64 V) = w3 at H3 Z3 h3 q3 ⊢
  refine (unhide HF _).mono ?_
  rintro e3 w3' ⟨rfl, rfl⟩
  have g0 := H3.c0
  have f0 := H3.fz 0
  have Hk := H3.s0 (u := .int .i64 0)
  have g0k := Hk.c0
  go_wp2_with fail
  have Z4 := Z3.other (b' := w1.heap.size) (i := 0) (u := .int .i64 0) (by omega)
  have h4 := h3.other (b := w1.heap.size) (i := 0) (u := .int .i64 0) hne1
  have q4 := q3.fresh (b := w1.heap.size) (i := 0) (u := .int .i64 0) (by omega)
  clear H3 Z3 h3 q3 g0 f0 g0k
  generalize w3'.setCell ⟨w1.heap.size, 0, none⟩ (.int .i64 0) = w4 at Hk Z4 h4 q4 ⊢
  refine (unhide HO _).mono ?_
  rintro e4 w4' ⟨rfl, rfl⟩
  go_wp2_with fail
  refine (unhide HM _).mono ?_
  rintro e5 w5 ⟨rfl, b5⟩
  have H5 := Hk.below b5
  have Z5 := Z4.below b5
  have h5' := h4.below b5
  have q5 := q4.trans (Kx.of b5)
  clear Hk Z4 h4 q4 b5 HM HO HF hm
  go_wp2_with fail
  refine (unhide HP w1.heap.size w5 hne1 lz (by have := H5.lt; omega) h5' H5).mono ?_
  rintro e6 w6 ⟨c, hC, rfl, K6⟩
  have q6 := K6.kx q5 (by omega)
  clear H5 Z5 h5' q5 K6 HP
  go_wp2_with fail
  exact ⟨rfl, c, hC, rfl, q6⟩
set_option maxHeartbeats 2000000 in
theorem header1_ok (cb short : Nat) (s : ByteArray) (told : Int) (w : World) (hs : s.size ≤ 1048576) (hsh : short ≤ 20) (h0 : 0 < s.size) (V : Int) (hV : (V == 0) = false) (h5 : 5 ≤ s.size) (hW : big 0 (s.extract 1 5).data.toList = V) (hl : 192 ≤ at8 s 0 ∧ at8 s 0 / 16 % 4 = 1) (d e t y : ByteArray) (ra : Option Addr) (rn rc : Nat) (q : Nat) (Ex : World → Prop) (hEx : ∀ W i u, Ex W → Ex (W.setCell ⟨w.heap.size, i, none⟩ u)) (hP : ∀ hb W, hb ≠ cb → w.heap.size < hb → w.heap.size < W.heap.size → Cc W cb s 5 told → Hh W hb (.int .i64 1) (.int .i64 (at8 s 0 % 16)) (.int .i64 V) (.string sE) (.string sE) (.string sE) (.string sE) nilS → Calls Try.prog 71 #[.pointer (some ⟨cb, 0, none⟩), .iface 113 (.agg #[.int .i64 1]), .pointer (some ⟨hb, 0, none⟩), .int .i64 short] W fun e0 w' => e0 = .returned (.tuple #[]) ∧ Cc w' cb s q told ∧ Hh w' hb (.int .i64 1) (.int .i64 (at8 s 0 % 16)) (.int .i64 V) (.string d) (.string e) (.string t) (.string y) (.slice ra rn rc) ∧ Ex w' ∧ K2 cb hb W w') (h : Cc w cb s 0 told) :
    Calls Try.prog 41 #[.pointer (some ⟨cb, 0, none⟩), .int .i64 short] w fun e0 w' => e0 = .returned (hv 1 (at8 s 0 % 16) V d e t y ra rn rc) ∧ Cc w' cb s q told ∧ Ex w' ∧ Kx cb w w' := by
  have hcb := h.lt
  have hne : w.heap.size ≠ cb := by omega
  have b8 := at8_in s 0
  have HA := hide (packet_ok cb s told (wZ w) hs h0 (by rw [b64]; omega) (h.below (wZ_b w)))
  have e15 := b15 s 0
  have e128 := b128_hi s 0 (by omega)
  have en : bits .andNot .i64 (at8 s 0) 15 = 208 := by rw [bnot15]; omega
  have HF := hide (fun W => seen_long (at8 s 0) V W e128 hV b8.1 b8.2 (b3 s 0))
  rw [hl.2] at HF
  have HW := hide (fun W (hC : Cc W cb s 1 told) => word_ok cb 1 s told W hs (by omega) hC)
  rw [hW] at HW
  have HO := hide formOf_1
  have HM := hide mark_1
  have hm := meth_1
  have HP := hide hP
  clear h hP hW
  clear hl
  generalize at8 s 0 = b at *
  go_enter Try.func41, Try.ntmps41
  go_wp2_with fail
  refine (unhide HA).mono ?_
  rintro e1 w1 ⟨rfl, h1, k1⟩
  have Z1 := (wZ_h w).kx k1 hne
  have q1 := (Kx.of (cb := cb) (wZ_b w)).trans k1
  have lz := Z1.lt
  have lc := h1.lt
  have hne1 : w1.heap.size ≠ cb := by omega
  clear HA k1
  go_wp2_with fail
  have B1 := (Below.refl w1.heap.size w1).alloc (Nat.le_refl _) (.cells #[.int .i64 0, .int .i64 (b % 16), .int .i64 0, .string sE, .string sE, .string sE, .string sE, nilS] 49)
  refine (unhide HW _ (h1.below B1)).mono ?_
  rintro e2 w2 ⟨rfl, h2, k2⟩
  have H2 := (Hh.new w1 49 (.int .i64 0) (.int .i64 (b % 16)) (.int .i64 0) (.string sE) (.string sE) (.string sE) (.string sE) nilS).kx k2 hne1
  have Z2 := (Z1.below B1).kx k2 hne
  have q2 := (q1.trans (Kx.of B1)).trans k2
  clear Z1 q1 k2 B1 h1 HW
  have g2 := H2.c2
  have f2 := H2.fz 2
  go_wp2_with fail
  have H3 := H2.s2 (u := .int .i64 V)
  have Z3 := Z2.other (b' := w1.heap.size) (i := 2) (u := .int .i64 V) (by omega)
  have h3 := h2.other (b := w1.heap.size) (i := 2) (u := .int .i64 V) hne1
  have q3 := q2.fresh (b := w1.heap.size) (i := 2) (u := .int .i64 V) (by omega)
  clear H2 Z2 h2 q2 g2 f2
  generalize w2.setCell ⟨w1.heap.size, 2, none⟩ (.int .i64 V) = w3 at H3 Z3 h3 q3 ⊢
  refine (unhide HF _).mono ?_
  rintro e3 w3' ⟨rfl, rfl⟩
  have g0 := H3.c0
  have f0 := H3.fz 0
  have Hk := H3.s0 (u := .int .i64 1)
  have g0k := Hk.c0
  go_wp2_with fail
  have Z4 := Z3.other (b' := w1.heap.size) (i := 0) (u := .int .i64 1) (by omega)
  have h4 := h3.other (b := w1.heap.size) (i := 0) (u := .int .i64 1) hne1
  have q4 := q3.fresh (b := w1.heap.size) (i := 0) (u := .int .i64 1) (by omega)
  clear H3 Z3 h3 q3 g0 f0 g0k
  generalize w3'.setCell ⟨w1.heap.size, 0, none⟩ (.int .i64 1) = w4 at Hk Z4 h4 q4 ⊢
  refine (unhide HO _).mono ?_
  rintro e4 w4' ⟨rfl, rfl⟩
  go_wp2_with fail
  refine (unhide HM _).mono ?_
  rintro e5 w5 ⟨rfl, b5⟩
  have H5 := Hk.below b5
  have Z5 := Z4.below b5
  have h5' := h4.below b5
  have q5 := q4.trans (Kx.of b5)
  clear Hk Z4 h4 q4 b5 HM HO HF hm
  go_wp2_with fail
  refine (unhide HP w1.heap.size w5 hne1 lz (by have := H5.lt; omega) h5' H5).mono ?_
  rintro e6 w6 ⟨rfl, h6, H6, X6, K6⟩
  have Z6 := Z5.k2 K6 hne (by omega)
  have q6 := K6.kx q5 (by omega)
  clear H5 Z5 h5' q5 K6 HP
  obtain ⟨y0, y1, y2, y3, y4, y5, y6, y7, y8, yf⟩ := Z6
  obtain ⟨x0, x1, x2, x3, x4, x5, x6, x7, x8, xf⟩ := H6
  go_wp2_with fail
  refine bodyPost_ret (v := hv 1 (b % 16) V d e t y ra rn rc) (by simp [results, Try.results41, go_sem, y1, y2, y3, y4, y5, y6, y7, y8]) rfl ⟨rfl, ?_, ?_, ?_⟩
  · iterate 8 refine Cc.other ?_ hne
    exact h6
  · iterate 8 refine hEx _ _ _ ?_
    exact X6
  · iterate 8 refine Kx.fresh ?_ (Nat.le_refl _)
    exact q6
set_option maxHeartbeats 2000000 in
theorem header1_bad (cb short : Nat) (s : ByteArray) (told : Int) (w : World) (hs : s.size ≤ 1048576) (hsh : short ≤ 20) (h0 : 0 < s.size) (V : Int) (hV : (V == 0) = false) (h5 : 5 ≤ s.size) (hW : big 0 (s.extract 1 5).data.toList = V) (hl : 192 ≤ at8 s 0 ∧ at8 s 0 / 16 % 4 = 1) (hP : ∀ hb W, hb ≠ cb → w.heap.size < hb → w.heap.size < W.heap.size → Cc W cb s 5 told → Hh W hb (.int .i64 1) (.int .i64 (at8 s 0 % 16)) (.int .i64 V) (.string sE) (.string sE) (.string sE) (.string sE) nilS → Calls Try.prog 71 #[.pointer (some ⟨cb, 0, none⟩), .iface 113 (.agg #[.int .i64 1]), .pointer (some ⟨hb, 0, none⟩), .int .i64 short] W (Bad2 cb hb W)) (h : Cc w cb s 0 told) :
    Calls Try.prog 41 #[.pointer (some ⟨cb, 0, none⟩), .int .i64 short] w (Bad cb w) := by
  have hcb := h.lt
  have hne : w.heap.size ≠ cb := by omega
  have b8 := at8_in s 0
  have HA := hide (packet_ok cb s told (wZ w) hs h0 (by rw [b64]; omega) (h.below (wZ_b w)))
  have e15 := b15 s 0
  have e128 := b128_hi s 0 (by omega)
  have en : bits .andNot .i64 (at8 s 0) 15 = 208 := by rw [bnot15]; omega
  have HF := hide (fun W => seen_long (at8 s 0) V W e128 hV b8.1 b8.2 (b3 s 0))
  rw [hl.2] at HF
  have HW := hide (fun W (hC : Cc W cb s 1 told) => word_ok cb 1 s told W hs (by omega) hC)
  rw [hW] at HW
  have HO := hide formOf_1
  have HM := hide mark_1
  have hm := meth_1
  have HP := hide hP
  clear h hP hW
  clear hl
  generalize at8 s 0 = b at *
  go_enter Try.func41, Try.ntmps41
  go_wp2_with fail
  refine (unhide HA).mono ?_
  rintro e1 w1 ⟨rfl, h1, k1⟩
  have Z1 := (wZ_h w).kx k1 hne
  have q1 := (Kx.of (cb := cb) (wZ_b w)).trans k1
  have lz := Z1.lt
  have lc := h1.lt
  have hne1 : w1.heap.size ≠ cb := by omega
  clear HA k1
  go_wp2_with fail
  have B1 := (Below.refl w1.heap.size w1).alloc (Nat.le_refl _) (.cells #[.int .i64 0, .int .i64 (b % 16), .int .i64 0, .string sE, .string sE, .string sE, .string sE, nilS] 49)
  refine (unhide HW _ (h1.below B1)).mono ?_
  rintro e2 w2 ⟨rfl, h2, k2⟩
  have H2 := (Hh.new w1 49 (.int .i64 0) (.int .i64 (b % 16)) (.int .i64 0) (.string sE) (.string sE) (.string sE) (.string sE) nilS).kx k2 hne1
  have Z2 := (Z1.below B1).kx k2 hne
  have q2 := (q1.trans (Kx.of B1)).trans k2
  clear Z1 q1 k2 B1 h1 HW
  have g2 := H2.c2
  have f2 := H2.fz 2
  go_wp2_with fail
  have H3 := H2.s2 (u := .int .i64 V)
  have Z3 := Z2.other (b' := w1.heap.size) (i := 2) (u := .int .i64 V) (by omega)
  have h3 := h2.other (b := w1.heap.size) (i := 2) (u := .int .i64 V) hne1
  have q3 := q2.fresh (b := w1.heap.size) (i := 2) (u := .int .i64 V) (by omega)
  clear H2 Z2 h2 q2 g2 f2
  generalize w2.setCell ⟨w1.heap.size, 2, none⟩ (.int .i64 V) = w3 at H3 Z3 h3 q3 ⊢
  refine (unhide HF _).mono ?_
  rintro e3 w3' ⟨rfl, rfl⟩
  have g0 := H3.c0
  have f0 := H3.fz 0
  have Hk := H3.s0 (u := .int .i64 1)
  have g0k := Hk.c0
  go_wp2_with fail
  have Z4 := Z3.other (b' := w1.heap.size) (i := 0) (u := .int .i64 1) (by omega)
  have h4 := h3.other (b := w1.heap.size) (i := 0) (u := .int .i64 1) hne1
  have q4 := q3.fresh (b := w1.heap.size) (i := 0) (u := .int .i64 1) (by omega)
  clear H3 Z3 h3 q3 g0 f0 g0k
  generalize w3'.setCell ⟨w1.heap.size, 0, none⟩ (.int .i64 1) = w4 at Hk Z4 h4 q4 ⊢
  refine (unhide HO _).mono ?_
  rintro e4 w4' ⟨rfl, rfl⟩
  go_wp2_with fail
  refine (unhide HM _).mono ?_
  rintro e5 w5 ⟨rfl, b5⟩
  have H5 := Hk.below b5
  have Z5 := Z4.below b5
  have h5' := h4.below b5
  have q5 := q4.trans (Kx.of b5)
  clear Hk Z4 h4 q4 b5 HM HO HF hm
  go_wp2_with fail
  refine (unhide HP w1.heap.size w5 hne1 lz (by have := H5.lt; omega) h5' H5).mono ?_
  rintro e6 w6 ⟨c, hC, rfl, K6⟩
  have q6 := K6.kx q5 (by omega)
  clear H5 Z5 h5' q5 K6 HP
  go_wp2_with fail
  exact ⟨rfl, c, hC, rfl, q6⟩
set_option maxHeartbeats 2000000 in
theorem header2_ok (cb short : Nat) (s : ByteArray) (told : Int) (w : World) (hs : s.size ≤ 1048576) (hsh : short ≤ 20) (h0 : 0 < s.size) (V : Int) (hV : (V == 0) = false) (h5 : 5 ≤ s.size) (hW : big 0 (s.extract 1 5).data.toList = V) (hl : 192 ≤ at8 s 0 ∧ at8 s 0 / 16 % 4 = 2) (d e t y : ByteArray) (ra : Option Addr) (rn rc : Nat) (q : Nat) (Ex : World → Prop) (hEx : ∀ W i u, Ex W → Ex (W.setCell ⟨w.heap.size, i, none⟩ u)) (hP : ∀ hb W, hb ≠ cb → w.heap.size < hb → w.heap.size < W.heap.size → Cc W cb s 5 told → Hh W hb (.int .i64 2) (.int .i64 (at8 s 0 % 16)) (.int .i64 V) (.string sE) (.string sE) (.string sE) (.string sE) nilS → Calls Try.prog 71 #[.pointer (some ⟨cb, 0, none⟩), .iface 113 (.agg #[.int .i64 2]), .pointer (some ⟨hb, 0, none⟩), .int .i64 short] W fun e0 w' => e0 = .returned (.tuple #[]) ∧ Cc w' cb s q told ∧ Hh w' hb (.int .i64 2) (.int .i64 (at8 s 0 % 16)) (.int .i64 V) (.string d) (.string e) (.string t) (.string y) (.slice ra rn rc) ∧ Ex w' ∧ K2 cb hb W w') (h : Cc w cb s 0 told) :
    Calls Try.prog 41 #[.pointer (some ⟨cb, 0, none⟩), .int .i64 short] w fun e0 w' => e0 = .returned (hv 2 (at8 s 0 % 16) V d e t y ra rn rc) ∧ Cc w' cb s q told ∧ Ex w' ∧ Kx cb w w' := by
  have hcb := h.lt
  have hne : w.heap.size ≠ cb := by omega
  have b8 := at8_in s 0
  have HA := hide (packet_ok cb s told (wZ w) hs h0 (by rw [b64]; omega) (h.below (wZ_b w)))
  have e15 := b15 s 0
  have e128 := b128_hi s 0 (by omega)
  have en : bits .andNot .i64 (at8 s 0) 15 = 224 := by rw [bnot15]; omega
  have HF := hide (fun W => seen_long (at8 s 0) V W e128 hV b8.1 b8.2 (b3 s 0))
  rw [hl.2] at HF
  have HW := hide (fun W (hC : Cc W cb s 1 told) => word_ok cb 1 s told W hs (by omega) hC)
  rw [hW] at HW
  have HO := hide formOf_2
  have HM := hide mark_2
  have hm := meth_2
  have HP := hide hP
  clear h hP hW
  clear hl
  generalize at8 s 0 = b at *
  go_enter Try.func41, Try.ntmps41
  go_wp2_with fail
  refine (unhide HA).mono ?_
  rintro e1 w1 ⟨rfl, h1, k1⟩
  have Z1 := (wZ_h w).kx k1 hne
  have q1 := (Kx.of (cb := cb) (wZ_b w)).trans k1
  have lz := Z1.lt
  have lc := h1.lt
  have hne1 : w1.heap.size ≠ cb := by omega
  clear HA k1
  go_wp2_with fail
  have B1 := (Below.refl w1.heap.size w1).alloc (Nat.le_refl _) (.cells #[.int .i64 0, .int .i64 (b % 16), .int .i64 0, .string sE, .string sE, .string sE, .string sE, nilS] 49)
  refine (unhide HW _ (h1.below B1)).mono ?_
  rintro e2 w2 ⟨rfl, h2, k2⟩
  have H2 := (Hh.new w1 49 (.int .i64 0) (.int .i64 (b % 16)) (.int .i64 0) (.string sE) (.string sE) (.string sE) (.string sE) nilS).kx k2 hne1
  have Z2 := (Z1.below B1).kx k2 hne
  have q2 := (q1.trans (Kx.of B1)).trans k2
  clear Z1 q1 k2 B1 h1 HW
  have g2 := H2.c2
  have f2 := H2.fz 2
  go_wp2_with fail
  have H3 := H2.s2 (u := .int .i64 V)
  have Z3 := Z2.other (b' := w1.heap.size) (i := 2) (u := .int .i64 V) (by omega)
  have h3 := h2.other (b := w1.heap.size) (i := 2) (u := .int .i64 V) hne1
  have q3 := q2.fresh (b := w1.heap.size) (i := 2) (u := .int .i64 V) (by omega)
  clear H2 Z2 h2 q2 g2 f2
  generalize w2.setCell ⟨w1.heap.size, 2, none⟩ (.int .i64 V) = w3 at H3 Z3 h3 q3 ⊢
  refine (unhide HF _).mono ?_
  rintro e3 w3' ⟨rfl, rfl⟩
  have g0 := H3.c0
  have f0 := H3.fz 0
  have Hk := H3.s0 (u := .int .i64 2)
  have g0k := Hk.c0
  go_wp2_with fail
  have Z4 := Z3.other (b' := w1.heap.size) (i := 0) (u := .int .i64 2) (by omega)
  have h4 := h3.other (b := w1.heap.size) (i := 0) (u := .int .i64 2) hne1
  have q4 := q3.fresh (b := w1.heap.size) (i := 0) (u := .int .i64 2) (by omega)
  clear H3 Z3 h3 q3 g0 f0 g0k
  generalize w3'.setCell ⟨w1.heap.size, 0, none⟩ (.int .i64 2) = w4 at Hk Z4 h4 q4 ⊢
  refine (unhide HO _).mono ?_
  rintro e4 w4' ⟨rfl, rfl⟩
  go_wp2_with fail
  refine (unhide HM _).mono ?_
  rintro e5 w5 ⟨rfl, b5⟩
  have H5 := Hk.below b5
  have Z5 := Z4.below b5
  have h5' := h4.below b5
  have q5 := q4.trans (Kx.of b5)
  clear Hk Z4 h4 q4 b5 HM HO HF hm
  go_wp2_with fail
  refine (unhide HP w1.heap.size w5 hne1 lz (by have := H5.lt; omega) h5' H5).mono ?_
  rintro e6 w6 ⟨rfl, h6, H6, X6, K6⟩
  have Z6 := Z5.k2 K6 hne (by omega)
  have q6 := K6.kx q5 (by omega)
  clear H5 Z5 h5' q5 K6 HP
  obtain ⟨y0, y1, y2, y3, y4, y5, y6, y7, y8, yf⟩ := Z6
  obtain ⟨x0, x1, x2, x3, x4, x5, x6, x7, x8, xf⟩ := H6
  go_wp2_with fail
  refine bodyPost_ret (v := hv 2 (b % 16) V d e t y ra rn rc) (by simp [results, Try.results41, go_sem, y1, y2, y3, y4, y5, y6, y7, y8]) rfl ⟨rfl, ?_, ?_, ?_⟩
  · iterate 8 refine Cc.other ?_ hne
    exact h6
  · iterate 8 refine hEx _ _ _ ?_
    exact X6
  · iterate 8 refine Kx.fresh ?_ (Nat.le_refl _)
    exact q6
set_option maxHeartbeats 2000000 in
theorem header2_bad (cb short : Nat) (s : ByteArray) (told : Int) (w : World) (hs : s.size ≤ 1048576) (hsh : short ≤ 20) (h0 : 0 < s.size) (V : Int) (hV : (V == 0) = false) (h5 : 5 ≤ s.size) (hW : big 0 (s.extract 1 5).data.toList = V) (hl : 192 ≤ at8 s 0 ∧ at8 s 0 / 16 % 4 = 2) (hP : ∀ hb W, hb ≠ cb → w.heap.size < hb → w.heap.size < W.heap.size → Cc W cb s 5 told → Hh W hb (.int .i64 2) (.int .i64 (at8 s 0 % 16)) (.int .i64 V) (.string sE) (.string sE) (.string sE) (.string sE) nilS → Calls Try.prog 71 #[.pointer (some ⟨cb, 0, none⟩), .iface 113 (.agg #[.int .i64 2]), .pointer (some ⟨hb, 0, none⟩), .int .i64 short] W (Bad2 cb hb W)) (h : Cc w cb s 0 told) :
    Calls Try.prog 41 #[.pointer (some ⟨cb, 0, none⟩), .int .i64 short] w (Bad cb w) := by
  have hcb := h.lt
  have hne : w.heap.size ≠ cb := by omega
  have b8 := at8_in s 0
  have HA := hide (packet_ok cb s told (wZ w) hs h0 (by rw [b64]; omega) (h.below (wZ_b w)))
  have e15 := b15 s 0
  have e128 := b128_hi s 0 (by omega)
  have en : bits .andNot .i64 (at8 s 0) 15 = 224 := by rw [bnot15]; omega
  have HF := hide (fun W => seen_long (at8 s 0) V W e128 hV b8.1 b8.2 (b3 s 0))
  rw [hl.2] at HF
  have HW := hide (fun W (hC : Cc W cb s 1 told) => word_ok cb 1 s told W hs (by omega) hC)
  rw [hW] at HW
  have HO := hide formOf_2
  have HM := hide mark_2
  have hm := meth_2
  have HP := hide hP
  clear h hP hW
  clear hl
  generalize at8 s 0 = b at *
  go_enter Try.func41, Try.ntmps41
  go_wp2_with fail
  refine (unhide HA).mono ?_
  rintro e1 w1 ⟨rfl, h1, k1⟩
  have Z1 := (wZ_h w).kx k1 hne
  have q1 := (Kx.of (cb := cb) (wZ_b w)).trans k1
  have lz := Z1.lt
  have lc := h1.lt
  have hne1 : w1.heap.size ≠ cb := by omega
  clear HA k1
  go_wp2_with fail
  have B1 := (Below.refl w1.heap.size w1).alloc (Nat.le_refl _) (.cells #[.int .i64 0, .int .i64 (b % 16), .int .i64 0, .string sE, .string sE, .string sE, .string sE, nilS] 49)
  refine (unhide HW _ (h1.below B1)).mono ?_
  rintro e2 w2 ⟨rfl, h2, k2⟩
  have H2 := (Hh.new w1 49 (.int .i64 0) (.int .i64 (b % 16)) (.int .i64 0) (.string sE) (.string sE) (.string sE) (.string sE) nilS).kx k2 hne1
  have Z2 := (Z1.below B1).kx k2 hne
  have q2 := (q1.trans (Kx.of B1)).trans k2
  clear Z1 q1 k2 B1 h1 HW
  have g2 := H2.c2
  have f2 := H2.fz 2
  go_wp2_with fail
  have H3 := H2.s2 (u := .int .i64 V)
  have Z3 := Z2.other (b' := w1.heap.size) (i := 2) (u := .int .i64 V) (by omega)
  have h3 := h2.other (b := w1.heap.size) (i := 2) (u := .int .i64 V) hne1
  have q3 := q2.fresh (b := w1.heap.size) (i := 2) (u := .int .i64 V) (by omega)
  clear H2 Z2 h2 q2 g2 f2
  generalize w2.setCell ⟨w1.heap.size, 2, none⟩ (.int .i64 V) = w3 at H3 Z3 h3 q3 ⊢
  refine (unhide HF _).mono ?_
  rintro e3 w3' ⟨rfl, rfl⟩
  have g0 := H3.c0
  have f0 := H3.fz 0
  have Hk := H3.s0 (u := .int .i64 2)
  have g0k := Hk.c0
  go_wp2_with fail
  have Z4 := Z3.other (b' := w1.heap.size) (i := 0) (u := .int .i64 2) (by omega)
  have h4 := h3.other (b := w1.heap.size) (i := 0) (u := .int .i64 2) hne1
  have q4 := q3.fresh (b := w1.heap.size) (i := 0) (u := .int .i64 2) (by omega)
  clear H3 Z3 h3 q3 g0 f0 g0k
  generalize w3'.setCell ⟨w1.heap.size, 0, none⟩ (.int .i64 2) = w4 at Hk Z4 h4 q4 ⊢
  refine (unhide HO _).mono ?_
  rintro e4 w4' ⟨rfl, rfl⟩
  go_wp2_with fail
  refine (unhide HM _).mono ?_
  rintro e5 w5 ⟨rfl, b5⟩
  have H5 := Hk.below b5
  have Z5 := Z4.below b5
  have h5' := h4.below b5
  have q5 := q4.trans (Kx.of b5)
  clear Hk Z4 h4 q4 b5 HM HO HF hm
  go_wp2_with fail
  refine (unhide HP w1.heap.size w5 hne1 lz (by have := H5.lt; omega) h5' H5).mono ?_
  rintro e6 w6 ⟨c, hC, rfl, K6⟩
  have q6 := K6.kx q5 (by omega)
  clear H5 Z5 h5' q5 K6 HP
  go_wp2_with fail
  exact ⟨rfl, c, hC, rfl, q6⟩
set_option maxHeartbeats 2000000 in
theorem header3_ok (cb short : Nat) (s : ByteArray) (told : Int) (w : World) (hs : s.size ≤ 1048576) (hsh : short ≤ 20) (h0 : 0 < s.size) (V : Int) (hV : (V == 0) = false) (h5 : 5 ≤ s.size) (hW : big 0 (s.extract 1 5).data.toList = V) (hl : 192 ≤ at8 s 0 ∧ at8 s 0 / 16 % 4 = 3) (d e t y : ByteArray) (ra : Option Addr) (rn rc : Nat) (q : Nat) (Ex : World → Prop) (hEx : ∀ W i u, Ex W → Ex (W.setCell ⟨w.heap.size, i, none⟩ u)) (hP : ∀ hb W, hb ≠ cb → w.heap.size < hb → w.heap.size < W.heap.size → Cc W cb s 5 told → Hh W hb (.int .i64 3) (.int .i64 (at8 s 0 % 16)) (.int .i64 V) (.string sE) (.string sE) (.string sE) (.string sE) nilS → Calls Try.prog 71 #[.pointer (some ⟨cb, 0, none⟩), .iface 114 (.agg #[]), .pointer (some ⟨hb, 0, none⟩), .int .i64 short] W fun e0 w' => e0 = .returned (.tuple #[]) ∧ Cc w' cb s q told ∧ Hh w' hb (.int .i64 3) (.int .i64 (at8 s 0 % 16)) (.int .i64 V) (.string d) (.string e) (.string t) (.string y) (.slice ra rn rc) ∧ Ex w' ∧ K2 cb hb W w') (h : Cc w cb s 0 told) :
    Calls Try.prog 41 #[.pointer (some ⟨cb, 0, none⟩), .int .i64 short] w fun e0 w' => e0 = .returned (hv 3 (at8 s 0 % 16) V d e t y ra rn rc) ∧ Cc w' cb s q told ∧ Ex w' ∧ Kx cb w w' := by
  have hcb := h.lt
  have hne : w.heap.size ≠ cb := by omega
  have b8 := at8_in s 0
  have HA := hide (packet_ok cb s told (wZ w) hs h0 (by rw [b64]; omega) (h.below (wZ_b w)))
  have e15 := b15 s 0
  have e128 := b128_hi s 0 (by omega)
  have en : bits .andNot .i64 (at8 s 0) 15 = 240 := by rw [bnot15]; omega
  have HF := hide (fun W => seen_long (at8 s 0) V W e128 hV b8.1 b8.2 (b3 s 0))
  rw [hl.2] at HF
  have HW := hide (fun W (hC : Cc W cb s 1 told) => word_ok cb 1 s told W hs (by omega) hC)
  rw [hW] at HW
  have HO := hide formOf_3
  have HM := hide mark_3
  have hm := meth_3
  have HP := hide hP
  clear h hP hW
  clear hl
  generalize at8 s 0 = b at *
  go_enter Try.func41, Try.ntmps41
  go_wp2_with fail
  refine (unhide HA).mono ?_
  rintro e1 w1 ⟨rfl, h1, k1⟩
  have Z1 := (wZ_h w).kx k1 hne
  have q1 := (Kx.of (cb := cb) (wZ_b w)).trans k1
  have lz := Z1.lt
  have lc := h1.lt
  have hne1 : w1.heap.size ≠ cb := by omega
  clear HA k1
  go_wp2_with fail
  have B1 := (Below.refl w1.heap.size w1).alloc (Nat.le_refl _) (.cells #[.int .i64 0, .int .i64 (b % 16), .int .i64 0, .string sE, .string sE, .string sE, .string sE, nilS] 49)
  refine (unhide HW _ (h1.below B1)).mono ?_
  rintro e2 w2 ⟨rfl, h2, k2⟩
  have H2 := (Hh.new w1 49 (.int .i64 0) (.int .i64 (b % 16)) (.int .i64 0) (.string sE) (.string sE) (.string sE) (.string sE) nilS).kx k2 hne1
  have Z2 := (Z1.below B1).kx k2 hne
  have q2 := (q1.trans (Kx.of B1)).trans k2
  clear Z1 q1 k2 B1 h1 HW
  have g2 := H2.c2
  have f2 := H2.fz 2
  go_wp2_with fail
  have H3 := H2.s2 (u := .int .i64 V)
  have Z3 := Z2.other (b' := w1.heap.size) (i := 2) (u := .int .i64 V) (by omega)
  have h3 := h2.other (b := w1.heap.size) (i := 2) (u := .int .i64 V) hne1
  have q3 := q2.fresh (b := w1.heap.size) (i := 2) (u := .int .i64 V) (by omega)
  clear H2 Z2 h2 q2 g2 f2
  generalize w2.setCell ⟨w1.heap.size, 2, none⟩ (.int .i64 V) = w3 at H3 Z3 h3 q3 ⊢
  refine (unhide HF _).mono ?_
  rintro e3 w3' ⟨rfl, rfl⟩
  have g0 := H3.c0
  have f0 := H3.fz 0
  have Hk := H3.s0 (u := .int .i64 3)
  have g0k := Hk.c0
  go_wp2_with fail
  have Z4 := Z3.other (b' := w1.heap.size) (i := 0) (u := .int .i64 3) (by omega)
  have h4 := h3.other (b := w1.heap.size) (i := 0) (u := .int .i64 3) hne1
  have q4 := q3.fresh (b := w1.heap.size) (i := 0) (u := .int .i64 3) (by omega)
  clear H3 Z3 h3 q3 g0 f0 g0k
  generalize w3'.setCell ⟨w1.heap.size, 0, none⟩ (.int .i64 3) = w4 at Hk Z4 h4 q4 ⊢
  refine (unhide HO _).mono ?_
  rintro e4 w4' ⟨rfl, rfl⟩
  go_wp2_with fail
  refine (unhide HM _).mono ?_
  rintro e5 w5 ⟨rfl, b5⟩
  have H5 := Hk.below b5
  have Z5 := Z4.below b5
  have h5' := h4.below b5
  have q5 := q4.trans (Kx.of b5)
  clear Hk Z4 h4 q4 b5 HM HO HF hm
  go_wp2_with fail
  refine (unhide HP w1.heap.size w5 hne1 lz (by have := H5.lt; omega) h5' H5).mono ?_
  rintro e6 w6 ⟨rfl, h6, H6, X6, K6⟩
  have Z6 := Z5.k2 K6 hne (by omega)
  have q6 := K6.kx q5 (by omega)
  clear H5 Z5 h5' q5 K6 HP
  obtain ⟨y0, y1, y2, y3, y4, y5, y6, y7, y8, yf⟩ := Z6
  obtain ⟨x0, x1, x2, x3, x4, x5, x6, x7, x8, xf⟩ := H6
  go_wp2_with fail
  refine bodyPost_ret (v := hv 3 (b % 16) V d e t y ra rn rc) (by simp [results, Try.results41, go_sem, y1, y2, y3, y4, y5, y6, y7, y8]) rfl ⟨rfl, ?_, ?_, ?_⟩
  · iterate 8 refine Cc.other ?_ hne
    exact h6
  · iterate 8 refine hEx _ _ _ ?_
    exact X6
  · iterate 8 refine Kx.fresh ?_ (Nat.le_refl _)
    exact q6
set_option maxHeartbeats 2000000 in
theorem header3_bad (cb short : Nat) (s : ByteArray) (told : Int) (w : World) (hs : s.size ≤ 1048576) (hsh : short ≤ 20) (h0 : 0 < s.size) (V : Int) (hV : (V == 0) = false) (h5 : 5 ≤ s.size) (hW : big 0 (s.extract 1 5).data.toList = V) (hl : 192 ≤ at8 s 0 ∧ at8 s 0 / 16 % 4 = 3) (hP : ∀ hb W, hb ≠ cb → w.heap.size < hb → w.heap.size < W.heap.size → Cc W cb s 5 told → Hh W hb (.int .i64 3) (.int .i64 (at8 s 0 % 16)) (.int .i64 V) (.string sE) (.string sE) (.string sE) (.string sE) nilS → Calls Try.prog 71 #[.pointer (some ⟨cb, 0, none⟩), .iface 114 (.agg #[]), .pointer (some ⟨hb, 0, none⟩), .int .i64 short] W (Bad2 cb hb W)) (h : Cc w cb s 0 told) :
    Calls Try.prog 41 #[.pointer (some ⟨cb, 0, none⟩), .int .i64 short] w (Bad cb w) := by
  have hcb := h.lt
  have hne : w.heap.size ≠ cb := by omega
  have b8 := at8_in s 0
  have HA := hide (packet_ok cb s told (wZ w) hs h0 (by rw [b64]; omega) (h.below (wZ_b w)))
  have e15 := b15 s 0
  have e128 := b128_hi s 0 (by omega)
  have en : bits .andNot .i64 (at8 s 0) 15 = 240 := by rw [bnot15]; omega
  have HF := hide (fun W => seen_long (at8 s 0) V W e128 hV b8.1 b8.2 (b3 s 0))
  rw [hl.2] at HF
  have HW := hide (fun W (hC : Cc W cb s 1 told) => word_ok cb 1 s told W hs (by omega) hC)
  rw [hW] at HW
  have HO := hide formOf_3
  have HM := hide mark_3
  have hm := meth_3
  have HP := hide hP
  clear h hP hW
  clear hl
  generalize at8 s 0 = b at *
  go_enter Try.func41, Try.ntmps41
  go_wp2_with fail
  refine (unhide HA).mono ?_
  rintro e1 w1 ⟨rfl, h1, k1⟩
  have Z1 := (wZ_h w).kx k1 hne
  have q1 := (Kx.of (cb := cb) (wZ_b w)).trans k1
  have lz := Z1.lt
  have lc := h1.lt
  have hne1 : w1.heap.size ≠ cb := by omega
  clear HA k1
  go_wp2_with fail
  have B1 := (Below.refl w1.heap.size w1).alloc (Nat.le_refl _) (.cells #[.int .i64 0, .int .i64 (b % 16), .int .i64 0, .string sE, .string sE, .string sE, .string sE, nilS] 49)
  refine (unhide HW _ (h1.below B1)).mono ?_
  rintro e2 w2 ⟨rfl, h2, k2⟩
  have H2 := (Hh.new w1 49 (.int .i64 0) (.int .i64 (b % 16)) (.int .i64 0) (.string sE) (.string sE) (.string sE) (.string sE) nilS).kx k2 hne1
  have Z2 := (Z1.below B1).kx k2 hne
  have q2 := (q1.trans (Kx.of B1)).trans k2
  clear Z1 q1 k2 B1 h1 HW
  have g2 := H2.c2
  have f2 := H2.fz 2
  go_wp2_with fail
  have H3 := H2.s2 (u := .int .i64 V)
  have Z3 := Z2.other (b' := w1.heap.size) (i := 2) (u := .int .i64 V) (by omega)
  have h3 := h2.other (b := w1.heap.size) (i := 2) (u := .int .i64 V) hne1
  have q3 := q2.fresh (b := w1.heap.size) (i := 2) (u := .int .i64 V) (by omega)
  clear H2 Z2 h2 q2 g2 f2
  generalize w2.setCell ⟨w1.heap.size, 2, none⟩ (.int .i64 V) = w3 at H3 Z3 h3 q3 ⊢
  refine (unhide HF _).mono ?_
  rintro e3 w3' ⟨rfl, rfl⟩
  have g0 := H3.c0
  have f0 := H3.fz 0
  have Hk := H3.s0 (u := .int .i64 3)
  have g0k := Hk.c0
  go_wp2_with fail
  have Z4 := Z3.other (b' := w1.heap.size) (i := 0) (u := .int .i64 3) (by omega)
  have h4 := h3.other (b := w1.heap.size) (i := 0) (u := .int .i64 3) hne1
  have q4 := q3.fresh (b := w1.heap.size) (i := 0) (u := .int .i64 3) (by omega)
  clear H3 Z3 h3 q3 g0 f0 g0k
  generalize w3'.setCell ⟨w1.heap.size, 0, none⟩ (.int .i64 3) = w4 at Hk Z4 h4 q4 ⊢
  refine (unhide HO _).mono ?_
  rintro e4 w4' ⟨rfl, rfl⟩
  go_wp2_with fail
  refine (unhide HM _).mono ?_
  rintro e5 w5 ⟨rfl, b5⟩
  have H5 := Hk.below b5
  have Z5 := Z4.below b5
  have h5' := h4.below b5
  have q5 := q4.trans (Kx.of b5)
  clear Hk Z4 h4 q4 b5 HM HO HF hm
  go_wp2_with fail
  refine (unhide HP w1.heap.size w5 hne1 lz (by have := H5.lt; omega) h5' H5).mono ?_
  rintro e6 w6 ⟨c, hC, rfl, K6⟩
  have q6 := K6.kx q5 (by omega)
  clear H5 Z5 h5' q5 K6 HP
  go_wp2_with fail
  exact ⟨rfl, c, hC, rfl, q6⟩
set_option maxHeartbeats 2000000 in
theorem header4_ok (cb short : Nat) (s : ByteArray) (told : Int) (w : World) (hs : s.size ≤ 1048576) (hsh : short ≤ 20) (h0 : 0 < s.size) (h5 : 5 ≤ s.size) (hW : big 0 (s.extract 1 5).data.toList = 0) (hl : 192 ≤ at8 s 0 ∧ at8 s 0 < 208) (d e t y : ByteArray) (q : Nat) (Ex : Option Addr → Nat → Nat → World → Prop) (hEx : ∀ ra rn rc W i u, Ex ra rn rc W → Ex ra rn rc (W.setCell ⟨w.heap.size, i, none⟩ u)) (hP : ∀ hb W, hb ≠ cb → w.heap.size < hb → w.heap.size < W.heap.size → Cc W cb s 5 told → Hh W hb (.int .i64 4) (.int .i64 (at8 s 0 % 16)) (.int .i64 0) (.string sE) (.string sE) (.string sE) (.string sE) nilS → Calls Try.prog 71 #[.pointer (some ⟨cb, 0, none⟩), .iface 115 (.agg #[]), .pointer (some ⟨hb, 0, none⟩), .int .i64 short] W fun e0 w' => ∃ ra rn rc, e0 = .returned (.tuple #[]) ∧ Cc w' cb s q told ∧ Hh w' hb (.int .i64 4) (.int .i64 (at8 s 0 % 16)) (.int .i64 0) (.string d) (.string e) (.string t) (.string y) (.slice ra rn rc) ∧ Ex ra rn rc w' ∧ K2 cb hb W w') (h : Cc w cb s 0 told) :
    Calls Try.prog 41 #[.pointer (some ⟨cb, 0, none⟩), .int .i64 short] w fun e0 w' => ∃ ra rn rc, e0 = .returned (hv 4 (at8 s 0 % 16) 0 d e t y ra rn rc) ∧ Cc w' cb s q told ∧ Ex ra rn rc w' ∧ Kx cb w w' := by
  have hcb := h.lt
  have hne : w.heap.size ≠ cb := by omega
  have b8 := at8_in s 0
  have HA := hide (packet_ok cb s told (wZ w) hs h0 (by rw [b64]; omega) (h.below (wZ_b w)))
  have e15 := b15 s 0
  have e128 := b128_hi s 0 (by omega)
  have en : bits .andNot .i64 (at8 s 0) 15 = 192 := by rw [bnot15]; omega
  have HF := hide (fun W => seen_versions (at8 s 0) 0 W e128 rfl)
  have HW := hide (fun W (hC : Cc W cb s 1 told) => word_ok cb 1 s told W hs (by omega) hC)
  rw [hW] at HW
  have HO := hide formOf_4
  have HM := hide mark_4
  have hm := meth_4
  have HP := hide hP
  clear h hP hW
  clear hl
  generalize at8 s 0 = b at *
  go_enter Try.func41, Try.ntmps41
  go_wp2_with fail
  refine (unhide HA).mono ?_
  rintro e1 w1 ⟨rfl, h1, k1⟩
  have Z1 := (wZ_h w).kx k1 hne
  have q1 := (Kx.of (cb := cb) (wZ_b w)).trans k1
  have lz := Z1.lt
  have lc := h1.lt
  have hne1 : w1.heap.size ≠ cb := by omega
  clear HA k1
  go_wp2_with fail
  have B1 := (Below.refl w1.heap.size w1).alloc (Nat.le_refl _) (.cells #[.int .i64 0, .int .i64 (b % 16), .int .i64 0, .string sE, .string sE, .string sE, .string sE, nilS] 49)
  refine (unhide HW _ (h1.below B1)).mono ?_
  rintro e2 w2 ⟨rfl, h2, k2⟩
  have H2 := (Hh.new w1 49 (.int .i64 0) (.int .i64 (b % 16)) (.int .i64 0) (.string sE) (.string sE) (.string sE) (.string sE) nilS).kx k2 hne1
  have Z2 := (Z1.below B1).kx k2 hne
  have q2 := (q1.trans (Kx.of B1)).trans k2
  clear Z1 q1 k2 B1 h1 HW
  have g2 := H2.c2
  have f2 := H2.fz 2
  go_wp2_with fail
  have H3 := H2.s2 (u := .int .i64 0)
  have Z3 := Z2.other (b' := w1.heap.size) (i := 2) (u := .int .i64 0) (by omega)
  have h3 := h2.other (b := w1.heap.size) (i := 2) (u := .int .i64 0) hne1
  have q3 := q2.fresh (b := w1.heap.size) (i := 2) (u := .int .i64 0) (by omega)
  clear H2 Z2 h2 q2 g2 f2
  generalize w2.setCell ⟨w1.heap.size, 2, none⟩ (.int .i64 0) = w3 at H3 Z3 h3 q3 ⊢
  refine (unhide HF _).mono ?_
  rintro e3 w3' ⟨rfl, rfl⟩
  have g0 := H3.c0
  have f0 := H3.fz 0
  have Hk := H3.s0 (u := .int .i64 4)
  have g0k := Hk.c0
  go_wp2_with fail
  have Z4 := Z3.other (b' := w1.heap.size) (i := 0) (u := .int .i64 4) (by omega)
  have h4 := h3.other (b := w1.heap.size) (i := 0) (u := .int .i64 4) hne1
  have q4 := q3.fresh (b := w1.heap.size) (i := 0) (u := .int .i64 4) (by omega)
  clear H3 Z3 h3 q3 g0 f0 g0k
  generalize w3'.setCell ⟨w1.heap.size, 0, none⟩ (.int .i64 4) = w4 at Hk Z4 h4 q4 ⊢
  refine (unhide HO _).mono ?_
  rintro e4 w4' ⟨rfl, rfl⟩
  go_wp2_with fail
  refine (unhide HM _).mono ?_
  rintro e5 w5 ⟨rfl, b5⟩
  have H5 := Hk.below b5
  have Z5 := Z4.below b5
  have h5' := h4.below b5
  have q5 := q4.trans (Kx.of b5)
  clear Hk Z4 h4 q4 b5 HM HO HF hm
  go_wp2_with fail
  refine (unhide HP w1.heap.size w5 hne1 lz (by have := H5.lt; omega) h5' H5).mono ?_
  rintro e6 w6 ⟨ra, rn, rc, rfl, h6, H6, X6, K6⟩
  have Z6 := Z5.k2 K6 hne (by omega)
  have q6 := K6.kx q5 (by omega)
  clear H5 Z5 h5' q5 K6 HP
  obtain ⟨y0, y1, y2, y3, y4, y5, y6, y7, y8, yf⟩ := Z6
  obtain ⟨x0, x1, x2, x3, x4, x5, x6, x7, x8, xf⟩ := H6
  go_wp2_with fail
  refine bodyPost_ret (v := hv 4 (b % 16) 0 d e t y ra rn rc) (by simp [results, Try.results41, go_sem, y1, y2, y3, y4, y5, y6, y7, y8]) rfl ⟨ra, rn, rc, rfl, ?_, ?_, ?_⟩
  · iterate 8 refine Cc.other ?_ hne
    exact h6
  · iterate 8 refine hEx ra rn rc _ _ _ ?_
    exact X6
  · iterate 8 refine Kx.fresh ?_ (Nat.le_refl _)
    exact q6
set_option maxHeartbeats 2000000 in
theorem header4_bad (cb short : Nat) (s : ByteArray) (told : Int) (w : World) (hs : s.size ≤ 1048576) (hsh : short ≤ 20) (h0 : 0 < s.size) (h5 : 5 ≤ s.size) (hW : big 0 (s.extract 1 5).data.toList = 0) (hl : 192 ≤ at8 s 0 ∧ at8 s 0 < 208) (hP : ∀ hb W, hb ≠ cb → w.heap.size < hb → w.heap.size < W.heap.size → Cc W cb s 5 told → Hh W hb (.int .i64 4) (.int .i64 (at8 s 0 % 16)) (.int .i64 0) (.string sE) (.string sE) (.string sE) (.string sE) nilS → Calls Try.prog 71 #[.pointer (some ⟨cb, 0, none⟩), .iface 115 (.agg #[]), .pointer (some ⟨hb, 0, none⟩), .int .i64 short] W (Bad2 cb hb W)) (h : Cc w cb s 0 told) :
    Calls Try.prog 41 #[.pointer (some ⟨cb, 0, none⟩), .int .i64 short] w (Bad cb w) := by
  have hcb := h.lt
  have hne : w.heap.size ≠ cb := by omega
  have b8 := at8_in s 0
  have HA := hide (packet_ok cb s told (wZ w) hs h0 (by rw [b64]; omega) (h.below (wZ_b w)))
  have e15 := b15 s 0
  have e128 := b128_hi s 0 (by omega)
  have en : bits .andNot .i64 (at8 s 0) 15 = 192 := by rw [bnot15]; omega
  have HF := hide (fun W => seen_versions (at8 s 0) 0 W e128 rfl)
  have HW := hide (fun W (hC : Cc W cb s 1 told) => word_ok cb 1 s told W hs (by omega) hC)
  rw [hW] at HW
  have HO := hide formOf_4
  have HM := hide mark_4
  have hm := meth_4
  have HP := hide hP
  clear h hP hW
  clear hl
  generalize at8 s 0 = b at *
  go_enter Try.func41, Try.ntmps41
  go_wp2_with fail
  refine (unhide HA).mono ?_
  rintro e1 w1 ⟨rfl, h1, k1⟩
  have Z1 := (wZ_h w).kx k1 hne
  have q1 := (Kx.of (cb := cb) (wZ_b w)).trans k1
  have lz := Z1.lt
  have lc := h1.lt
  have hne1 : w1.heap.size ≠ cb := by omega
  clear HA k1
  go_wp2_with fail
  have B1 := (Below.refl w1.heap.size w1).alloc (Nat.le_refl _) (.cells #[.int .i64 0, .int .i64 (b % 16), .int .i64 0, .string sE, .string sE, .string sE, .string sE, nilS] 49)
  refine (unhide HW _ (h1.below B1)).mono ?_
  rintro e2 w2 ⟨rfl, h2, k2⟩
  have H2 := (Hh.new w1 49 (.int .i64 0) (.int .i64 (b % 16)) (.int .i64 0) (.string sE) (.string sE) (.string sE) (.string sE) nilS).kx k2 hne1
  have Z2 := (Z1.below B1).kx k2 hne
  have q2 := (q1.trans (Kx.of B1)).trans k2
  clear Z1 q1 k2 B1 h1 HW
  have g2 := H2.c2
  have f2 := H2.fz 2
  go_wp2_with fail
  have H3 := H2.s2 (u := .int .i64 0)
  have Z3 := Z2.other (b' := w1.heap.size) (i := 2) (u := .int .i64 0) (by omega)
  have h3 := h2.other (b := w1.heap.size) (i := 2) (u := .int .i64 0) hne1
  have q3 := q2.fresh (b := w1.heap.size) (i := 2) (u := .int .i64 0) (by omega)
  clear H2 Z2 h2 q2 g2 f2
  generalize w2.setCell ⟨w1.heap.size, 2, none⟩ (.int .i64 0) = w3 at H3 Z3 h3 q3 ⊢
  refine (unhide HF _).mono ?_
  rintro e3 w3' ⟨rfl, rfl⟩
  have g0 := H3.c0
  have f0 := H3.fz 0
  have Hk := H3.s0 (u := .int .i64 4)
  have g0k := Hk.c0
  go_wp2_with fail
  have Z4 := Z3.other (b' := w1.heap.size) (i := 0) (u := .int .i64 4) (by omega)
  have h4 := h3.other (b := w1.heap.size) (i := 0) (u := .int .i64 4) hne1
  have q4 := q3.fresh (b := w1.heap.size) (i := 0) (u := .int .i64 4) (by omega)
  clear H3 Z3 h3 q3 g0 f0 g0k
  generalize w3'.setCell ⟨w1.heap.size, 0, none⟩ (.int .i64 4) = w4 at Hk Z4 h4 q4 ⊢
  refine (unhide HO _).mono ?_
  rintro e4 w4' ⟨rfl, rfl⟩
  go_wp2_with fail
  refine (unhide HM _).mono ?_
  rintro e5 w5 ⟨rfl, b5⟩
  have H5 := Hk.below b5
  have Z5 := Z4.below b5
  have h5' := h4.below b5
  have q5 := q4.trans (Kx.of b5)
  clear Hk Z4 h4 q4 b5 HM HO HF hm
  go_wp2_with fail
  refine (unhide HP w1.heap.size w5 hne1 lz (by have := H5.lt; omega) h5' H5).mono ?_
  rintro e6 w6 ⟨c, hC, rfl, K6⟩
  have q6 := K6.kx q5 (by omega)
  clear H5 Z5 h5' q5 K6 HP
  go_wp2_with fail
  exact ⟨rfl, c, hC, rfl, q6⟩
set_option maxHeartbeats 2000000 in
theorem header4_mark (cb short : Nat) (s : ByteArray) (told : Int) (w : World) (hs : s.size ≤ 1048576) (hsh : short ≤ 20) (h0 : 0 < s.size) (h5 : 5 ≤ s.size) (hW : big 0 (s.extract 1 5).data.toList = 0) (hl : 192 ≤ at8 s 0 ∧ 208 ≤ at8 s 0) (h : Cc w cb s 0 told) :
    Calls Try.prog 41 #[.pointer (some ⟨cb, 0, none⟩), .int .i64 short] w (Bad cb w) := by
  have hcb := h.lt
  have hne : w.heap.size ≠ cb := by omega
  have b8 := at8_in s 0
  have HA := hide (packet_ok cb s told (wZ w) hs h0 (by rw [b64]; omega) (h.below (wZ_b w)))
  have e15 := b15 s 0
  have e128 := b128_hi s 0 (by omega)
  have en0 := bnot15 s 0
  have en : (192 : Int) ≠ bits .andNot .i64 (at8 s 0) 15 := by rw [en0]; omega
  have en1 : ((192 : Int) != bits .andNot .i64 (at8 s 0) 15) = true := by simpa using en
  clear en0
  have HF := hide (fun W => seen_versions (at8 s 0) 0 W e128 rfl)
  have HW := hide (fun W (hC : Cc W cb s 1 told) => word_ok cb 1 s told W hs (by omega) hC)
  rw [hW] at HW
  have HO := hide formOf_4
  have HM := hide mark_4
  have hm := meth_4
  clear h  hW
  clear hl
  generalize at8 s 0 = b at *
  go_enter Try.func41, Try.ntmps41
  go_wp2_with fail
  refine (unhide HA).mono ?_
  rintro e1 w1 ⟨rfl, h1, k1⟩
  have Z1 := (wZ_h w).kx k1 hne
  have q1 := (Kx.of (cb := cb) (wZ_b w)).trans k1
  have lz := Z1.lt
  have lc := h1.lt
  have hne1 : w1.heap.size ≠ cb := by omega
  clear HA k1
  go_wp2_with fail
  have B1 := (Below.refl w1.heap.size w1).alloc (Nat.le_refl _) (.cells #[.int .i64 0, .int .i64 (b % 16), .int .i64 0, .string sE, .string sE, .string sE, .string sE, nilS] 49)
  refine (unhide HW _ (h1.below B1)).mono ?_
  rintro e2 w2 ⟨rfl, h2, k2⟩
  have H2 := (Hh.new w1 49 (.int .i64 0) (.int .i64 (b % 16)) (.int .i64 0) (.string sE) (.string sE) (.string sE) (.string sE) nilS).kx k2 hne1
  have Z2 := (Z1.below B1).kx k2 hne
  have q2 := (q1.trans (Kx.of B1)).trans k2
  clear Z1 q1 k2 B1 h1 HW
  have g2 := H2.c2
  have f2 := H2.fz 2
  go_wp2_with fail
  have H3 := H2.s2 (u := .int .i64 0)
  have Z3 := Z2.other (b' := w1.heap.size) (i := 2) (u := .int .i64 0) (by omega)
  have h3 := h2.other (b := w1.heap.size) (i := 2) (u := .int .i64 0) hne1
  have q3 := q2.fresh (b := w1.heap.size) (i := 2) (u := .int .i64 0) (by omega)
  clear H2 Z2 h2 q2 g2 f2
  generalize w2.setCell ⟨w1.heap.size, 2, none⟩ (.int .i64 0) = w3 at H3 Z3 h3 q3 ⊢
  refine (unhide HF _).mono ?_
  rintro e3 w3' ⟨rfl, rfl⟩
  have g0 := H3.c0
  have f0 := H3.fz 0
  have Hk := H3.s0 (u := .int .i64 4)
  have g0k := Hk.c0
  go_wp2_with fail
  have Z4 := Z3.other (b' := w1.heap.size) (i := 0) (u := .int .i64 4) (by omega)
  have h4 := h3.other (b := w1.heap.size) (i := 0) (u := .int .i64 4) hne1
  have q4 := q3.fresh (b := w1.heap.size) (i := 0) (u := .int .i64 4) (by omega)
  clear H3 Z3 h3 q3 g0 f0 g0k
  generalize w3'.setCell ⟨w1.heap.size, 0, none⟩ (.int .i64 4) = w4 at Hk Z4 h4 q4 ⊢
  refine (unhide HO _).mono ?_
  rintro e4 w4' ⟨rfl, rfl⟩
  go_wp2_with fail
  refine (unhide HM _).mono ?_
  rintro e5 w5 ⟨rfl, b5⟩
  have H5 := Hk.below b5
  have Z5 := Z4.below b5
  have h5' := h4.below b5
  have q5 := q4.trans (Kx.of b5)
  clear Hk Z4 h4 q4 b5 HM HO HF hm
  go_wp2_with fail
  exact ⟨rfl, Bad.three rfl q5⟩
end Go.Proofs.Ytbabipaipbjlbaa
