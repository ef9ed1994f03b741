/-
  Contracts: readParts, form by form.
-/
import Derived.Test.YtbabipaipbjlbaaOiiX
namespace Go.Proofs.Ytbabipaipbjlbaa
open Go.ChangeShapes Go.WideShapes Go.ChangeAt Go.RowKit
set_option linter.unusedVariables false
set_option maxRecDepth 100000

theorem idT_pl {s : ByteArray} {p : Nat} (hp : p ≤ s.size) : (idT s p 0).p ≤ s.size := by unfold idT; exact takeT_le (takeT_le hp (by omega)) (idN_in s p 0).1
theorem textT_pl {s : ByteArray} {p : Nat} (hp : p ≤ s.size) : (textT s p 0).p ≤ s.size := by unfold textT; exact takeT_le (nm_in s p hp).2.2 (nm_in s p hp).1
/-- the token's length, and the token -/
theorem tok_ok {s : ByteArray} {p : Nat} (hp : p ≤ s.size) (hc : (textT s p 0).c = 0) (h2 : (textT s p 0).t.size ≤ 200) : ∃ n : Nat, (nm s p).1 = n ∧ n ≤ 200 ∧ ¬ (nm s p).2 = 0 ∧ (takeT s (p + (nm s p).2) 0 n).c = 0 ∧ takeT s (p + (nm s p).2) 0 n = textT s p 0 := by
  obtain ⟨n0, e0⟩ := textT_len hp hc
  have b := nm_in s p hp
  obtain ⟨n, hn⟩ : ∃ n : Nat, (nm s p).1 = n := ⟨(nm s p).1.toNat, by omega⟩
  have e : takeT s (p + (nm s p).2) 0 n = textT s p 0 := by rw [textT_yes n0, hn]
  exact ⟨n, hn, by omega, n0, by rw [e]; exact hc, e⟩
theorem Oi.other {base hb i : Nat} {w : World} {u v : Value} {n : Nat} {V : Nat → Int} (h : Oi base w v n V) (hl : hb < base) : Oi base (w.setCell ⟨hb, i, none⟩ u) v n V := by
  refine ⟨h.1, ?_⟩
  rcases h.2 with hn | ⟨g, cap, cur, rfl, hg, hgg, rest⟩
  · exact .inl hn
  · refine .inr ⟨g, cap, cur, rfl, hg, ?_, rest⟩
    rw [Below.heap_setCell w ⟨hb, i, none⟩ u g (by simp; omega)]
    exact hgg
set_option maxHeartbeats 2000000 in
theorem parts5_ok (cb hb p short : Nat) (s : ByteArray) (told : Int) (w : World) (v0 v1 v2 v3 v4 v5 v6 v7 : Value) (hs : s.size ≤ 1048576) (hp : p ≤ s.size) (hne : hb ≠ cb) (hsh : short ≤ 20) (g0 : p + short ≤ s.size) (g1 : 0 ≤ s.size - (p + short) ∧ s.size - (p + short) ≤ 1200) (h : Cc w cb s p told) (H : Hh w hb v0 v1 v2 v3 v4 v5 v6 v7) :
    Calls Try.prog 71 #[.pointer (some ⟨cb, 0, none⟩), .iface 116 (.agg #[]), .pointer (some ⟨hb, 0, none⟩), .int .i64 short] w fun e w' => e = .returned (.tuple #[]) ∧ Cc w' cb s (s.size) told ∧ Hh w' hb v0 v1 v2 (.string (s.extract p (p + short))) v4 v5 (.string (s.extract (p + short) s.size)) v7 ∧ K2 cb hb w w' := by
  have HA0 := hide (take_ok cb p short s told w hs g0 h)
  have HA1 := hide (fun W (hW : Cc W cb s (p + short) told) => pend_ok cb (p + short) 0 s told W hs g0 g1.1 g1.2 hW)
  clear h g0 g1
  have t0 := ta_50
  have t1 := ta_51
  have t2 := ta_52
  have t3 := ta_53
  have t4 := ta_54
  go_enter Try.func71, Try.ntmps71
  go_wp2_with fail
  refine (unhide HA0).mono ?_
  rintro e w1 ⟨rfl, h1, k1⟩
  have H0 := H.kx k1 hne
  have g3 := H0.c3
  have f3 := H0.fz 3
  have H1 := H0.s3 (u := (.string (s.extract p (p + short))))
  have K1 := (k1.k2 (hb := hb)).set 3 (.string (s.extract p (p + short)))
  have h1' := h1.other (b := hb) (i := 3) (u := (.string (s.extract p (p + short)))) hne
  clear H0 k1 h1
  go_wp2_with fail
  refine (unhide HA1 (w1.setCell ⟨hb, 3, none⟩ (.string (s.extract p (p + short)))) h1').mono ?_
  rintro e w4 ⟨rfl, h4, k4⟩
  have H4 := H1.kx k4 hne
  have g6 := H4.c6
  have f6 := H4.fz 6
  clear g3 f3
  go_wp2_with fail
  go_end0
  exact ⟨rfl, h4.other hne, H4.s6, (K1.trans k4.k2).set 6 _⟩
set_option maxHeartbeats 2000000 in
theorem parts5_b0 (cb hb p short : Nat) (s : ByteArray) (told : Int) (w : World) (v0 v1 v2 v3 v4 v5 v6 v7 : Value) (hs : s.size ≤ 1048576) (hp : p ≤ s.size) (hne : hb ≠ cb) (hsh : short ≤ 20) (g0 : ¬ (p + short ≤ s.size)) (h : Cc w cb s p told) (H : Hh w hb v0 v1 v2 v3 v4 v5 v6 v7) :
    Calls Try.prog 71 #[.pointer (some ⟨cb, 0, none⟩), .iface 116 (.agg #[]), .pointer (some ⟨hb, 0, none⟩), .int .i64 short] w (Bad2 cb hb w) := by
  have HA0 := hide (take_short cb p short s told w hs hp (by omega) h)
  clear h g0
  have t0 := ta_50
  have t1 := ta_51
  have t2 := ta_52
  have t3 := ta_53
  have t4 := ta_54
  go_enter Try.func71, Try.ntmps71
  go_wp2_with fail
  refine (unhide HA0).mono ?_
  rintro e w1 ⟨rfl, k1⟩
  go_wp2_with fail
  exact ⟨rfl, 1, Or.inl rfl, rfl, (Kx.of k1).k2⟩
set_option maxHeartbeats 2000000 in
theorem parts5_b1 (cb hb p short : Nat) (s : ByteArray) (told : Int) (w : World) (v0 v1 v2 v3 v4 v5 v6 v7 : Value) (hs : s.size ≤ 1048576) (hp : p ≤ s.size) (hne : hb ≠ cb) (hsh : short ≤ 20) (g0 : p + short ≤ s.size) (g1 : ¬ (0 ≤ s.size - (p + short) ∧ s.size - (p + short) ≤ 1200)) (h : Cc w cb s p told) (H : Hh w hb v0 v1 v2 v3 v4 v5 v6 v7) :
    Calls Try.prog 71 #[.pointer (some ⟨cb, 0, none⟩), .iface 116 (.agg #[]), .pointer (some ⟨hb, 0, none⟩), .int .i64 short] w (Bad2 cb hb w) := by
  have HA0 := hide (take_ok cb p short s told w hs g0 h)
  have HA1 := hide (fun W (hW : Cc W cb s (p + short) told) => pend_bad cb (p + short) 0 s told W hs g0 (by omega) g1 hW)
  clear h g0 g1
  have t0 := ta_50
  have t1 := ta_51
  have t2 := ta_52
  have t3 := ta_53
  have t4 := ta_54
  go_enter Try.func71, Try.ntmps71
  go_wp2_with fail
  refine (unhide HA0).mono ?_
  rintro e w1 ⟨rfl, h1, k1⟩
  have H0 := H.kx k1 hne
  have g3 := H0.c3
  have f3 := H0.fz 3
  have H1 := H0.s3 (u := (.string (s.extract p (p + short))))
  have K1 := (k1.k2 (hb := hb)).set 3 (.string (s.extract p (p + short)))
  have h1' := h1.other (b := hb) (i := 3) (u := (.string (s.extract p (p + short)))) hne
  clear H0 k1 h1
  go_wp2_with fail
  refine (unhide HA1 (w1.setCell ⟨hb, 3, none⟩ (.string (s.extract p (p + short)))) h1').mono ?_
  rintro e w4 ⟨c, hC, rfl, k4⟩
  go_wp2_with fail
  exact ⟨rfl, c, hC, rfl, K1.trans k4.k2⟩
set_option maxHeartbeats 2000000 in
theorem parts3_ok (cb hb p short : Nat) (s : ByteArray) (told : Int) (w : World) (v0 v1 v2 v3 v4 v5 v6 v7 : Value) (x : T3) (y : T3) (ex : idT s p 0 = x) (ey : idT s x.p 0 = y) (hs : s.size ≤ 1048576) (hp : p ≤ s.size) (hne : hb ≠ cb) (hsh : short ≤ 20) (g0 : x.c = 0 ∧ y.c = 0) (g1 : 1 ≤ s.size - (y.p) ∧ s.size - (y.p) ≤ 1200) (h : Cc w cb s p told) (H : Hh w hb v0 v1 v2 v3 v4 v5 v6 v7) :
    Calls Try.prog 71 #[.pointer (some ⟨cb, 0, none⟩), .iface 114 (.agg #[]), .pointer (some ⟨hb, 0, none⟩), .int .i64 short] w fun e w' => e = .returned (.tuple #[]) ∧ Cc w' cb s (s.size) told ∧ Hh w' hb v0 v1 v2 (.string x.t) (.string y.t) v5 (.string (s.extract y.p s.size)) v7 ∧ K2 cb hb w w' := by
  have hx : x.p ≤ s.size := by rw [← ex]; exact idT_pl hp
  have hy : y.p ≤ s.size := by rw [← ey]; exact idT_pl hx
  have HA0 := hide (ids_ok cb hb p s told w v0 v1 v2 v3 v4 v5 v6 v7 hs hp hne (by rw [ex]; exact g0.1) (by rw [ex, ey]; exact g0.2) h H)
  rw [ex, ey] at HA0
  have HA1 := hide (fun W (hW : Cc W cb s (y.p) told) => pend_ok cb (y.p) 1 s told W hs hy g1.1 g1.2 hW)
  clear h g0 g1 ex ey
  have t0 := ta_30
  have t1 := ta_31
  have t2 := ta_32
  have t3 := ta_33
  have t4 := ta_34
  go_enter Try.func71, Try.ntmps71
  go_wp2_with fail
  refine (unhide HA0).mono ?_
  rintro e w1 ⟨rfl, h1, H1, K1⟩
  go_wp2_with fail
  refine (unhide HA1 w1 h1).mono ?_
  rintro e w4 ⟨rfl, h4, k4⟩
  have H4 := H1.kx k4 hne
  have g6 := H4.c6
  have f6 := H4.fz 6
  clear t0
  go_wp2_with fail
  go_end0
  exact ⟨rfl, h4.other hne, H4.s6, (K1.trans k4.k2).set 6 _⟩
set_option maxHeartbeats 2000000 in
theorem parts3_b0 (cb hb p short : Nat) (s : ByteArray) (told : Int) (w : World) (v0 v1 v2 v3 v4 v5 v6 v7 : Value) (x : T3) (y : T3) (ex : idT s p 0 = x) (ey : idT s x.p 0 = y) (hs : s.size ≤ 1048576) (hp : p ≤ s.size) (hne : hb ≠ cb) (hsh : short ≤ 20) (g0 : ¬ (x.c = 0 ∧ y.c = 0)) (h : Cc w cb s p told) (H : Hh w hb v0 v1 v2 v3 v4 v5 v6 v7) :
    Calls Try.prog 71 #[.pointer (some ⟨cb, 0, none⟩), .iface 114 (.agg #[]), .pointer (some ⟨hb, 0, none⟩), .int .i64 short] w (Bad2 cb hb w) := by
  have hx : x.p ≤ s.size := by rw [← ex]; exact idT_pl hp
  have hy : y.p ≤ s.size := by rw [← ey]; exact idT_pl hx
  have HA0 := hide (ids_bad cb hb p s told w v0 v1 v2 v3 v4 v5 v6 v7 hs hp hne (by rw [ex, ey]; exact g0) h H)
  clear h g0 ex ey
  have t0 := ta_30
  have t1 := ta_31
  have t2 := ta_32
  have t3 := ta_33
  have t4 := ta_34
  go_enter Try.func71, Try.ntmps71
  go_wp2_with fail
  refine (unhide HA0).mono ?_
  rintro e w1 ⟨c, hC, rfl, k1⟩
  go_wp2_with fail
  exact ⟨rfl, c, hC, rfl, k1⟩
set_option maxHeartbeats 2000000 in
theorem parts3_b1 (cb hb p short : Nat) (s : ByteArray) (told : Int) (w : World) (v0 v1 v2 v3 v4 v5 v6 v7 : Value) (x : T3) (y : T3) (ex : idT s p 0 = x) (ey : idT s x.p 0 = y) (hs : s.size ≤ 1048576) (hp : p ≤ s.size) (hne : hb ≠ cb) (hsh : short ≤ 20) (g0 : x.c = 0 ∧ y.c = 0) (g1 : ¬ (1 ≤ s.size - (y.p) ∧ s.size - (y.p) ≤ 1200)) (h : Cc w cb s p told) (H : Hh w hb v0 v1 v2 v3 v4 v5 v6 v7) :
    Calls Try.prog 71 #[.pointer (some ⟨cb, 0, none⟩), .iface 114 (.agg #[]), .pointer (some ⟨hb, 0, none⟩), .int .i64 short] w (Bad2 cb hb w) := by
  have hx : x.p ≤ s.size := by rw [← ex]; exact idT_pl hp
  have hy : y.p ≤ s.size := by rw [← ey]; exact idT_pl hx
  have HA0 := hide (ids_ok cb hb p s told w v0 v1 v2 v3 v4 v5 v6 v7 hs hp hne (by rw [ex]; exact g0.1) (by rw [ex, ey]; exact g0.2) h H)
  rw [ex, ey] at HA0
  have HA1 := hide (fun W (hW : Cc W cb s (y.p) told) => pend_bad cb (y.p) 1 s told W hs hy (by omega) g1 hW)
  clear h g0 g1 ex ey
  have t0 := ta_30
  have t1 := ta_31
  have t2 := ta_32
  have t3 := ta_33
  have t4 := ta_34
  go_enter Try.func71, Try.ntmps71
  go_wp2_with fail
  refine (unhide HA0).mono ?_
  rintro e w1 ⟨rfl, h1, H1, K1⟩
  go_wp2_with fail
  refine (unhide HA1 w1 h1).mono ?_
  rintro e w4 ⟨c, hC, rfl, k4⟩
  go_wp2_with fail
  exact ⟨rfl, c, hC, rfl, K1.trans k4.k2⟩
set_option maxHeartbeats 2000000 in
theorem parts1_ok (cb hb p short : Nat) (s : ByteArray) (told : Int) (w : World) (v0 v1 v2 v3 v4 v5 v6 v7 : Value) (x : T3) (y : T3) (z : T3) (ex : idT s p 0 = x) (ey : idT s x.p 0 = y) (ez : textT s y.p 0 = z) (hs : s.size ≤ 1048576) (hp : p ≤ s.size) (hne : hb ≠ cb) (hsh : short ≤ 20) (g0 : x.c = 0 ∧ y.c = 0) (g1 : z.c = 0 ∧ 1 ≤ z.t.size ∧ z.t.size ≤ 1200) (h : Cc w cb s p told) (H : Hh w hb v0 v1 v2 v3 v4 v5 v6 v7) :
    Calls Try.prog 71 #[.pointer (some ⟨cb, 0, none⟩), .iface 113 (.agg #[.int .i64 1]), .pointer (some ⟨hb, 0, none⟩), .int .i64 short] w fun e w' => e = .returned (.tuple #[]) ∧ Cc w' cb s (z.p) told ∧ Hh w' hb v0 v1 v2 (.string x.t) (.string y.t) v5 (.string z.t) v7 ∧ K2 cb hb w w' := by
  have hx : x.p ≤ s.size := by rw [← ex]; exact idT_pl hp
  have hy : y.p ≤ s.size := by rw [← ey]; exact idT_pl hx
  have HA0 := hide (ids_ok cb hb p s told w v0 v1 v2 v3 v4 v5 v6 v7 hs hp hne (by rw [ex]; exact g0.1) (by rw [ex, ey]; exact g0.2) h H)
  rw [ex, ey] at HA0
  have HA1 := hide (fun W (hW : Cc W cb s y.p told) => spay_ok cb y.p s told W hs hy (by rw [ez]; exact g1.1) (by rw [ez]; exact g1.2.1) (by rw [ez]; exact g1.2.2) hW)
  rw [ez] at HA1
  clear h g0 g1 ex ey ez
  have t0 := ta_10
  have t1 := ta_11
  have t2 := ta_12
  have t3 := ta_13
  have t4 := ta_14
  go_enter Try.func71, Try.ntmps71
  go_wp2_with fail
  refine (unhide HA0).mono ?_
  rintro e w1 ⟨rfl, h1, H1, K1⟩
  go_wp2_with fail
  refine (unhide HA1 w1 h1).mono ?_
  rintro e w4 ⟨rfl, h4, k4⟩
  have H4 := H1.kx k4 hne
  have g6 := H4.c6
  have f6 := H4.fz 6
  clear t0
  go_wp2_with fail
  go_end0
  exact ⟨rfl, h4.other hne, H4.s6, (K1.trans k4.k2).set 6 _⟩
set_option maxHeartbeats 2000000 in
theorem parts1_b0 (cb hb p short : Nat) (s : ByteArray) (told : Int) (w : World) (v0 v1 v2 v3 v4 v5 v6 v7 : Value) (x : T3) (y : T3) (z : T3) (ex : idT s p 0 = x) (ey : idT s x.p 0 = y) (ez : textT s y.p 0 = z) (hs : s.size ≤ 1048576) (hp : p ≤ s.size) (hne : hb ≠ cb) (hsh : short ≤ 20) (g0 : ¬ (x.c = 0 ∧ y.c = 0)) (h : Cc w cb s p told) (H : Hh w hb v0 v1 v2 v3 v4 v5 v6 v7) :
    Calls Try.prog 71 #[.pointer (some ⟨cb, 0, none⟩), .iface 113 (.agg #[.int .i64 1]), .pointer (some ⟨hb, 0, none⟩), .int .i64 short] w (Bad2 cb hb w) := by
  have hx : x.p ≤ s.size := by rw [← ex]; exact idT_pl hp
  have hy : y.p ≤ s.size := by rw [← ey]; exact idT_pl hx
  have HA0 := hide (ids_bad cb hb p s told w v0 v1 v2 v3 v4 v5 v6 v7 hs hp hne (by rw [ex, ey]; exact g0) h H)
  clear h g0 ex ey ez
  have t0 := ta_10
  have t1 := ta_11
  have t2 := ta_12
  have t3 := ta_13
  have t4 := ta_14
  go_enter Try.func71, Try.ntmps71
  go_wp2_with fail
  refine (unhide HA0).mono ?_
  rintro e w1 ⟨c, hC, rfl, k1⟩
  go_wp2_with fail
  exact ⟨rfl, c, hC, rfl, k1⟩
set_option maxHeartbeats 2000000 in
theorem parts1_b1 (cb hb p short : Nat) (s : ByteArray) (told : Int) (w : World) (v0 v1 v2 v3 v4 v5 v6 v7 : Value) (x : T3) (y : T3) (z : T3) (ex : idT s p 0 = x) (ey : idT s x.p 0 = y) (ez : textT s y.p 0 = z) (hs : s.size ≤ 1048576) (hp : p ≤ s.size) (hne : hb ≠ cb) (hsh : short ≤ 20) (g0 : x.c = 0 ∧ y.c = 0) (g1 : ¬ (z.c = 0 ∧ 1 ≤ z.t.size ∧ z.t.size ≤ 1200)) (h : Cc w cb s p told) (H : Hh w hb v0 v1 v2 v3 v4 v5 v6 v7) :
    Calls Try.prog 71 #[.pointer (some ⟨cb, 0, none⟩), .iface 113 (.agg #[.int .i64 1]), .pointer (some ⟨hb, 0, none⟩), .int .i64 short] w (Bad2 cb hb w) := by
  have hx : x.p ≤ s.size := by rw [← ex]; exact idT_pl hp
  have hy : y.p ≤ s.size := by rw [← ey]; exact idT_pl hx
  have HA0 := hide (ids_ok cb hb p s told w v0 v1 v2 v3 v4 v5 v6 v7 hs hp hne (by rw [ex]; exact g0.1) (by rw [ex, ey]; exact g0.2) h H)
  rw [ex, ey] at HA0
  have HA1 := hide (fun W (hW : Cc W cb s y.p told) => spay_bad cb y.p s told W hs hy (by rw [ez]; exact g1) hW)
  clear h g0 g1 ex ey ez
  have t0 := ta_10
  have t1 := ta_11
  have t2 := ta_12
  have t3 := ta_13
  have t4 := ta_14
  go_enter Try.func71, Try.ntmps71
  go_wp2_with fail
  refine (unhide HA0).mono ?_
  rintro e w1 ⟨rfl, h1, H1, K1⟩
  go_wp2_with fail
  refine (unhide HA1 w1 h1).mono ?_
  rintro e w4 ⟨c, hC, rfl, k4⟩
  go_wp2_with fail
  exact ⟨rfl, c, hC, rfl, K1.trans k4.k2⟩
set_option maxHeartbeats 2000000 in
theorem parts2_ok (cb hb p short : Nat) (s : ByteArray) (told : Int) (w : World) (v0 v1 v2 v3 v4 v5 v6 v7 : Value) (x : T3) (y : T3) (z : T3) (ex : idT s p 0 = x) (ey : idT s x.p 0 = y) (ez : textT s y.p 0 = z) (hs : s.size ≤ 1048576) (hp : p ≤ s.size) (hne : hb ≠ cb) (hsh : short ≤ 20) (g0 : x.c = 0 ∧ y.c = 0) (g1 : z.c = 0 ∧ 1 ≤ z.t.size ∧ z.t.size ≤ 1200) (h : Cc w cb s p told) (H : Hh w hb v0 v1 v2 v3 v4 v5 v6 v7) :
    Calls Try.prog 71 #[.pointer (some ⟨cb, 0, none⟩), .iface 113 (.agg #[.int .i64 2]), .pointer (some ⟨hb, 0, none⟩), .int .i64 short] w fun e w' => e = .returned (.tuple #[]) ∧ Cc w' cb s (z.p) told ∧ Hh w' hb v0 v1 v2 (.string x.t) (.string y.t) v5 (.string z.t) v7 ∧ K2 cb hb w w' := by
  have hx : x.p ≤ s.size := by rw [← ex]; exact idT_pl hp
  have hy : y.p ≤ s.size := by rw [← ey]; exact idT_pl hx
  have HA0 := hide (ids_ok cb hb p s told w v0 v1 v2 v3 v4 v5 v6 v7 hs hp hne (by rw [ex]; exact g0.1) (by rw [ex, ey]; exact g0.2) h H)
  rw [ex, ey] at HA0
  have HA1 := hide (fun W (hW : Cc W cb s y.p told) => spay_ok cb y.p s told W hs hy (by rw [ez]; exact g1.1) (by rw [ez]; exact g1.2.1) (by rw [ez]; exact g1.2.2) hW)
  rw [ez] at HA1
  clear h g0 g1 ex ey ez
  have t0 := ta_20
  have t1 := ta_21
  have t2 := ta_22
  have t3 := ta_23
  have t4 := ta_24
  go_enter Try.func71, Try.ntmps71
  go_wp2_with fail
  refine (unhide HA0).mono ?_
  rintro e w1 ⟨rfl, h1, H1, K1⟩
  go_wp2_with fail
  refine (unhide HA1 w1 h1).mono ?_
  rintro e w4 ⟨rfl, h4, k4⟩
  have H4 := H1.kx k4 hne
  have g6 := H4.c6
  have f6 := H4.fz 6
  clear t0
  go_wp2_with fail
  go_end0
  exact ⟨rfl, h4.other hne, H4.s6, (K1.trans k4.k2).set 6 _⟩
set_option maxHeartbeats 2000000 in
theorem parts2_b0 (cb hb p short : Nat) (s : ByteArray) (told : Int) (w : World) (v0 v1 v2 v3 v4 v5 v6 v7 : Value) (x : T3) (y : T3) (z : T3) (ex : idT s p 0 = x) (ey : idT s x.p 0 = y) (ez : textT s y.p 0 = z) (hs : s.size ≤ 1048576) (hp : p ≤ s.size) (hne : hb ≠ cb) (hsh : short ≤ 20) (g0 : ¬ (x.c = 0 ∧ y.c = 0)) (h : Cc w cb s p told) (H : Hh w hb v0 v1 v2 v3 v4 v5 v6 v7) :
    Calls Try.prog 71 #[.pointer (some ⟨cb, 0, none⟩), .iface 113 (.agg #[.int .i64 2]), .pointer (some ⟨hb, 0, none⟩), .int .i64 short] w (Bad2 cb hb w) := by
  have hx : x.p ≤ s.size := by rw [← ex]; exact idT_pl hp
  have hy : y.p ≤ s.size := by rw [← ey]; exact idT_pl hx
  have HA0 := hide (ids_bad cb hb p s told w v0 v1 v2 v3 v4 v5 v6 v7 hs hp hne (by rw [ex, ey]; exact g0) h H)
  clear h g0 ex ey ez
  have t0 := ta_20
  have t1 := ta_21
  have t2 := ta_22
  have t3 := ta_23
  have t4 := ta_24
  go_enter Try.func71, Try.ntmps71
  go_wp2_with fail
  refine (unhide HA0).mono ?_
  rintro e w1 ⟨c, hC, rfl, k1⟩
  go_wp2_with fail
  exact ⟨rfl, c, hC, rfl, k1⟩
set_option maxHeartbeats 2000000 in
theorem parts2_b1 (cb hb p short : Nat) (s : ByteArray) (told : Int) (w : World) (v0 v1 v2 v3 v4 v5 v6 v7 : Value) (x : T3) (y : T3) (z : T3) (ex : idT s p 0 = x) (ey : idT s x.p 0 = y) (ez : textT s y.p 0 = z) (hs : s.size ≤ 1048576) (hp : p ≤ s.size) (hne : hb ≠ cb) (hsh : short ≤ 20) (g0 : x.c = 0 ∧ y.c = 0) (g1 : ¬ (z.c = 0 ∧ 1 ≤ z.t.size ∧ z.t.size ≤ 1200)) (h : Cc w cb s p told) (H : Hh w hb v0 v1 v2 v3 v4 v5 v6 v7) :
    Calls Try.prog 71 #[.pointer (some ⟨cb, 0, none⟩), .iface 113 (.agg #[.int .i64 2]), .pointer (some ⟨hb, 0, none⟩), .int .i64 short] w (Bad2 cb hb w) := by
  have hx : x.p ≤ s.size := by rw [← ex]; exact idT_pl hp
  have hy : y.p ≤ s.size := by rw [← ey]; exact idT_pl hx
  have HA0 := hide (ids_ok cb hb p s told w v0 v1 v2 v3 v4 v5 v6 v7 hs hp hne (by rw [ex]; exact g0.1) (by rw [ex, ey]; exact g0.2) h H)
  rw [ex, ey] at HA0
  have HA1 := hide (fun W (hW : Cc W cb s y.p told) => spay_bad cb y.p s told W hs hy (by rw [ez]; exact g1) hW)
  clear h g0 g1 ex ey ez
  have t0 := ta_20
  have t1 := ta_21
  have t2 := ta_22
  have t3 := ta_23
  have t4 := ta_24
  go_enter Try.func71, Try.ntmps71
  go_wp2_with fail
  refine (unhide HA0).mono ?_
  rintro e w1 ⟨rfl, h1, H1, K1⟩
  go_wp2_with fail
  refine (unhide HA1 w1 h1).mono ?_
  rintro e w4 ⟨c, hC, rfl, k4⟩
  go_wp2_with fail
  exact ⟨rfl, c, hC, rfl, K1.trans k4.k2⟩
set_option maxHeartbeats 2000000 in
theorem parts0_ok (cb hb p short : Nat) (s : ByteArray) (told : Int) (w : World) (v0 v1 v2 v3 v4 v5 v6 v7 : Value) (x : T3) (y : T3) (t : T3) (z : T3) (ex : idT s p 0 = x) (ey : idT s x.p 0 = y) (et : textT s y.p 0 = t) (ez : textT s t.p 0 = z) (hs : s.size ≤ 1048576) (hp : p ≤ s.size) (hne : hb ≠ cb) (hsh : short ≤ 20) (g0 : x.c = 0 ∧ y.c = 0) (g1 : t.c = 0 ∧ t.t.size ≤ 200) (g2 : z.c = 0 ∧ 1 ≤ z.t.size ∧ z.t.size ≤ 1200) (h : Cc w cb s p told) (H : Hh w hb v0 v1 v2 v3 v4 v5 v6 v7) :
    Calls Try.prog 71 #[.pointer (some ⟨cb, 0, none⟩), .iface 111 (.agg #[]), .pointer (some ⟨hb, 0, none⟩), .int .i64 short] w fun e w' => e = .returned (.tuple #[]) ∧ Cc w' cb s (z.p) told ∧ Hh w' hb v0 v1 v2 (.string x.t) (.string y.t) (.string t.t) (.string z.t) v7 ∧ K2 cb hb w w' := by
  have hx : x.p ≤ s.size := by rw [← ex]; exact idT_pl hp
  have hy : y.p ≤ s.size := by rw [← ey]; exact idT_pl hx
  have ht : t.p ≤ s.size := by rw [← et]; exact textT_pl hy
  have HA0 := hide (ids_ok cb hb p s told w v0 v1 v2 v3 v4 v5 v6 v7 hs hp hne (by rw [ex]; exact g0.1) (by rw [ex, ey]; exact g0.2) h H)
  rw [ex, ey] at HA0
  obtain ⟨n, hn, hn2, hn0, hc, hd⟩ := tok_ok hy (by rw [et]; exact g1.1) (by rw [et]; exact g1.2)
  have HT := hide (fun W (hW : Cc W cb s y.p told) => upTo_ok cb y.p 200 s told W hs hy (by omega) hn0 (by omega) hW)
  have HA1 := hide (fun W (hW : Cc W cb s (y.p + (nm s y.p).2) told) => ptake_ok cb (y.p + (nm s y.p).2) n s told W hs (nm_in s y.p hy).2.2 hc hW)
  rw [hd, et] at HA1
  rw [hn] at HT
  clear hn hn2 hn0 hc hd
  have HA2 := hide (fun W (hW : Cc W cb s t.p told) => spay_ok cb t.p s told W hs ht (by rw [ez]; exact g2.1) (by rw [ez]; exact g2.2.1) (by rw [ez]; exact g2.2.2) hW)
  rw [ez] at HA2
  clear h g0 g1 g2 ex ey et ez
  have t0 := ta_00
  have t1 := ta_01
  have t2 := ta_02
  have t3 := ta_03
  have t4 := ta_04
  go_enter Try.func71, Try.ntmps71
  go_wp2_with fail
  refine (unhide HA0).mono ?_
  rintro e w1 ⟨rfl, h1, H1, K1⟩
  go_wp2_with fail
  refine (unhide HT w1 h1).mono ?_
  rintro e w2 ⟨rfl, h2, k2⟩
  go_wp2_with fail
  refine (unhide HA1 w2 h2).mono ?_
  rintro e w3 ⟨rfl, h3, k3⟩
  have H3 := (H1.kx k2 hne).kx k3 hne
  have g5 := H3.c5
  have f5 := H3.fz 5
  have H3' := H3.s5 (u := (.string t.t))
  have K3 := ((K1.trans k2.k2).trans (k3.k2 (hb := hb))).set 5 (.string t.t)
  have h3' := h3.other (b := hb) (i := 5) (u := (.string t.t)) hne
  clear H1 H3 k2 k3 h3 h2
  go_wp2_with fail
  refine (unhide HA2 (w3.setCell ⟨hb, 5, none⟩ (.string t.t)) h3').mono ?_
  rintro e w4 ⟨rfl, h4, k4⟩
  have H4 := H3'.kx k4 hne
  have g6 := H4.c6
  have f6 := H4.fz 6
  clear g5 f5
  go_wp2_with fail
  go_end0
  exact ⟨rfl, h4.other hne, H4.s6, (K3.trans k4.k2).set 6 _⟩
set_option maxHeartbeats 2000000 in
theorem parts0_b0 (cb hb p short : Nat) (s : ByteArray) (told : Int) (w : World) (v0 v1 v2 v3 v4 v5 v6 v7 : Value) (x : T3) (y : T3) (t : T3) (z : T3) (ex : idT s p 0 = x) (ey : idT s x.p 0 = y) (et : textT s y.p 0 = t) (ez : textT s t.p 0 = z) (hs : s.size ≤ 1048576) (hp : p ≤ s.size) (hne : hb ≠ cb) (hsh : short ≤ 20) (g0 : ¬ (x.c = 0 ∧ y.c = 0)) (h : Cc w cb s p told) (H : Hh w hb v0 v1 v2 v3 v4 v5 v6 v7) :
    Calls Try.prog 71 #[.pointer (some ⟨cb, 0, none⟩), .iface 111 (.agg #[]), .pointer (some ⟨hb, 0, none⟩), .int .i64 short] w (Bad2 cb hb w) := by
  have hx : x.p ≤ s.size := by rw [← ex]; exact idT_pl hp
  have hy : y.p ≤ s.size := by rw [← ey]; exact idT_pl hx
  have ht : t.p ≤ s.size := by rw [← et]; exact textT_pl hy
  have HA0 := hide (ids_bad cb hb p s told w v0 v1 v2 v3 v4 v5 v6 v7 hs hp hne (by rw [ex, ey]; exact g0) h H)
  clear h g0 ex ey et ez
  have t0 := ta_00
  have t1 := ta_01
  have t2 := ta_02
  have t3 := ta_03
  have t4 := ta_04
  go_enter Try.func71, Try.ntmps71
  go_wp2_with fail
  refine (unhide HA0).mono ?_
  rintro e w1 ⟨c, hC, rfl, k1⟩
  go_wp2_with fail
  exact ⟨rfl, c, hC, rfl, k1⟩
set_option maxHeartbeats 2000000 in
theorem parts0_b1 (cb hb p short : Nat) (s : ByteArray) (told : Int) (w : World) (v0 v1 v2 v3 v4 v5 v6 v7 : Value) (x : T3) (y : T3) (t : T3) (z : T3) (ex : idT s p 0 = x) (ey : idT s x.p 0 = y) (et : textT s y.p 0 = t) (ez : textT s t.p 0 = z) (hs : s.size ≤ 1048576) (hp : p ≤ s.size) (hne : hb ≠ cb) (hsh : short ≤ 20) (g0 : x.c = 0 ∧ y.c = 0) (g1 : ¬ (t.c = 0 ∧ t.t.size ≤ 200)) (h : Cc w cb s p told) (H : Hh w hb v0 v1 v2 v3 v4 v5 v6 v7) :
    Calls Try.prog 71 #[.pointer (some ⟨cb, 0, none⟩), .iface 111 (.agg #[]), .pointer (some ⟨hb, 0, none⟩), .int .i64 short] w (Bad2 cb hb w) := by
  have hx : x.p ≤ s.size := by rw [← ex]; exact idT_pl hp
  have hy : y.p ≤ s.size := by rw [← ey]; exact idT_pl hx
  have ht : t.p ≤ s.size := by rw [← et]; exact textT_pl hy
  have HA0 := hide (ids_ok cb hb p s told w v0 v1 v2 v3 v4 v5 v6 v7 hs hp hne (by rw [ex]; exact g0.1) (by rw [ex, ey]; exact g0.2) h H)
  rw [ex, ey] at HA0
  by_cases hu : (nm s y.p).2 = 0 ∨ ((200 : Nat) : Int) < (nm s y.p).1
  · have HT := hide (fun W (hW : Cc W cb s y.p told) => upTo_bad cb y.p 200 s told W hs hy (by omega) hu hW)
    clear hu
    clear h g0 g1 ex ey et ez
    have t0 := ta_00
    have t1 := ta_01
    have t2 := ta_02
    have t3 := ta_03
    have t4 := ta_04
    go_enter Try.func71, Try.ntmps71
    go_wp2_with fail
    refine (unhide HA0).mono ?_
    rintro e w1 ⟨rfl, h1, H1, K1⟩
    go_wp2_with fail
    refine (unhide HT w1 h1).mono ?_
    rintro e w2 ⟨c, hC, rfl, k2⟩
    go_wp2_with fail
    exact ⟨rfl, c, hC, rfl, K1.trans k2.k2⟩
  · have hn0 : ¬ (nm s y.p).2 = 0 := fun z => hu (Or.inl z)
    have hm : (nm s y.p).1 ≤ (200 : Nat) := by have : ¬ ((200 : Nat) : Int) < (nm s y.p).1 := fun z => hu (Or.inr z); omega
    have b := nm_in s y.p hy
    obtain ⟨n, hn⟩ : ∃ n : Nat, (nm s y.p).1 = n := ⟨(nm s y.p).1.toNat, by omega⟩
    have HT := hide (fun W (hW : Cc W cb s y.p told) => upTo_ok cb y.p 200 s told W hs hy (by omega) hn0 hm hW)
    have hd : (takeT s (y.p + (nm s y.p).2) 0 n).c ≠ 0 := fun z => g1 (by rw [← et, textT_yes hn0, hn]; exact ⟨z, by rw [takeT_len z b.2.2]; omega⟩)
    have HA1 := hide (fun W (hW : Cc W cb s (y.p + (nm s y.p).2) told) => ptake_bad cb (y.p + (nm s y.p).2) n s told W hs b.2.2 hd hW)
    rw [hn] at HT
    clear hu hn0 hm b hn hd
    clear h g0 g1 ex ey et ez
    have t0 := ta_00
    have t1 := ta_01
    have t2 := ta_02
    have t3 := ta_03
    have t4 := ta_04
    go_enter Try.func71, Try.ntmps71
    go_wp2_with fail
    refine (unhide HA0).mono ?_
    rintro e w1 ⟨rfl, h1, H1, K1⟩
    go_wp2_with fail
    refine (unhide HT w1 h1).mono ?_
    rintro e w2 ⟨rfl, h2, k2⟩
    go_wp2_with fail
    refine (unhide HA1 w2 h2).mono ?_
    rintro e w3 ⟨c, hC, rfl, k3⟩
    go_wp2_with fail
    exact ⟨rfl, c, hC, rfl, (K1.trans k2.k2).trans k3.k2⟩
set_option maxHeartbeats 2000000 in
theorem parts0_b2 (cb hb p short : Nat) (s : ByteArray) (told : Int) (w : World) (v0 v1 v2 v3 v4 v5 v6 v7 : Value) (x : T3) (y : T3) (t : T3) (z : T3) (ex : idT s p 0 = x) (ey : idT s x.p 0 = y) (et : textT s y.p 0 = t) (ez : textT s t.p 0 = z) (hs : s.size ≤ 1048576) (hp : p ≤ s.size) (hne : hb ≠ cb) (hsh : short ≤ 20) (g0 : x.c = 0 ∧ y.c = 0) (g1 : t.c = 0 ∧ t.t.size ≤ 200) (g2 : ¬ (z.c = 0 ∧ 1 ≤ z.t.size ∧ z.t.size ≤ 1200)) (h : Cc w cb s p told) (H : Hh w hb v0 v1 v2 v3 v4 v5 v6 v7) :
    Calls Try.prog 71 #[.pointer (some ⟨cb, 0, none⟩), .iface 111 (.agg #[]), .pointer (some ⟨hb, 0, none⟩), .int .i64 short] w (Bad2 cb hb w) := by
  have hx : x.p ≤ s.size := by rw [← ex]; exact idT_pl hp
  have hy : y.p ≤ s.size := by rw [← ey]; exact idT_pl hx
  have ht : t.p ≤ s.size := by rw [← et]; exact textT_pl hy
  have HA0 := hide (ids_ok cb hb p s told w v0 v1 v2 v3 v4 v5 v6 v7 hs hp hne (by rw [ex]; exact g0.1) (by rw [ex, ey]; exact g0.2) h H)
  rw [ex, ey] at HA0
  obtain ⟨n, hn, hn2, hn0, hc, hd⟩ := tok_ok hy (by rw [et]; exact g1.1) (by rw [et]; exact g1.2)
  have HT := hide (fun W (hW : Cc W cb s y.p told) => upTo_ok cb y.p 200 s told W hs hy (by omega) hn0 (by omega) hW)
  have HA1 := hide (fun W (hW : Cc W cb s (y.p + (nm s y.p).2) told) => ptake_ok cb (y.p + (nm s y.p).2) n s told W hs (nm_in s y.p hy).2.2 hc hW)
  rw [hd, et] at HA1
  rw [hn] at HT
  clear hn hn2 hn0 hc hd
  have HA2 := hide (fun W (hW : Cc W cb s t.p told) => spay_bad cb t.p s told W hs ht (by rw [ez]; exact g2) hW)
  clear h g0 g1 g2 ex ey et ez
  have t0 := ta_00
  have t1 := ta_01
  have t2 := ta_02
  have t3 := ta_03
  have t4 := ta_04
  go_enter Try.func71, Try.ntmps71
  go_wp2_with fail
  refine (unhide HA0).mono ?_
  rintro e w1 ⟨rfl, h1, H1, K1⟩
  go_wp2_with fail
  refine (unhide HT w1 h1).mono ?_
  rintro e w2 ⟨rfl, h2, k2⟩
  go_wp2_with fail
  refine (unhide HA1 w2 h2).mono ?_
  rintro e w3 ⟨rfl, h3, k3⟩
  have H3 := (H1.kx k2 hne).kx k3 hne
  have g5 := H3.c5
  have f5 := H3.fz 5
  have H3' := H3.s5 (u := (.string t.t))
  have K3 := ((K1.trans k2.k2).trans (k3.k2 (hb := hb))).set 5 (.string t.t)
  have h3' := h3.other (b := hb) (i := 5) (u := (.string t.t)) hne
  clear H1 H3 k2 k3 h3 h2
  go_wp2_with fail
  refine (unhide HA2 (w3.setCell ⟨hb, 5, none⟩ (.string t.t)) h3').mono ?_
  rintro e w4 ⟨c, hC, rfl, k4⟩
  go_wp2_with fail
  exact ⟨rfl, c, hC, rfl, K3.trans k4.k2⟩
set_option maxHeartbeats 2000000 in
theorem parts4_ok (cb hb p short : Nat) (s : ByteArray) (told : Int) (w : World) (v0 v1 v2 v3 v4 v5 v6 v7 : Value) (x : T3) (y : T3) (ex : idT s p 0 = x) (ey : idT s x.p 0 = y) (hs : s.size ≤ 1048576) (hp : p ≤ s.size) (hne : hb ≠ cb) (hsh : short ≤ 20) (g0 : x.c = 0 ∧ y.c = 0) (g1 : vG s y.p) (h : Cc w cb s p told) (H : Hh w hb v0 v1 v2 v3 v4 v5 v6 v7) :
    Calls Try.prog 71 #[.pointer (some ⟨cb, 0, none⟩), .iface 115 (.agg #[]), .pointer (some ⟨hb, 0, none⟩), .int .i64 short] w fun e w' => ∃ m v b, 1 ≤ m ∧ m ≤ 20 ∧ s.size = y.p + 4 * m ∧ w.heap.size ≤ b ∧ e = .returned (.tuple #[]) ∧ Cc w' cb s s.size told ∧ Hh w' hb v0 v1 v2 (.string x.t) (.string y.t) v5 v6 v ∧ Oi b w' v m (wdA s y.p) ∧ K2 cb hb w w' := by
  have hx : x.p ≤ s.size := by rw [← ex]; exact idT_pl hp
  have hy : y.p ≤ s.size := by rw [← ey]; exact idT_pl hx
  have HA0 := hide (ids_ok cb hb p s told w v0 v1 v2 v3 v4 v5 v6 v7 hs hp hne (by rw [ex]; exact g0.1) (by rw [ex, ey]; exact g0.2) h H)
  rw [ex, ey] at HA0
  have HA1 := hide (fun W (hW : Cc W cb s y.p told) => vers_any cb y.p s told W hs hy hW)
  have GN := hide g1
  clear h g0 g1 ex ey
  have t0 := ta_40
  have t1 := ta_41
  have t2 := ta_42
  have t3 := ta_43
  have t4 := ta_44
  go_enter Try.func71, Try.ntmps71
  go_wp2_with fail
  refine (unhide HA0).mono ?_
  rintro e w1 ⟨rfl, h1, H1, K1⟩
  go_wp2_with fail
  refine (unhide HA1 w1 h1).mono ?_
  rintro e w4 (⟨m, v, a1, a2, a3, rfl, o4, h4, k4⟩ | ⟨a1, _⟩)
  case inr => exact absurd (unhide GN) a1
  obtain ⟨a, cap, rfl⟩ := o4.opens
  have H4 := H1.kx k4 hne
  have g7 := H4.c7
  have f7 := H4.fz 7
  have z4 := K1.size
  have l1 := H1.lt
  go_wp2_with fail
  go_end0
  refine ⟨m, _, w1.heap.size, a1, a2, a3, z4, rfl, h4.other hne, H4.s7, ?_, (K1.trans k4.k2).set 7 _⟩
  exact o4.other l1
set_option maxHeartbeats 2000000 in
theorem parts4_b0 (cb hb p short : Nat) (s : ByteArray) (told : Int) (w : World) (v0 v1 v2 v3 v4 v5 v6 v7 : Value) (x : T3) (y : T3) (ex : idT s p 0 = x) (ey : idT s x.p 0 = y) (hs : s.size ≤ 1048576) (hp : p ≤ s.size) (hne : hb ≠ cb) (hsh : short ≤ 20) (g0 : ¬ (x.c = 0 ∧ y.c = 0)) (h : Cc w cb s p told) (H : Hh w hb v0 v1 v2 v3 v4 v5 v6 v7) :
    Calls Try.prog 71 #[.pointer (some ⟨cb, 0, none⟩), .iface 115 (.agg #[]), .pointer (some ⟨hb, 0, none⟩), .int .i64 short] w (Bad2 cb hb w) := by
  have hx : x.p ≤ s.size := by rw [← ex]; exact idT_pl hp
  have hy : y.p ≤ s.size := by rw [← ey]; exact idT_pl hx
  have HA0 := hide (ids_bad cb hb p s told w v0 v1 v2 v3 v4 v5 v6 v7 hs hp hne (by rw [ex, ey]; exact g0) h H)
  clear h g0 ex ey
  have t0 := ta_40
  have t1 := ta_41
  have t2 := ta_42
  have t3 := ta_43
  have t4 := ta_44
  go_enter Try.func71, Try.ntmps71
  go_wp2_with fail
  refine (unhide HA0).mono ?_
  rintro e w1 ⟨c, hC, rfl, k1⟩
  go_wp2_with fail
  exact ⟨rfl, c, hC, rfl, k1⟩
set_option maxHeartbeats 2000000 in
theorem parts4_b1 (cb hb p short : Nat) (s : ByteArray) (told : Int) (w : World) (v0 v1 v2 v3 v4 v5 v6 v7 : Value) (x : T3) (y : T3) (ex : idT s p 0 = x) (ey : idT s x.p 0 = y) (hs : s.size ≤ 1048576) (hp : p ≤ s.size) (hne : hb ≠ cb) (hsh : short ≤ 20) (g0 : x.c = 0 ∧ y.c = 0) (g1 : ¬ (vG s y.p)) (h : Cc w cb s p told) (H : Hh w hb v0 v1 v2 v3 v4 v5 v6 v7) :
    Calls Try.prog 71 #[.pointer (some ⟨cb, 0, none⟩), .iface 115 (.agg #[]), .pointer (some ⟨hb, 0, none⟩), .int .i64 short] w (Bad2 cb hb w) := by
  have hx : x.p ≤ s.size := by rw [← ex]; exact idT_pl hp
  have hy : y.p ≤ s.size := by rw [← ey]; exact idT_pl hx
  have HA0 := hide (ids_ok cb hb p s told w v0 v1 v2 v3 v4 v5 v6 v7 hs hp hne (by rw [ex]; exact g0.1) (by rw [ex, ey]; exact g0.2) h H)
  rw [ex, ey] at HA0
  have HA1 := hide (fun W (hW : Cc W cb s y.p told) => vers_any cb y.p s told W hs hy hW)
  have GN := hide g1
  clear h g0 g1 ex ey
  have t0 := ta_40
  have t1 := ta_41
  have t2 := ta_42
  have t3 := ta_43
  have t4 := ta_44
  go_enter Try.func71, Try.ntmps71
  go_wp2_with fail
  refine (unhide HA0).mono ?_
  rintro e w1 ⟨rfl, h1, H1, K1⟩
  go_wp2_with fail
  refine (unhide HA1 w1 h1).mono ?_
  rintro e w4 (⟨m, v, a1, a2, a3, _⟩ | ⟨_, c, hC, rfl, k4⟩)
  · exact absurd ⟨m, a1, a2, a3⟩ (unhide GN)
  go_wp2_with fail
  exact ⟨rfl, c, hC, rfl, K1.trans k4.k2⟩
end Go.Proofs.Ytbabipaipbjlbaa
