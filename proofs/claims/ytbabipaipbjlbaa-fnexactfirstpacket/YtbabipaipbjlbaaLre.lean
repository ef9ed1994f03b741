/-
  Contract: the model's reading of a header (l2Read).
-/
import Derived.Test.YtbabipaipbjlbaaTot
import Derived.Test.YtbabipaipbjlbaaPrdX
namespace Go.Proofs.Ytbabipaipbjlbaa
open Go.ChangeShapes Go.WideShapes Go.ChangeAt Go.RowKit
set_option linter.unusedVariables false
set_option maxRecDepth 100000

theorem frozen_set2 (w : World) (a p : Addr) (u : Value) : (w.setCell a u).frozen? p = w.frozen? p := by simp
/-- a header's variable in block b -/
structure Hh (w : World) (b : Nat) (v0 v1 v2 v3 v4 v5 v6 v7 : Value) : Prop where
  lt : b < w.heap.size
  c0 : w.cell? ⟨b, 0, none⟩ = some v0
  c1 : w.cell? ⟨b, 1, none⟩ = some v1
  c2 : w.cell? ⟨b, 2, none⟩ = some v2
  c3 : w.cell? ⟨b, 3, none⟩ = some v3
  c4 : w.cell? ⟨b, 4, none⟩ = some v4
  c5 : w.cell? ⟨b, 5, none⟩ = some v5
  c6 : w.cell? ⟨b, 6, none⟩ = some v6
  c7 : w.cell? ⟨b, 7, none⟩ = some v7
  fz : ∀ o, w.frozen? ⟨b, o, none⟩ = false
theorem Hh.below {w w' : World} {b : Nat} {v0 v1 v2 v3 v4 v5 v6 v7 : Value} (h : Hh w b v0 v1 v2 v3 v4 v5 v6 v7) (hb : Below w.heap.size w w') : Hh w' b v0 v1 v2 v3 v4 v5 v6 v7 := by
  obtain ⟨hc, hf⟩ := bcell hb
  exact ⟨Nat.lt_of_lt_of_le h.lt hb.size, (hc _ _ h.lt).trans h.c0, (hc _ _ h.lt).trans h.c1, (hc _ _ h.lt).trans h.c2, (hc _ _ h.lt).trans h.c3, (hc _ _ h.lt).trans h.c4, (hc _ _ h.lt).trans h.c5, (hc _ _ h.lt).trans h.c6, (hc _ _ h.lt).trans h.c7, fun o => (hf _ _ h.lt).trans (h.fz o)⟩
theorem Hh.kx {w w' : World} {b rb : Nat} {v0 v1 v2 v3 v4 v5 v6 v7 : Value} (h : Hh w b v0 v1 v2 v3 v4 v5 v6 v7) (hk : Kx rb w w') (hne : b ≠ rb) : Hh w' b v0 v1 v2 v3 v4 v5 v6 v7 :=
  ⟨Nat.lt_of_lt_of_le h.lt hk.size, (hk.cell (p := ⟨b, 0, none⟩) h.lt hne).trans h.c0, (hk.cell (p := ⟨b, 1, none⟩) h.lt hne).trans h.c1, (hk.cell (p := ⟨b, 2, none⟩) h.lt hne).trans h.c2, (hk.cell (p := ⟨b, 3, none⟩) h.lt hne).trans h.c3, (hk.cell (p := ⟨b, 4, none⟩) h.lt hne).trans h.c4, (hk.cell (p := ⟨b, 5, none⟩) h.lt hne).trans h.c5, (hk.cell (p := ⟨b, 6, none⟩) h.lt hne).trans h.c6, (hk.cell (p := ⟨b, 7, none⟩) h.lt hne).trans h.c7, fun o => (hk.frozen (p := ⟨b, o, none⟩) h.lt hne).trans (h.fz o)⟩
theorem Hh.other {w : World} {b b' i : Nat} {u : Value} {v0 v1 v2 v3 v4 v5 v6 v7 : Value} (h : Hh w b v0 v1 v2 v3 v4 v5 v6 v7) (hne : b' ≠ b) : Hh (w.setCell ⟨b', i, none⟩ u) b v0 v1 v2 v3 v4 v5 v6 v7 := by
  have e : ∀ o, (w.setCell ⟨b', i, none⟩ u).cell? ⟨b, o, none⟩ = w.cell? ⟨b, o, none⟩ := fun o => World.cell?_setCell_other _ _ _ _ (by intro q; injection q with q1 _ _; exact hne q1)
  exact ⟨by simpa using h.lt, (e 0).trans h.c0, (e 1).trans h.c1, (e 2).trans h.c2, (e 3).trans h.c3, (e 4).trans h.c4, (e 5).trans h.c5, (e 6).trans h.c6, (e 7).trans h.c7, fun o => by rw [frozen_set2]; exact h.fz o⟩
theorem Hh.s0 {w : World} {b : Nat} {u : Value} {v0 v1 v2 v3 v4 v5 v6 v7 : Value} (h : Hh w b v0 v1 v2 v3 v4 v5 v6 v7) : Hh (w.setCell ⟨b, 0, none⟩ u) b u v1 v2 v3 v4 v5 v6 v7 :=
  ⟨by simpa using h.lt, World.cell?_setCell_same _ _ _ h.c0, (World.cell?_setCell_other _ _ _ _ (by simp)).trans h.c1, (World.cell?_setCell_other _ _ _ _ (by simp)).trans h.c2, (World.cell?_setCell_other _ _ _ _ (by simp)).trans h.c3, (World.cell?_setCell_other _ _ _ _ (by simp)).trans h.c4, (World.cell?_setCell_other _ _ _ _ (by simp)).trans h.c5, (World.cell?_setCell_other _ _ _ _ (by simp)).trans h.c6, (World.cell?_setCell_other _ _ _ _ (by simp)).trans h.c7, fun o => by rw [frozen_set2]; exact h.fz o⟩
theorem Hh.s1 {w : World} {b : Nat} {u : Value} {v0 v1 v2 v3 v4 v5 v6 v7 : Value} (h : Hh w b v0 v1 v2 v3 v4 v5 v6 v7) : Hh (w.setCell ⟨b, 1, none⟩ u) b v0 u v2 v3 v4 v5 v6 v7 :=
  ⟨by simpa using h.lt, (World.cell?_setCell_other _ _ _ _ (by simp)).trans h.c0, World.cell?_setCell_same _ _ _ h.c1, (World.cell?_setCell_other _ _ _ _ (by simp)).trans h.c2, (World.cell?_setCell_other _ _ _ _ (by simp)).trans h.c3, (World.cell?_setCell_other _ _ _ _ (by simp)).trans h.c4, (World.cell?_setCell_other _ _ _ _ (by simp)).trans h.c5, (World.cell?_setCell_other _ _ _ _ (by simp)).trans h.c6, (World.cell?_setCell_other _ _ _ _ (by simp)).trans h.c7, fun o => by rw [frozen_set2]; exact h.fz o⟩
theorem Hh.s2 {w : World} {b : Nat} {u : Value} {v0 v1 v2 v3 v4 v5 v6 v7 : Value} (h : Hh w b v0 v1 v2 v3 v4 v5 v6 v7) : Hh (w.setCell ⟨b, 2, none⟩ u) b v0 v1 u v3 v4 v5 v6 v7 :=
  ⟨by simpa using h.lt, (World.cell?_setCell_other _ _ _ _ (by simp)).trans h.c0, (World.cell?_setCell_other _ _ _ _ (by simp)).trans h.c1, World.cell?_setCell_same _ _ _ h.c2, (World.cell?_setCell_other _ _ _ _ (by simp)).trans h.c3, (World.cell?_setCell_other _ _ _ _ (by simp)).trans h.c4, (World.cell?_setCell_other _ _ _ _ (by simp)).trans h.c5, (World.cell?_setCell_other _ _ _ _ (by simp)).trans h.c6, (World.cell?_setCell_other _ _ _ _ (by simp)).trans h.c7, fun o => by rw [frozen_set2]; exact h.fz o⟩
theorem Hh.s3 {w : World} {b : Nat} {u : Value} {v0 v1 v2 v3 v4 v5 v6 v7 : Value} (h : Hh w b v0 v1 v2 v3 v4 v5 v6 v7) : Hh (w.setCell ⟨b, 3, none⟩ u) b v0 v1 v2 u v4 v5 v6 v7 :=
  ⟨by simpa using h.lt, (World.cell?_setCell_other _ _ _ _ (by simp)).trans h.c0, (World.cell?_setCell_other _ _ _ _ (by simp)).trans h.c1, (World.cell?_setCell_other _ _ _ _ (by simp)).trans h.c2, World.cell?_setCell_same _ _ _ h.c3, (World.cell?_setCell_other _ _ _ _ (by simp)).trans h.c4, (World.cell?_setCell_other _ _ _ _ (by simp)).trans h.c5, (World.cell?_setCell_other _ _ _ _ (by simp)).trans h.c6, (World.cell?_setCell_other _ _ _ _ (by simp)).trans h.c7, fun o => by rw [frozen_set2]; exact h.fz o⟩
theorem Hh.s4 {w : World} {b : Nat} {u : Value} {v0 v1 v2 v3 v4 v5 v6 v7 : Value} (h : Hh w b v0 v1 v2 v3 v4 v5 v6 v7) : Hh (w.setCell ⟨b, 4, none⟩ u) b v0 v1 v2 v3 u v5 v6 v7 :=
  ⟨by simpa using h.lt, (World.cell?_setCell_other _ _ _ _ (by simp)).trans h.c0, (World.cell?_setCell_other _ _ _ _ (by simp)).trans h.c1, (World.cell?_setCell_other _ _ _ _ (by simp)).trans h.c2, (World.cell?_setCell_other _ _ _ _ (by simp)).trans h.c3, World.cell?_setCell_same _ _ _ h.c4, (World.cell?_setCell_other _ _ _ _ (by simp)).trans h.c5, (World.cell?_setCell_other _ _ _ _ (by simp)).trans h.c6, (World.cell?_setCell_other _ _ _ _ (by simp)).trans h.c7, fun o => by rw [frozen_set2]; exact h.fz o⟩
theorem Hh.s5 {w : World} {b : Nat} {u : Value} {v0 v1 v2 v3 v4 v5 v6 v7 : Value} (h : Hh w b v0 v1 v2 v3 v4 v5 v6 v7) : Hh (w.setCell ⟨b, 5, none⟩ u) b v0 v1 v2 v3 v4 u v6 v7 :=
  ⟨by simpa using h.lt, (World.cell?_setCell_other _ _ _ _ (by simp)).trans h.c0, (World.cell?_setCell_other _ _ _ _ (by simp)).trans h.c1, (World.cell?_setCell_other _ _ _ _ (by simp)).trans h.c2, (World.cell?_setCell_other _ _ _ _ (by simp)).trans h.c3, (World.cell?_setCell_other _ _ _ _ (by simp)).trans h.c4, World.cell?_setCell_same _ _ _ h.c5, (World.cell?_setCell_other _ _ _ _ (by simp)).trans h.c6, (World.cell?_setCell_other _ _ _ _ (by simp)).trans h.c7, fun o => by rw [frozen_set2]; exact h.fz o⟩
theorem Hh.s6 {w : World} {b : Nat} {u : Value} {v0 v1 v2 v3 v4 v5 v6 v7 : Value} (h : Hh w b v0 v1 v2 v3 v4 v5 v6 v7) : Hh (w.setCell ⟨b, 6, none⟩ u) b v0 v1 v2 v3 v4 v5 u v7 :=
  ⟨by simpa using h.lt, (World.cell?_setCell_other _ _ _ _ (by simp)).trans h.c0, (World.cell?_setCell_other _ _ _ _ (by simp)).trans h.c1, (World.cell?_setCell_other _ _ _ _ (by simp)).trans h.c2, (World.cell?_setCell_other _ _ _ _ (by simp)).trans h.c3, (World.cell?_setCell_other _ _ _ _ (by simp)).trans h.c4, (World.cell?_setCell_other _ _ _ _ (by simp)).trans h.c5, World.cell?_setCell_same _ _ _ h.c6, (World.cell?_setCell_other _ _ _ _ (by simp)).trans h.c7, fun o => by rw [frozen_set2]; exact h.fz o⟩
theorem Hh.s7 {w : World} {b : Nat} {u : Value} {v0 v1 v2 v3 v4 v5 v6 v7 : Value} (h : Hh w b v0 v1 v2 v3 v4 v5 v6 v7) : Hh (w.setCell ⟨b, 7, none⟩ u) b v0 v1 v2 v3 v4 v5 v6 u :=
  ⟨by simpa using h.lt, (World.cell?_setCell_other _ _ _ _ (by simp)).trans h.c0, (World.cell?_setCell_other _ _ _ _ (by simp)).trans h.c1, (World.cell?_setCell_other _ _ _ _ (by simp)).trans h.c2, (World.cell?_setCell_other _ _ _ _ (by simp)).trans h.c3, (World.cell?_setCell_other _ _ _ _ (by simp)).trans h.c4, (World.cell?_setCell_other _ _ _ _ (by simp)).trans h.c5, (World.cell?_setCell_other _ _ _ _ (by simp)).trans h.c6, World.cell?_setCell_same _ _ _ h.c7, fun o => by rw [frozen_set2]; exact h.fz o⟩
theorem Hh.new (w : World) (T : TypeId) (v0 v1 v2 v3 v4 v5 v6 v7 : Value) : Hh (w.alloc (.cells #[v0, v1, v2, v3, v4, v5, v6, v7] T)) w.heap.size v0 v1 v2 v3 v4 v5 v6 v7 := by
  refine ⟨by simp, ?_, ?_, ?_, ?_, ?_, ?_, ?_, ?_, fun o => by simp [go_sem]⟩ <;> simp

theorem Lr.other {w : World} {rb p b i : Nat} {s : ByteArray} {c : Int} {u : Value} (h : Lr w rb s p c) (hne : b ≠ rb) : Lr (w.setCell ⟨b, i, none⟩ u) rb s p c := by
  have e : ∀ o, (w.setCell ⟨b, i, none⟩ u).cell? ⟨rb, o, none⟩ = w.cell? ⟨rb, o, none⟩ := fun o => World.cell?_setCell_other _ _ _ _ (by intro q; injection q with q1 _ _; exact hne q1)
  exact ⟨by simpa using h.lt, (e 0).trans h.c0, (e 1).trans h.c1, (e 2).trans h.c2, fun o => by rw [frozen_set2]; exact h.fz o⟩
theorem Kx.fresh {cb : Nat} {a w : World} {b i : Nat} {u : Value} (h : Kx cb a w) (hb : a.heap.size ≤ b) : Kx cb a (w.setCell ⟨b, i, none⟩ u) :=
  ⟨h.os, h.tape, h.output, by simpa using h.size, fun k hk hne => (Below.heap_setCell w ⟨b, i, none⟩ u k (by simp; omega)).trans (h.block k hk hne)⟩
theorem Kx.alloc {cb : Nat} {a w : World} (h : Kx cb a w) (o : Obj) : Kx cb a (w.alloc o) :=
  h.trans ⟨rfl, rfl, rfl, by simp, fun k hk _ => Below.heap_alloc _ _ _ hk⟩

/-! the first byte's parts -/
theorem b15 (s : ByteArray) (p : Nat) : bits .and .i64 (at8 s p) 15 = at8 s p % 16 := by
  have key : ∀ k : Fin 256, bits .and .i64 (k.val : Int) 15 = (k.val : Int) % 16 := by decide +kernel
  have b := at8_in s p
  have := key ⟨(at8 s p).toNat, by omega⟩
  rwa [show (((at8 s p).toNat : Nat) : Int) = at8 s p by omega] at this
theorem b64 (s : ByteArray) (p : Nat) : bits .and .i64 (at8 s p) 64 = at8 s p / 64 % 2 * 64 := by
  have key : ∀ k : Fin 256, bits .and .i64 (k.val : Int) 64 = (k.val : Int) / 64 % 2 * 64 := by decide +kernel
  have b := at8_in s p
  have := key ⟨(at8 s p).toNat, by omega⟩
  rwa [show (((at8 s p).toNat : Nat) : Int) = at8 s p by omega] at this
theorem b48 (s : ByteArray) (p : Nat) : bits .and .i64 (at8 s p) 48 = at8 s p / 16 % 4 * 16 := by
  have key : ∀ k : Fin 256, bits .and .i64 (k.val : Int) 48 = (k.val : Int) / 16 % 4 * 16 := by decide +kernel
  have b := at8_in s p
  have := key ⟨(at8 s p).toNat, by omega⟩
  rwa [show (((at8 s p).toNat : Nat) : Int) = at8 s p by omega] at this
theorem b3 (s : ByteArray) (p : Nat) : bits .and .i64 (at8 s p / 16) 3 = at8 s p / 16 % 4 := by
  have key : ∀ k : Fin 256, bits .and .i64 ((k.val : Int) / 16) 3 = (k.val : Int) / 16 % 4 := by decide +kernel
  have b := at8_in s p
  have := key ⟨(at8 s p).toNat, by omega⟩
  rwa [show (((at8 s p).toNat : Nat) : Int) = at8 s p by omega] at this

abbrev nilS : Value := .slice none 0 0
abbrev sE : ByteArray := ⟨#[]⟩

/-- the result's variable, when l2Read begins -/
abbrev wZ (w : World) : World := w.alloc (.cells #[.int .i64 0, .int .i64 0, .int .i64 0, .string sE, .string sE, .string sE, .string sE, nilS] 49)
abbrev Zh (w : World) (b : Nat) : Prop := Hh w b (.int .i64 0) (.int .i64 0) (.int .i64 0) (.string sE) (.string sE) (.string sE) (.string sE) nilS
theorem wZ_h (w : World) : Zh (wZ w) w.heap.size := Hh.new _ _ _ _ _ _ _ _ _ _
theorem wZ_b (w : World) : Below w.heap.size w (wZ w) := (Below.refl _ _).alloc (Nat.le_refl _) _
set_option maxHeartbeats 1000000 in
theorem read_none (rb short : Nat) (s : ByteArray) (w : World) (hs : s.size = 0) (h : Lr w rb s 0 0) :
    Calls Try.prog 58 #[.pointer (some ⟨rb, 0, none⟩), .int .i64 short] w fun e w' => e = .returned (hv 5 0 0 sE sE sE sE none 0 0) ∧ Lr w' rb s 0 1 ∧ Kx rb w w' := by
  have hne : w.heap.size ≠ rb := by have := h.lt; omega
  have HK := hide (takeM_short rb 0 1 s (wZ w) (by omega) (by omega) (by omega) (h.below (wZ_b w)))
  have HB := hide (fun W => l1BigS_any sE W (by show 0 ≤ _; omega))
  rw [big_nil] at HB
  have e15 : bits .and .i64 0 15 = 0 := by decide +kernel
  clear h
  go_enter Try.func58, Try.ntmps58
  go_wp2_with (first | (go_at_call 81; refine (unhide HB _).mono ?_; rintro e w2 ⟨rfl, rfl⟩) | (go_at_call 82; refine (unhide HK).mono ?_; rintro e w1 ⟨rfl, k1, q1⟩; have c2 := k1.c2; have lt1 := k1.lt; obtain ⟨y0, y1, y2, y3, y4, y5, y6, y7, y8, yf⟩ := (wZ_h w).kx q1 hne))
  have q2 := (Kx.of (wZ_b w)).trans q1
  refine bodyPost_ret (v := hv 5 0 0 sE sE sE sE none 0 0) (by simp [results, Try.results58, go_sem, y0, y1, y2, y3, y4, y5, y6, y7, y8]) rfl ⟨rfl, ?_, ?_⟩
  · refine Lr.below ?_ ((Below.refl _ _).alloc (Nat.le_refl _) _)
    iterate 8 refine Lr.other ?_ hne
    exact k1
  · refine Kx.alloc ?_ _
    iterate 8 refine Kx.fresh ?_ (Nat.le_refl _)
    exact q2
set_option maxHeartbeats 2000000 in
theorem read_kind (rb short : Nat) (s : ByteArray) (w : World) (hs : s.size ≤ 1048576) (h0 : 0 < s.size) (h64 : bits .and .i64 (at8 s 0) 64 = 0) (h : Lr w rb s 0 0) :
    Calls Try.prog 58 #[.pointer (some ⟨rb, 0, none⟩), .int .i64 short] w fun e w' => e = .returned (hv 5 (at8 s 0 % 16) 0 sE sE sE sE none 0 0) ∧ Lr w' rb s 1 2 ∧ Kx rb w w' := by
  have hne : w.heap.size ≠ rb := by have := h.lt; omega
  have HK := hide (takeM_ok rb 0 1 s (wZ w) hs (by omega) (h.below (wZ_b w)))
  have HB := hide (fun W => l1BigS_any (s.extract 0 (0 + 1)) W (by rw [piece_size s 0 1 (by omega)]; omega))
  rw [big_one s 0 h0] at HB
  have e15 := b15 s 0
  clear h
  go_enter Try.func58, Try.ntmps58
  go_wp2_with (first | (go_at_call 81; refine (unhide HB _).mono ?_; rintro e w2 ⟨rfl, rfl⟩) | (go_at_call 82; refine (unhide HK).mono ?_; rintro e w1 ⟨rfl, k1, q1⟩; have c2 := k1.c2; have f2 := k1.fz 2; have lt1 := k1.lt; obtain ⟨y0, y1, y2, y3, y4, y5, y6, y7, y8, yf⟩ := (wZ_h w).kx q1 hne))
  have q2 := (Kx.of (wZ_b w)).trans q1
  refine bodyPost_ret (v := hv 5 (at8 s 0 % 16) 0 sE sE sE sE none 0 0) (by simp [results, Try.results58, go_sem, y0, y1, y2, y3, y4, y5, y6, y7, y8]) rfl ⟨rfl, ?_, ?_⟩
  · refine Lr.below ?_ ((Below.refl _ _).alloc (Nat.le_refl _) _)
    iterate 8 refine Lr.other ?_ hne
    exact k1.note 2
  · refine Kx.alloc ?_ _
    iterate 8 refine Kx.fresh ?_ (Nat.le_refl _)
    exact q2.set 2 _
set_option maxHeartbeats 2000000 in
theorem read_short (rb short : Nat) (s : ByteArray) (w : World) (hs : s.size ≤ 1048576) (hsh : short ≤ 20) (h0 : 0 < s.size) (h64 : bits .and .i64 (at8 s 0) 64 = 64) (hl : at8 s 0 < 128) (h48 : bits .and .i64 (at8 s 0) 48 = 0) (h : Lr w rb s 0 0) :
    Calls Try.prog 58 #[.pointer (some ⟨rb, 0, none⟩), .int .i64 short] w fun e w' => e = .returned (hv 5 (at8 s 0 % 16) 0 (takeT s 1 0 short).t sE sE (takeT s (takeT s 1 0 short).p (takeT s 1 0 short).c (s.size - (takeT s 1 0 short).p)).t none 0 0) ∧ Lr w' rb s (takeT s (takeT s 1 0 short).p (takeT s 1 0 short).c (s.size - (takeT s 1 0 short).p)).p (takeT s (takeT s 1 0 short).p (takeT s 1 0 short).c (s.size - (takeT s 1 0 short).p)).c ∧ Kx rb w w' := by
  have hne : w.heap.size ≠ rb := by have := h.lt; omega
  have HK := hide (takeM_ok rb 0 1 s (wZ w) hs (by omega) (h.below (wZ_b w)))
  have HB := hide (fun W => l1BigS_any (s.extract 0 (0 + 1)) W (by rw [piece_size s 0 1 (by omega)]; omega))
  rw [big_one s 0 h0] at HB
  have e15 := b15 s 0
  clear h
  have hx : (takeT s 1 0 short).p ≤ s.size := takeT_le (by omega) (by omega)
  have HX := hide (fun W (hW : Lr W rb s 1 0) => takeM_any rb 1 0 short s W hs (by omega) (by omega) hW)
  generalize takeT s 1 0 short = x at hx HX ⊢
  have HY := hide (fun W (hW : Lr W rb s x.p x.c) => takeM_any rb x.p x.c (s.size - x.p) s W hs hx (by omega) hW)
  generalize takeT s x.p x.c (s.size - x.p) = y at HY ⊢
  have hb := at8_in s 0
  generalize at8 s 0 = b at *
  go_enter Try.func58, Try.ntmps58
  go_wp2_with fail
  refine (unhide HK).mono ?_
  rintro e w2 ⟨rfl, k1, q1⟩
  go_wp2_with fail
  refine (unhide HB _).mono ?_
  rintro e w2' ⟨rfl, rfl⟩
  have c2 := k1.c2
  have lt1 := k1.lt
  have hneh : w2'.heap.size ≠ rb := by omega
  have Z2 := (wZ_h w).kx q1 hne
  have y0 := Z2.lt
  go_wp2_with fail
  refine (unhide HX _ (k1.below ((Below.refl _ _).alloc (Nat.le_refl _) _))).mono ?_
  rintro e w3 ⟨rfl, k3, q3⟩
  have hwl := Z2.lt
  have q2 := (((Kx.of (wZ_b w)).trans q1).alloc _).trans q3
  have Z3 := (Z2.below ((Below.refl _ _).alloc (Nat.le_refl _) _)).kx q3 hne
  have H3 := (Hh.new w2' _ _ _ _ _ _ _ _ _).kx q3 hneh
  clear Z2 c2 y0 q1 k1 q3 HK HX
  have g3 := H3.c3
  have gf := H3.fz 3
  have gl := H3.lt
  go_wp2_with fail
  have k4 := k3.other (b := w2'.heap.size) (i := 3) (u := .string x.t) hneh
  have Z4 := Z3.other (b' := w2'.heap.size) (i := 3) (u := .string x.t) (by omega)
  have H4 := H3.s3 (u := .string x.t)
  have q4 := q2.fresh (b := w2'.heap.size) (i := 3) (u := .string x.t) (by omega)
  generalize w3.setCell ⟨w2'.heap.size, 3, none⟩ (.string x.t) = w4 at k4 Z4 H4 q4 ⊢
  clear k3 Z3 H3 q2 g3 gf gl
  have d0 := k4.c0
  have d1 := k4.c1
  have HH := hide (H4.below (Below.refl _ _).drew)
  have HZ := hide (Z4.below (Below.refl _ _).drew)
  have k4d : Lr w4.drew rb s x.p x.c := k4.below (Below.refl _ _).drew
  have HC := hide (unhide HY w4.drew k4d)
  have z5 : IntKind.i64.wrap ((s.size : Int) - (x.p : Int)) = (s.size : Int) - (x.p : Int) := wraps_i64 _ (by omega) (by omega)
  clear H4 Z4 k4d HY
  go_region_with (go_at_call 82; with_reducible refine (unhide HC).mono ?_; rintro e w5 ⟨rfl, k5, q5⟩; have H5 := (unhide HH).kx q5 hneh; have g6 := H5.c6; have f6 := H5.fz 6; have gl := H5.lt)
  all_goals
    have Z5 := ((unhide HZ).kx q5 hne).other (b' := w2'.heap.size) (i := 6) (u := .string y.t) (by omega)
    have H6 := H5.s6 (u := .string y.t)
    have k6 := k5.other (b := w2'.heap.size) (i := 6) (u := .string y.t) hneh
    have q6 := ((q4.trans (Kx.of (Below.refl _ _).drew)).trans q5).fresh (b := w2'.heap.size) (i := 6) (u := .string y.t) (by omega)
    clear g6 f6 gl k5 q5 k4 q4 HH HZ d0 d1 H5
    generalize w5.setCell ⟨w2'.heap.size, 6, none⟩ (.string y.t) = w6 at Z5 H6 k6 q6 ⊢
    obtain ⟨y0, y1, y2, y3, y4, y5, y6, y7, y8, yf⟩ := Z5
    obtain ⟨x0, x1, x2, x3, x4, x5, x6, x7, x8, xf⟩ := H6
    go_wp2_with fail
    refine bodyPost_ret (v := hv 5 (b % 16) 0 x.t sE sE y.t none 0 0) (by simp [results, Try.results58, go_sem, y1, y2, y3, y4, y5, y6, y7, y8]) rfl ⟨rfl, ?_, ?_⟩
    · iterate 8 refine Lr.other ?_ hne
      exact k6
    · iterate 8 refine Kx.fresh ?_ (Nat.le_refl _)
      exact q6
end Go.Proofs.Ytbabipaipbjlbaa
