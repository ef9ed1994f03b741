/-
  Contracts: lists of frames: the laws' own copies of them, how they are held against each other, and how they are counted.
-/
import Derived.Test.YtcnpbcigndcheaaDoorCpy
namespace Go.Proofs.YtcnpbcigndcheaaDoor
open Go.ChangeShapes Go.WideShapes Go.ChangeAt Go.RowKit
set_option linter.unusedVariables false

/-- What a frame holds. -/
structure FrD where
  k : Int
  a : Int
  b : Int
  c : Int
  fin : Bool
  s : ByteArray
  n : Nat
  F : Nat → Int
  T : Nat → Int
/-- The seven cells of a frame. -/
structure C7 (w : World) (b o : Nat) (D : FrD) (r : Value) : Prop where
  c0 : w.cell? ⟨b, o, none⟩ = some (.int .i64 D.k)
  c1 : w.cell? ⟨b, o + 1, none⟩ = some (.int .i64 D.a)
  c2 : w.cell? ⟨b, o + 2, none⟩ = some (.int .i64 D.b)
  c3 : w.cell? ⟨b, o + 3, none⟩ = some (.int .i64 D.c)
  c4 : w.cell? ⟨b, o + 4, none⟩ = some (.bool D.fin)
  c5 : w.cell? ⟨b, o + 5, none⟩ = some (.string D.s)
  c6 : w.cell? ⟨b, o + 6, none⟩ = some r
theorem C7.lt {w : World} {b o : Nat} {D : FrD} {r : Value} (h : C7 w b o D r) : b < w.heap.size := World.block_lt_of_cell? w _ h.c0
theorem C7.move {w w' : World} {b o : Nat} {D : FrD} {r : Value} (h : C7 w b o D r) (e : ∀ j, j < 7 → w'.cell? ⟨b, o + j, none⟩ = w.cell? ⟨b, o + j, none⟩) : C7 w' b o D r :=
  ⟨(e 0 (by omega)).trans h.c0, (e 1 (by omega)).trans h.c1, (e 2 (by omega)).trans h.c2, (e 3 (by omega)).trans h.c3, (e 4 (by omega)).trans h.c4, (e 5 (by omega)).trans h.c5, (e 6 (by omega)).trans h.c6⟩
theorem C7.below {w w' : World} {b o : Nat} {D : FrD} {r : Value} (h : C7 w b o D r) (hb : Below w.heap.size w w') : C7 w' b o D r :=
  h.move fun j _ => hb.cell (p := ⟨b, o + j, none⟩) h.lt
/-- A slice of frames that came in. -/
def Fa (w : World) (a : Option Addr) (N : Nat) (G : Nat → FrD) : Prop :=
  N = 0 ∨ ∃ b off, a = some ⟨b, off, none⟩ ∧ ∀ i, i < N → ∃ ra cap, C7 w b (off + i * 7) (G i) (.slice ra (G i).n cap) ∧ Ra w ra (G i).n cap (G i).F (G i).T
theorem Fa.below {w w' : World} {a : Option Addr} {N : Nat} {G : Nat → FrD} (h : Fa w a N G) (hb : Below w.heap.size w w') : Fa w' a N G := by
  rcases h with h | ⟨b, off, e, h⟩
  · exact Or.inl h
  · refine Or.inr ⟨b, off, e, fun i hi => ?_⟩
    obtain ⟨ra, cap, h1, h2⟩ := h i hi
    exact ⟨ra, cap, h1.below hb, h2.below hb⟩
/-- A copied slice of frames. -/
def Fs (w : World) (b off N : Nat) (G : Nat → FrD) : Prop :=
  ∀ i, i < N → ∃ g, C7 w b (off + i * 7) (G i) (.slice (some ⟨g, 0, none⟩) (G i).n (G i).n) ∧ Rr w g 0 (G i).n (G i).F (G i).T
theorem Fs.below {w w' : World} {b off N : Nat} {G : Nat → FrD} (h : Fs w b off N G) (hb : Below w.heap.size w w') : Fs w' b off N G := by
  intro i hi
  obtain ⟨g, h1, h2⟩ := h i hi
  exact ⟨g, h1.below hb, h2.below hb⟩
theorem Fs.alloc {w : World} {b off N : Nat} {G : Nat → FrD} (h : Fs w b off N G) (o : Obj) : Fs (w.alloc o) b off N G := h.below ((Below.refl _ _).alloc (Nat.le_refl _) _)

theorem Tryd.infoF : (Tryd.prog.info? 36).map (fun i => (i.zero, i.size, i.bytes)) = some (some (.agg #[.int .i64 0, .int .i64 0, .int .i64 0, .int .i64 0, .bool false, .string ⟨#[]⟩, .slice none 0 0]), 7, 80) := by kernel_rfl

set_option maxHeartbeats 1000000 in
theorem toFrame_new (k a b c : Int) (fin : Bool) (s : ByteArray) (ra : Option Addr) (n cap : Nat) (F T : Nat → Int) (w : World) (hn : n ≤ 1048576) (h : Ra w ra n cap F T) :
    Calls Tryd.prog 12 #[.agg #[.int .i64 k, .int .i64 a, .int .i64 b, .int .i64 c, .bool fin, .string s, .slice ra n cap]] w fun e w' =>
      ∃ g, e = .returned (.agg #[.int .i64 k, .int .i64 a, .int .i64 b, .int .i64 c, .bool fin, .string s, .slice (some ⟨g, 0, none⟩) n n]) ∧ w.heap.size ≤ g ∧ Rr w' g 0 n F T ∧ Below w.heap.size w w' := by
  have HR := hide h
  clear h
  go_enter Tryd.func12, Tryd.ntmps12
  go_wp2_with fail
  refine (toRangeS_arg ra n cap F T _ hn ((unhide HR).below ((((Below.refl _ _).alloc (Nat.le_refl _) _).alloc (by simp) _).alloc (by simp; omega) _))).mono ?_
  rintro e w2 ⟨rfl, hr2, hb2⟩
  obtain ⟨hc2, hf2⟩ := bcell hb2
  have hz2 : w.heap.size + 1 + 1 < w2.heap.size := by have := hb2.size; simp at this; omega
  have hr3 : Rr w2 (w.heap.size + 1 + 1 + 1) 0 n F T := by simpa using hr2
  have hb3 : Below w.heap.size w w2 := ((((Below.refl _ _).alloc (Nat.le_refl _) _).alloc (by simp) _).alloc (by simp; omega) _).trans (hb2.mono (by simp; omega))
  go_wp2
  refine bodyPost_ret (v := .agg #[.int .i64 k, .int .i64 a, .int .i64 b, .int .i64 c, .bool fin, .string s, .slice (some ⟨w.heap.size + 1 + 1 + 1, 0, none⟩) n n]) (by simp [results, Tryd.results12, go_sem, hc2]) rfl ⟨w.heap.size + 1 + 1 + 1, rfl, by omega, ?_, ?_⟩
  · iterate 8 refine Rr.setOther ?_ (by simp)
    exact hr3
  · iterate 8 refine Below.setCell ?_ (by simp <;> omega) _
    exact hb3

/-- Seven cells are stored, one behind the other. -/
def put7 (w : World) (B o : Nat) (v0 v1 v2 v3 v4 v5 v6 : Value) : World :=
  ((((((w.setCell ⟨B, o, none⟩ v0).setCell ⟨B, o + 1, none⟩ v1).setCell ⟨B, o + 2, none⟩ v2).setCell ⟨B, o + 3, none⟩ v3).setCell ⟨B, o + 4, none⟩ v4).setCell ⟨B, o + 5, none⟩ v5).setCell ⟨B, o + 6, none⟩ v6
theorem set_at {w : World} {a : Addr} {u : Value} (h : (w.cell? a).isSome = true) : (w.setCell a u).cell? a = some u := by
  obtain ⟨v, hv⟩ := Option.isSome_iff_exists.1 h
  exact World.cell?_setCell_same _ _ _ hv
theorem set_off {w : World} {B x y : Nat} {u : Value} (h : x ≠ y) : (w.setCell ⟨B, x, none⟩ u).cell? ⟨B, y, none⟩ = w.cell? ⟨B, y, none⟩ :=
  World.cell?_setCell_other _ _ _ _ (by intro e; simp at e <;> omega)
theorem put7_off {w : World} {B o y : Nat} {v0 v1 v2 v3 v4 v5 v6 : Value} (h : y < o ∨ o + 7 ≤ y) : (put7 w B o v0 v1 v2 v3 v4 v5 v6).cell? ⟨B, y, none⟩ = w.cell? ⟨B, y, none⟩ := by
  unfold put7
  rw [set_off (by omega), set_off (by omega), set_off (by omega), set_off (by omega), set_off (by omega), set_off (by omega), set_off (by omega)]
theorem put7_size (w : World) (B o : Nat) (v0 v1 v2 v3 v4 v5 v6 : Value) : (put7 w B o v0 v1 v2 v3 v4 v5 v6).heap.size = w.heap.size := by simp [put7]
theorem put7_frozen (w : World) (B o : Nat) (v0 v1 v2 v3 v4 v5 v6 : Value) (p : Addr) : (put7 w B o v0 v1 v2 v3 v4 v5 v6).frozen? p = w.frozen? p := by simp [put7]
theorem put7_isSome {w : World} {B o : Nat} {v0 v1 v2 v3 v4 v5 v6 : Value} {p : Addr} (h : (w.cell? p).isSome = true) : ((put7 w B o v0 v1 v2 v3 v4 v5 v6).cell? p).isSome = true :=
  isSome_set (isSome_set (isSome_set (isSome_set (isSome_set (isSome_set (isSome_set h))))))
theorem put7_below {w wr : World} {B o b : Nat} {v0 v1 v2 v3 v4 v5 v6 : Value} (h : Below b w wr) (hb : b ≤ B) : Below b w (put7 wr B o v0 v1 v2 v3 v4 v5 v6) :=
  ((((((h.setCell hb _).setCell hb _).setCell hb _).setCell hb _).setCell hb _).setCell hb _).setCell hb _
theorem put7_rr {w : World} {B o g off n : Nat} {F T : Nat → Int} {v0 v1 v2 v3 v4 v5 v6 : Value} (h : Rr w g off n F T) (hne : B ≠ g) : Rr (put7 w B o v0 v1 v2 v3 v4 v5 v6) g off n F T :=
  ((((((h.setOther hne).setOther hne).setOther hne).setOther hne).setOther hne).setOther hne).setOther hne
theorem put7_at {w : World} {B o : Nat} {D : FrD} {r : Value} (h : ∀ j, j < 7 → (w.cell? ⟨B, o + j, none⟩).isSome = true) :
    C7 (put7 w B o (.int .i64 D.k) (.int .i64 D.a) (.int .i64 D.b) (.int .i64 D.c) (.bool D.fin) (.string D.s) r) B o D r := by
  have h0 : (w.cell? ⟨B, o, none⟩).isSome = true := h 0 (by omega)
  have h1 := h 1 (by omega)
  have h2 := h 2 (by omega)
  have h3 := h 3 (by omega)
  have h4 := h 4 (by omega)
  have h5 := h 5 (by omega)
  have h6 := h 6 (by omega)
  unfold put7
  refine ⟨?_, ?_, ?_, ?_, ?_, ?_, ?_⟩
  · rw [set_off (by omega), set_off (by omega), set_off (by omega), set_off (by omega), set_off (by omega), set_off (by omega)]; exact set_at h0
  · rw [set_off (by omega), set_off (by omega), set_off (by omega), set_off (by omega), set_off (by omega)]; exact set_at (isSome_set h1)
  · rw [set_off (by omega), set_off (by omega), set_off (by omega), set_off (by omega)]; exact set_at (isSome_set (isSome_set h2))
  · rw [set_off (by omega), set_off (by omega), set_off (by omega)]; exact set_at (isSome_set (isSome_set (isSome_set h3)))
  · rw [set_off (by omega), set_off (by omega)]; exact set_at (isSome_set (isSome_set (isSome_set (isSome_set h4))))
  · rw [set_off (by omega)]; exact set_at (isSome_set (isSome_set (isSome_set (isSome_set (isSome_set h5)))))
  · exact set_at (isSome_set (isSome_set (isSome_set (isSome_set (isSome_set (isSome_set h6))))))

/-- A slice of frames in the making: k of N are laid. -/
structure Fm (w wr : World) (N k : Nat) (G : Nat → FrD) : Prop where
  bel : Below w.heap.size w wr
  lt : w.heap.size < wr.heap.size
  el : ∀ j, j < k → ∃ g, w.heap.size < g ∧ C7 wr w.heap.size (j * 7) (G j) (.slice (some ⟨g, 0, none⟩) (G j).n (G j).n) ∧ Rr wr g 0 (G j).n (G j).F (G j).T
  rm : ∀ o, o < N * 7 → (wr.cell? ⟨w.heap.size, o, none⟩).isSome = true
  fz : ∀ o, wr.frozen? ⟨w.heap.size, o, none⟩ = false
theorem Fm.below {w wr w1 : World} {N k : Nat} {G : Nat → FrD} (h : Fm w wr N k G) (hb : Below wr.heap.size wr w1) : Fm w w1 N k G := by
  refine ⟨h.bel.trans (hb.mono h.bel.size), Nat.lt_of_lt_of_le h.lt hb.size, fun j hj => ?_, fun o ho => ?_, fun o => (hb.frozen (p := ⟨w.heap.size, o, none⟩) h.lt).trans (h.fz o)⟩
  · obtain ⟨g, h1, h2, h3⟩ := h.el j hj
    exact ⟨g, h1, h2.below hb, h3.below hb⟩
  · rw [hb.cell (p := ⟨w.heap.size, o, none⟩) h.lt]; exact h.rm o ho
theorem Fm.step {w wr : World} {N k g : Nat} {G : Nat → FrD} (h : Fm w wr N k G) (hk : k < N) (hg : w.heap.size < g) (hr : Rr wr g 0 (G k).n (G k).F (G k).T) :
    Fm w (put7 wr w.heap.size (k * 7) (.int .i64 (G k).k) (.int .i64 (G k).a) (.int .i64 (G k).b) (.int .i64 (G k).c) (.bool (G k).fin) (.string (G k).s) (.slice (some ⟨g, 0, none⟩) (G k).n (G k).n)) N (k + 1) G := by
  refine ⟨put7_below h.bel (Nat.le_refl _), by rw [put7_size]; exact h.lt, fun j hj => ?_, fun o ho => put7_isSome (h.rm o ho), fun o => by rw [put7_frozen]; exact h.fz o⟩
  by_cases e : j = k
  · subst e
    exact ⟨g, hg, put7_at (fun i hi => h.rm _ (by omega)), put7_rr hr (by omega)⟩
  · obtain ⟨g', h1, h2, h3⟩ := h.el j (by omega)
    exact ⟨g', h1, h2.move (fun i hi => put7_off (by omega)), put7_rr h3 (by omega)⟩

set_option maxHeartbeats 1000000 in
theorem toFrameS_any (a : Option Addr) (N cap : Nat) (G : Nat → FrD) (w : World) (hN : N ≤ 1048576) (hG : ∀ i, i < N → (G i).n ≤ 1048576) (h : Fa w a N G) :
    Calls Tryd.prog 6 #[.slice a N cap] w fun e w' => e = .returned (.slice (some ⟨w.heap.size, 0, none⟩) N N) ∧ Fm w w' N N G := by
  obtain ⟨i0, hi, hz0, hz1, hz2⟩ := info_parts Tryd.infoF
  obtain ⟨w1, hmk, hown, hgr⟩ := run_make_full (P := Tryd.prog) w w.heap.size 26 36 i0 _ 7 Tryd.underlying26 hi hz0 hz1 .i64 .i64 N (by rw [hz2]; omega) (by unfold maxLen; omega) (Nat.le_refl _)
  have HM : Hid (Fm w w1 N 0 G) := by
    refine ⟨(Below.refl _ _).grown hgr (Nat.le_refl _) (fun k hk => by cases hk), (hown.lt w.heap.size rfl).2, fun j hj => by omega, fun o ho => ?_, fun o => hown.frozenAt o⟩
    rw [hown.cellAt o (by omega)]; simp [madeCells]; omega
  clear hown hgr hi hz0 hz1 hz2
  have HR := hide h
  have HN := hide hG
  clear h hG
  go_enter Tryd.func6, Tryd.ntmps6
  go_wp2
  go_loopw [4] (fun i wr => ∃ k : Nat, k ≤ N ∧ i = .int .i64 k ∧ Fm w wr N k G) (fun i _ => N - (intOf i).toNat)
  case atStart => exact ⟨0, Nat.zero_le _, rfl, unhide HM⟩
  case round =>
    obtain ⟨k, hk, rfl, hmr⟩ := hrel
    by_cases hlt : k < N
    · rcases (unhide HR).below hmr.bel with h0 | ⟨b, off, rfl, hel⟩
      · omega
      obtain ⟨ra, cp, hc, hra⟩ := hel k hlt
      have HA := hide hra
      clear hra hel
      obtain ⟨c0, c1, c2, c3, c4, c5, c6⟩ := hc
      go_wp2_with (go_at_call 12; refine (toFrame_new _ _ _ _ _ _ _ _ _ _ _ _ (unhide HN k hlt) (unhide HA)).mono ?_; rintro e w2 ⟨g, rfl, hg, hr2, hb2⟩; have hm2 := hmr.below hb2; have hgl : w.heap.size < g := Nat.lt_of_lt_of_le hmr.lt hg; obtain ⟨v0, e0⟩ := Option.isSome_iff_exists.1 (hm2.rm (k * 7) (by omega)); obtain ⟨v1, e1⟩ := Option.isSome_iff_exists.1 (hm2.rm (k * 7 + 1) (by omega)); obtain ⟨v2, e2⟩ := Option.isSome_iff_exists.1 (hm2.rm (k * 7 + 2) (by omega)); obtain ⟨v3, e3⟩ := Option.isSome_iff_exists.1 (hm2.rm (k * 7 + 3) (by omega)); obtain ⟨v4, e4⟩ := Option.isSome_iff_exists.1 (hm2.rm (k * 7 + 4) (by omega)); obtain ⟨v5, e5⟩ := Option.isSome_iff_exists.1 (hm2.rm (k * 7 + 5) (by omega)); obtain ⟨v6, e6⟩ := Option.isSome_iff_exists.1 (hm2.rm (k * 7 + 6) (by omega)); have f0 := hm2.fz (k * 7); have f1 := hm2.fz (k * 7 + 1); have f2 := hm2.fz (k * 7 + 2); have f3 := hm2.fz (k * 7 + 3); have f4 := hm2.fz (k * 7 + 4); have f5 := hm2.fz (k * 7 + 5); have f6 := hm2.fz (k * 7 + 6))
      exact ⟨⟨k + 1, by omega, by go_num, hm2.step hlt hgl hr2⟩, by simp [intOf]; omega⟩
    · obtain rfl : k = N := by omega
      go_wp2
      go_ret
      exact ⟨rfl, hmr⟩
theorem Fm.fs {w w' : World} {N : Nat} {G : Nat → FrD} (h : Fm w w' N N G) : Fs w' w.heap.size 0 N G := by
  intro i hi
  obtain ⟨g, _, h1, h2⟩ := h.el i hi
  exact ⟨g, by rw [Nat.zero_add]; exact h1, h2⟩

set_option maxHeartbeats 1000000 in
theorem eqFrameS_same (b off N cap b' off' cap' : Nat) (G : Nat → FrD) (w : World) (hN : N ≤ 1048576) (hG : ∀ i, i < N → (G i).n ≤ 1048576) (h : Fs w b off N G) (h' : Fs w b' off' N G) :
    Calls Tryd.prog 8 #[.slice (some ⟨b, off, none⟩) N cap, .slice (some ⟨b', off', none⟩) N cap'] w fun e w' => e = .returned (.bool true) ∧ Below w.heap.size w w' := by
  have HR := hide h
  have HR' := hide h'
  have HN := hide hG
  clear h h' hG
  go_enter Tryd.func8, Tryd.ntmps8
  go_wp2
  go_loopw [5] (fun i wr => ∃ k : Nat, k ≤ N ∧ i = .int .i64 k ∧ Below w.heap.size w wr) (fun i _ => N - (intOf i).toNat)
  case atStart => exact ⟨0, Nat.zero_le _, rfl, Below.refl _ _⟩
  case round =>
    obtain ⟨k, hk, rfl, hbel⟩ := hrel
    by_cases hlt : k < N
    · obtain ⟨g, hc, hr⟩ := (unhide HR).below hbel k hlt
      obtain ⟨g', hc', hr'⟩ := (unhide HR').below hbel k hlt
      have HA := hide hr
      have HA' := hide hr'
      clear hr hr'
      obtain ⟨c0, c1, c2, c3, c4, c5, c6⟩ := hc
      obtain ⟨d0, d1, d2, d3, d4, d5, d6⟩ := hc'
      have hnk : (k : Int) < (N : Int) := by omega
      have hk0 : (0 : Int) ≤ (k : Int) := by omega
      go_wp2_with fail
      go_region_with (go_at_call 15; refine (eqFrame_same _ _ _ _ _ _ _ _ _ _ _ _ _ _ _ _ (unhide HN k hlt) ((unhide HA).below ((Below.refl _ _).drew)) ((unhide HA').below ((Below.refl _ _).drew))).mono ?_; rintro e w2 ⟨rfl, hb2⟩)
      all_goals
        go_wp2
        exact ⟨⟨k + 1, by omega, by go_num, hbel.drew.trans (hb2.mono hbel.size)⟩, by simp [intOf]; omega⟩
    · go_wp2
      go_ret
      exact ⟨rfl, hbel⟩

/-- what the first k frames hold together -/
def sumG (G : Nat → FrD) : Nat → Nat
  | 0 => 0
  | k + 1 => sumG G k + ((G k).s.size + (G k).n)
theorem sumG_mono (G : Nat → FrD) {i j : Nat} (h : i ≤ j) : sumG G i ≤ sumG G j := by
  induction h with
  | refl => exact Nat.le_refl _
  | step _ ih => exact Nat.le_trans ih (Nat.le_add_right _ _)

def szR (G : Nat → FrD) (N : Nat) : Int := if 1048576 < N + sumG G N then -1 else 1048576 - (N : Int) - (sumG G N : Int)

set_option maxHeartbeats 1000000 in
theorem szFrameS_any (a : Option Addr) (N cap : Nat) (G : Nat → FrD) (w : World) (hN : N ≤ 9223372036854775807) (hG : ∀ i, i < N → (G i).s.size ≤ maxLen ∧ (G i).n ≤ maxLen) (h : Fa w a N G) :
    Calls Tryd.prog 4 #[.slice a N cap, .int .i64 1048576] w fun e w' => e = .returned (.int .i64 (szR G N)) ∧ Below w.heap.size w w' := by
  have HR := hide h
  have HN := hide hG
  clear h hG
  by_cases hbig : 1048576 < N
  · rw [show szR G N = -1 from if_pos (by omega)]
    go_enter Tryd.func4, Tryd.ntmps4
    go_wp2
    go_ret
    exact ⟨rfl, Below.refl _ _⟩
  go_enter Tryd.func4, Tryd.ntmps4
  go_wp2
  go_loopw [1, 5] (fun l i wr => ∃ k : Nat, k ≤ N ∧ i = .int .i64 k ∧ l = .int .i64 (1048576 - (N : Int) - (sumG G k : Int)) ∧ N + sumG G k ≤ 1048576 ∧ Below w.heap.size w wr) (fun _ i _ => N - (intOf i).toNat)
  case atStart => exact ⟨0, Nat.zero_le _, rfl, by simp [sumG], by simp [sumG]; omega, Below.refl _ _⟩
  case round =>
    obtain ⟨k, hk, rfl, rfl, hle, hbel⟩ := hrel
    by_cases hlt : k < N
    · rcases (unhide HR).below hbel with h0 | ⟨b, off, rfl, hel⟩
      · omega
      obtain ⟨ra, cp, hc, hra⟩ := hel k hlt
      clear hra hel
      obtain ⟨c0, c1, c2, c3, c4, c5, c6⟩ := hc
      obtain ⟨hs, hn⟩ := unhide HN k hlt
      have HZ := hide (fun w' => szFrame_any (G k).k (G k).a (G k).b (G k).c (G k).fin (G k).s ra (G k).n cp (1048576 - (N : Int) - (sumG G k : Int)) w' (by omega) (by omega) hs hn)
      clear hs hn
      have hstep : sumG G (k + 1) = sumG G k + ((G k).s.size + (G k).n) := rfl
      have hmono := sumG_mono G (show k + 1 ≤ N from hlt)
      by_cases hb : (1048576 - (N : Int) - (sumG G k : Int)) < ((G k).s.size : Int) + ((G k).n : Int)
      · rw [if_pos hb] at HZ
        have HE : Hid (szR G N = -1) := if_pos (by omega)
        clear hb hstep hmono
        go_wp2_with (go_at_call 9; refine (unhide HZ _).mono ?_; rintro e w2 ⟨rfl, hb2⟩)
        go_ret
        exact ⟨by rw [unhide HE]; rfl, hbel.trans (hb2.mono hbel.size)⟩
      · rw [if_neg hb] at HZ
        have HE : Hid (1048576 - (N : Int) - (sumG G k : Int) - ((G k).s.size : Int) - ((G k).n : Int) = 1048576 - (N : Int) - (sumG G (k + 1) : Int)) := by rw [Hid, hstep]; omega
        rw [unhide HE] at HZ
        have hle2 : N + sumG G (k + 1) ≤ 1048576 := by omega
        clear hb hstep hmono HE
        go_wp2_with (go_at_call 9; refine (unhide HZ _).mono ?_; rintro e w2 ⟨rfl, hb2⟩)
        exact ⟨⟨k + 1, by omega, by go_num, rfl, hle2, hbel.trans (hb2.mono hbel.size)⟩, by simp [intOf]; omega⟩
    · obtain rfl : k = N := by omega
      have HE : Hid (szR G k = 1048576 - (k : Int) - (sumG G k : Int)) := if_neg (by omega)
      go_wp2
      go_ret
      exact ⟨by rw [unhide HE]; rfl, hbel⟩
end Go.Proofs.YtcnpbcigndcheaaDoor
