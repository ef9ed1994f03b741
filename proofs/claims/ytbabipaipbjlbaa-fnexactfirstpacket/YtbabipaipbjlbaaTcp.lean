/-
  Tables copied by the laws, and held against each other.
-/
import Derived.Test.YtbabipaipbjlbaaTal
import Derived.Test.YtbabipaipbjlbaaBxs
import Derived.Deep.QuietTactic
import Derived.Deep.RegionWith
import Derived.BigQuiet
namespace Go.Proofs.Ytbabipaipbjlbaa
open Go.ChangeShapes Go.WideShapes Go.ChangeAt Go.RowKit
set_option linter.unusedVariables false
set_option maxRecDepth 100000

theorem set_at {w : World} {a : Addr} {u : Value} (h : (w.cell? a).isSome = true) : (w.setCell a u).cell? a = some u := by
  obtain ⟨v, hv⟩ := Option.isSome_iff_exists.1 h
  exact World.cell?_setCell_same _ _ _ hv
theorem set_off {w : World} {B x y : Nat} {u : Value} (h : x ≠ y) : (w.setCell ⟨B, x, none⟩ u).cell? ⟨B, y, none⟩ = w.cell? ⟨B, y, none⟩ :=
  World.cell?_setCell_other _ _ _ _ (by intro e; simp at e <;> omega)
theorem set_blk {w : World} {B C x y : Nat} {u : Value} (h : B ≠ C) : (w.setCell ⟨B, x, none⟩ u).cell? ⟨C, y, none⟩ = w.cell? ⟨C, y, none⟩ :=
  World.cell?_setCell_other _ _ _ _ (by intro e; simp at e <;> omega)
theorem isSomeSet {w : World} {a p : Addr} {u : Value} (h : (w.cell? p).isSome = true) : ((w.setCell a u).cell? p).isSome = true := by
  by_cases e : a = p
  · subst e; rw [set_at h]; rfl
  · rw [World.cell?_setCell_other _ _ _ _ e]; exact h
/-- two cells are stored -/
def put2 (w : World) (B o : Nat) (v0 v1 : Value) : World := (w.setCell ⟨B, o, none⟩ v0).setCell ⟨B, o + 1, none⟩ v1
/-- seven cells are stored -/
def put7 (w : World) (B o : Nat) (v0 v1 v2 v3 v4 v5 v6 : Value) : World :=
  ((((((w.setCell ⟨B, o, none⟩ v0).setCell ⟨B, o + 1, none⟩ v1).setCell ⟨B, o + 2, none⟩ v2).setCell ⟨B, o + 3, none⟩ v3).setCell ⟨B, o + 4, none⟩ v4).setCell ⟨B, o + 5, none⟩ v5).setCell ⟨B, o + 6, none⟩ v6
theorem put7_off {w : World} {B o y : Nat} {v0 v1 v2 v3 v4 v5 v6 : Value} (h : y < o ∨ o + 7 ≤ y) : (put7 w B o v0 v1 v2 v3 v4 v5 v6).cell? ⟨B, y, none⟩ = w.cell? ⟨B, y, none⟩ := by
  unfold put7
  rw [set_off (by omega), set_off (by omega), set_off (by omega), set_off (by omega), set_off (by omega), set_off (by omega), set_off (by omega)]
theorem put7_blk {w : World} {B C o y : Nat} {v0 v1 v2 v3 v4 v5 v6 : Value} (h : B ≠ C) : (put7 w B o v0 v1 v2 v3 v4 v5 v6).cell? ⟨C, y, none⟩ = w.cell? ⟨C, y, none⟩ := by
  unfold put7
  rw [set_blk h, set_blk h, set_blk h, set_blk h, set_blk h, set_blk h, set_blk h]
theorem put7_size (w : World) (B o : Nat) (v0 v1 v2 v3 v4 v5 v6 : Value) : (put7 w B o v0 v1 v2 v3 v4 v5 v6).heap.size = w.heap.size := by simp [put7]
theorem put7_frozen (w : World) (B o : Nat) (v0 v1 v2 v3 v4 v5 v6 : Value) (p : Addr) : (put7 w B o v0 v1 v2 v3 v4 v5 v6).frozen? p = w.frozen? p := by simp [put7]
theorem put7_isSome {w : World} {B o : Nat} {v0 v1 v2 v3 v4 v5 v6 : Value} {p : Addr} (h : (w.cell? p).isSome = true) : ((put7 w B o v0 v1 v2 v3 v4 v5 v6).cell? p).isSome = true :=
  isSomeSet (isSomeSet (isSomeSet (isSomeSet (isSomeSet (isSomeSet (isSomeSet h))))))
theorem put7_below {w wr : World} {B o b : Nat} {v0 v1 v2 v3 v4 v5 v6 : Value} (h : Below b w wr) (hb : b ≤ B) : Below b w (put7 wr B o v0 v1 v2 v3 v4 v5 v6) :=
  ((((((h.setCell hb _).setCell hb _).setCell hb _).setCell hb _).setCell hb _).setCell hb _).setCell hb _
theorem put7_at {w : World} {B o : Nat} {D : EnD} {r : Value} (h : ∀ j, j < 7 → (w.cell? ⟨B, o + j, none⟩).isSome = true) :
    Ce (put7 w B o (.int .i64 D.sl) (.int .i64 D.sv) (.int .i64 D.nc) (.string D.k) (.bool D.t) r (.int .i64 D.nx)) B o D r := by
  have h0 : (w.cell? ⟨B, o, none⟩).isSome = true := h 0 (by omega)
  have h1 := h 1 (by omega)
  have h2 := h 2 (by omega)
  have h3 := h 3 (by omega)
  have h4 := h 4 (by omega)
  have h5 := h 5 (by omega)
  have h6 := h 6 (by omega)
  unfold put7
  refine ⟨?_, ?_, ?_, ?_, ?_, ?_, ?_⟩
  · rw [set_off (by omega), set_off (by omega), set_off (by omega), set_off (by omega), set_off (by omega), set_off (by omega)]; exact set_at h0
  · rw [set_off (by omega), set_off (by omega), set_off (by omega), set_off (by omega), set_off (by omega)]; exact set_at (isSomeSet h1)
  · rw [set_off (by omega), set_off (by omega), set_off (by omega), set_off (by omega)]; exact set_at (isSomeSet (isSomeSet h2))
  · rw [set_off (by omega), set_off (by omega), set_off (by omega)]; exact set_at (isSomeSet (isSomeSet (isSomeSet h3)))
  · rw [set_off (by omega), set_off (by omega)]; exact set_at (isSomeSet (isSomeSet (isSomeSet (isSomeSet h4))))
  · rw [set_off (by omega)]; exact set_at (isSomeSet (isSomeSet (isSomeSet (isSomeSet (isSomeSet h5)))))
  · exact set_at (isSomeSet (isSomeSet (isSomeSet (isSomeSet (isSomeSet (isSomeSet h6))))))

/-! ### copied -/
theorem Try.infoAl : (Try.prog.info? 129).map (fun i => (i.zero, i.size, i.bytes)) = some (some (.agg #[.string ⟨#[]⟩, .string ⟨#[]⟩]), 2, 32) := by kernel_rfl
theorem Try.infoEn : (Try.prog.info? 126).map (fun i => (i.zero, i.size, i.bytes)) = some (some (.agg #[.int .i64 0, .int .i64 0, .int .i64 0, .string ⟨#[]⟩, .bool false, .slice none 0 0, .int .i64 0]), 7, 80) := by kernel_rfl
/-- a row of allocs of the call's own, all its cells to be written -/
structure Ao (base : Nat) (w : World) (g : Nat) (L : List AlD) : Prop where
  ge : base ≤ g
  al : Al w g 0 L
  fz : ∀ o, w.frozen? ⟨g, o, none⟩ = false
theorem Ao.below {base : Nat} {w w' : World} {g : Nat} {L : List AlD} (h : Ao base w g L) (hb : Below w.heap.size w w') : Ao base w' g L :=
  ⟨h.ge, h.al.below hb, fun o => (hb.frozen (p := ⟨g, o, none⟩) h.al.lt).trans (h.fz o)⟩
theorem Ao.mono {base base' : Nat} {w : World} {g : Nat} {L : List AlD} (h : Ao base w g L) (hb : base' ≤ base) : Ao base' w g L := ⟨Nat.le_trans hb h.ge, h.al, h.fz⟩
set_option maxHeartbeats 1000000 in
theorem toAl (D : AlD) (w : World) : Calls Try.prog 114 #[av D] w fun e w' => e = .returned (av D) ∧ Below w.heap.size w w' := by
  go_enter Try.func114, Try.ntmps114
  go_wp2
  refine bodyPost_ret (v := av D) (by simp [results, Try.results114, go_sem]) rfl ⟨rfl, ?_⟩
  exact (((Below.refl _ _).alloc (Nat.le_refl _) _).alloc (by simp) _).alloc (by simp; omega) _
/-- a row of allocs in the making: k are laid -/
structure Am (w wr : World) (L : List AlD) (k : Nat) : Prop where
  bel : Below w.heap.size w wr
  lt : w.heap.size < wr.heap.size
  ci : ∀ j, j < k → wr.cell? ⟨w.heap.size, j * 2, none⟩ = some (.string (aA L j).i)
  cb : ∀ j, j < k → wr.cell? ⟨w.heap.size, j * 2 + 1, none⟩ = some (.string (aA L j).b)
  rm : ∀ o, o < L.length * 2 → (wr.cell? ⟨w.heap.size, o, none⟩).isSome = true
  fz : ∀ o, wr.frozen? ⟨w.heap.size, o, none⟩ = false
theorem Am.below {w wr w1 : World} {L : List AlD} {k : Nat} (h : Am w wr L k) (hb : Below wr.heap.size wr w1) : Am w w1 L k := by
  obtain ⟨hc, hf⟩ := bcell hb
  exact ⟨h.bel.trans (hb.mono h.bel.size), Nat.lt_of_lt_of_le h.lt hb.size, fun j hj => (hc _ _ h.lt).trans (h.ci j hj), fun j hj => (hc _ _ h.lt).trans (h.cb j hj), fun o ho => by rw [hc _ _ h.lt]; exact h.rm o ho, fun o => (hf _ _ h.lt).trans (h.fz o)⟩
theorem Am.step {w wr : World} {L : List AlD} {k : Nat} (h : Am w wr L k) (hk : k < L.length) : Am w (put2 wr w.heap.size (k * 2) (.string (aA L k).i) (.string (aA L k).b)) L (k + 1) := by
  have r0 := h.rm (k * 2) (by omega)
  have r1 := h.rm (k * 2 + 1) (by omega)
  unfold put2
  refine ⟨(h.bel.setCell (Nat.le_refl _) _).setCell (Nat.le_refl _) _, by simpa using h.lt, fun j hj => ?_, fun j hj => ?_, fun o ho => isSomeSet (isSomeSet (h.rm o ho)), fun o => by simpa using h.fz o⟩
  · by_cases e : j = k
    · subst e; rw [set_off (by omega)]; exact set_at r0
    · rw [set_off (by omega), set_off (by omega)]; exact h.ci j (by omega)
  · by_cases e : j = k
    · subst e; exact set_at (isSomeSet r1)
    · rw [set_off (by omega), set_off (by omega)]; exact h.cb j (by omega)
theorem Am.ao {w w' : World} {L : List AlD} (h : Am w w' L L.length) : Ao w.heap.size w' w.heap.size L :=
  ⟨Nat.le_refl _, ⟨h.lt, fun k hk => by rw [Nat.zero_add]; exact h.ci k hk, fun k hk => by rw [Nat.zero_add]; exact h.cb k hk⟩, h.fz⟩
set_option maxHeartbeats 1000000 in
theorem toAls (a : Option Addr) (cap : Nat) (L : List AlD) (w : World) (hN : L.length ≤ 1048576) (h : Aa w a L) :
    Calls Try.prog 103 #[.slice a L.length cap] w fun e w' => e = .returned (.slice (some ⟨w.heap.size, 0, none⟩) L.length L.length) ∧ Ao w.heap.size w' w.heap.size L ∧ Below w.heap.size w w' := by
  obtain ⟨i0, hi, hz0, hz1, hz2⟩ := info_parts Try.infoAl
  obtain ⟨w1, hmk, hown, hgr⟩ := run_make_full (P := Try.prog) w w.heap.size 124 129 i0 _ 2 Try.underlying124 hi hz0 hz1 .i64 .i64 L.length (by rw [hz2]; omega) (by unfold maxLen; omega) (Nat.le_refl _)
  have HM : Hid (Am w w1 L 0) := by
    refine ⟨(Below.refl _ _).grown hgr (Nat.le_refl _) (fun k hk => by cases hk), (hown.lt w.heap.size rfl).2, fun j hj => by omega, fun j hj => by omega, fun o ho => ?_, fun o => hown.frozenAt o⟩
    rw [hown.cellAt o (by omega)]; simp [madeCells]; omega
  clear hown hgr hi hz0 hz1 hz2
  have HR := hide h
  clear h
  go_enter Try.func103, Try.ntmps103
  go_wp2
  go_loopw [4] (fun i wr => ∃ k : Nat, k ≤ L.length ∧ i = .int .i64 k ∧ Am w wr L k) (fun i _ => L.length - (intOf i).toNat)
  case atStart => exact ⟨0, Nat.zero_le _, rfl, unhide HM⟩
  case round =>
    obtain ⟨k, hk, rfl, hmr⟩ := hrel
    by_cases hlt : k < L.length
    · rcases (unhide HR).below hmr.bel with h0 | ⟨b, off, rfl, hel⟩
      · rw [h0] at hlt; exact absurd hlt (Nat.not_lt_zero _)
      have c0 := hel.ci k hlt
      have c1 := hel.cb k hlt
      clear hel
      go_wp2_with (go_at_call 114; refine (toAl (aA L k) _).mono ?_; rintro e w2 ⟨rfl, hb2⟩; have hm2 := hmr.below hb2; obtain ⟨v0, e0⟩ := Option.isSome_iff_exists.1 (hm2.rm (k * 2) (by omega)); obtain ⟨v1, e1⟩ := Option.isSome_iff_exists.1 (hm2.rm (k * 2 + 1) (by omega)); have f0 := hm2.fz (k * 2); have f1 := hm2.fz (k * 2 + 1))
      exact ⟨⟨k + 1, by omega, by go_num, hm2.step hlt⟩, by simp [intOf]; omega⟩
    · obtain rfl : k = L.length := by omega
      have HA := hide hmr
      clear hmr
      go_wp2
      go_ret
      exact ⟨rfl, (unhide HA).ao, (unhide HA).bel⟩
set_option maxHeartbeats 1000000 in
theorem toEn (D : EnD) (ra : Option Addr) (cap : Nat) (w : World) (hn : D.S.length ≤ 1048576) (h : Aa w ra D.S) :
    Calls Try.prog 85 #[ev D ra cap] w fun e w' => ∃ g, e = .returned (ev D (some ⟨g, 0, none⟩) D.S.length) ∧ Ao w.heap.size w' g D.S ∧ Below w.heap.size w w' := by
  have HC := hide (toCfg D.sl D.sv D.nc D.k D.t)
  have HS := hide (fun W (b : Below w.heap.size w W) => toAls ra cap D.S W hn (h.below b))
  clear h
  go_enter Try.func85, Try.ntmps85
  go_wp2_with fail
  refine (unhide HC _).mono ?_
  rintro e w1 ⟨rfl, b1⟩
  have s1 : w.heap.size + 1 + 1 < w1.heap.size := by have := b1.size; simp at this; omega
  have B1 := hide (((((Below.refl w.heap.size w).alloc (Nat.le_refl _) _).alloc (by simp) _).alloc (by simp; omega) _).trans (b1.mono (by simp; omega)))
  have X1 : Bx w1 w.heap.size [.int .i64 D.sl, .int .i64 D.sv, .int .i64 D.nc, .string D.k, .bool D.t, .slice ra D.S.length cap, .int .i64 D.nx] := (((Bx.new w _ _).alloc _).alloc _).below b1
  have R1 : Bx w1 (w.heap.size + 1) [.int .i64 0, .int .i64 0, .int .i64 0, .string ⟨#[]⟩, .bool false, .slice none 0 0, .int .i64 0] := ((Bx.newAt (w.alloc _) _ _ _ (by simp)).alloc _).below b1
  have O1 : Bx w1 (w.heap.size + 1 + 1) [.int .i64 0, .int .i64 0, .int .i64 0, .string ⟨#[]⟩, .bool false, .slice none 0 0, .int .i64 0] := (Bx.newAt ((w.alloc _).alloc _) _ _ _ (by simp)).below b1
  have HX := hide X1
  have HR := hide R1
  have HO := hide O1
  have x1 := X1.cv
  have o1 := O1.cv
  have o2 := O1.fz
  clear b1 X1 R1 O1
  go_wp2_with fail
  clear x1 o1 o2
  refine (unhide HS _ ?_).mono ?_
  · iterate 5 refine Below.setCell ?_ (by simp; omega) _
    exact unhide B1
  rintro e w2 ⟨rfl, hA2, b2⟩
  have hA3 : Ao w.heap.size w2 w1.heap.size D.S := by simpa using hA2.mono (show w.heap.size ≤ _ by simp; omega)
  have B2 : Below w.heap.size w w2 := by
    refine Below.trans ?_ (b2.mono (by simp; omega))
    iterate 5 refine Below.setCell ?_ (by simp; omega) _
    exact unhide B1
  have HA := hide (And.intro hA3 B2)
  have s2 : w1.heap.size ≤ w2.heap.size := by have := b2.size; simp at this; omega
  have X2 : Bx w2 w.heap.size [.int .i64 D.sl, .int .i64 D.sv, .int .i64 D.nc, .string D.k, .bool D.t, .slice ra D.S.length cap, .int .i64 D.nx] := by
    refine Bx.below ?_ b2
    iterate 5 refine Bx.other ?_ (by omega)
    exact unhide HX
  have R2 : Bx w2 (w.heap.size + 1) [.int .i64 0, .int .i64 0, .int .i64 0, .string ⟨#[]⟩, .bool false, .slice none 0 0, .int .i64 0] := by
    refine Bx.below ?_ b2
    iterate 5 refine Bx.other ?_ (by omega)
    exact unhide HR
  have O2 : Bx w2 (w.heap.size + 1 + 1) [.int .i64 D.sl, .int .i64 D.sv, .int .i64 D.nc, .string D.k, .bool D.t, .slice none 0 0, .int .i64 0] :=
    Bx.below ((((((unhide HO).set (i := 0) (by simp)).set (i := 1) (by simp)).set (i := 2) (by simp)).set (i := 3) (by simp)).set (i := 4) (by simp)) b2
  have x2 := X2.cv
  have o2 := O2.cv
  have o3 := O2.fz
  have r2 := R2.cv
  have r3 := R2.fz
  clear hA2 hA3 B2 b2 B1 HX HR HO X2 R2 O2
  go_wp2
  refine bodyPost_ret (v := ev D (some ⟨w1.heap.size, 0, none⟩) D.S.length) (by simp [results, Try.results85, go_sem, r2]) rfl ⟨w1.heap.size, rfl, ?_, ?_⟩
  · have h9 := (unhide HA).1
    refine ⟨h9.ge, h9.al.move (by simp) (fun j => ?_), fun o => by simpa using h9.fz o⟩
    iterate 9 refine (set_blk (by omega)).trans ?_
    rfl
  · iterate 9 refine Below.setCell ?_ (by simp <;> omega) _
    exact (unhide HA).2
/-- entries of the call's own, that may be written: row g; the servers of entry i in row B i -/
structure Eo (base : Nat) (w : World) (g : Nat) (B : Nat → Nat) (L : List EnD) : Prop where
  ge : base ≤ g
  lt : g < w.heap.size
  fz : ∀ o, w.frozen? ⟨g, o, none⟩ = false
  en : ∀ i, i < L.length → ∃ ra cap, Ce w g (i * 7) (eA L i) (.slice ra (eA L i).S.length cap) ∧ (eA L i).S.length ≤ cap ∧ ((eA L i).S = [] ∨ ra = some ⟨B i, 0, none⟩ ∧ B i ≠ g ∧ Ao base w (B i) (eA L i).S)
  ne : ∀ i j, i < j → j < L.length → (eA L i).S ≠ [] → (eA L j).S ≠ [] → B i ≠ B j
theorem Eo.below {base : Nat} {w w' : World} {g : Nat} {B : Nat → Nat} {L : List EnD} (h : Eo base w g B L) (hb : Below w.heap.size w w') : Eo base w' g B L := by
  refine ⟨h.ge, Nat.lt_of_lt_of_le h.lt hb.size, fun o => (hb.frozen (p := ⟨g, o, none⟩) h.lt).trans (h.fz o), fun i hi => ?_, h.ne⟩
  obtain ⟨ra, cap, h1, h3, h2⟩ := h.en i hi
  exact ⟨ra, cap, h1.below hb, h3, h2.imp id fun ⟨a, b, c⟩ => ⟨a, b, c.below hb⟩⟩
theorem Eo.mono {base base' : Nat} {w : World} {g : Nat} {B : Nat → Nat} {L : List EnD} (h : Eo base w g B L) (hb : base' ≤ base) : Eo base' w g B L := by
  refine ⟨Nat.le_trans hb h.ge, h.lt, h.fz, fun i hi => ?_, h.ne⟩
  obtain ⟨ra, cap, h1, h3, h2⟩ := h.en i hi
  exact ⟨ra, cap, h1, h3, h2.imp id fun ⟨a, b, c⟩ => ⟨a, b, c.mono hb⟩⟩
/-- all that stands from base on is as it was -/
theorem Eo.kept {base : Nat} {w w' : World} {g : Nat} {B : Nat → Nat} {L : List EnD} (h : Eo base w g B L) (hs : w.heap.size ≤ w'.heap.size) (e : ∀ k, base ≤ k → k < w.heap.size → w'.heap[k]? = w.heap[k]?) : Eo base w' g B L := by
  have eg := e g h.ge h.lt
  refine ⟨h.ge, Nat.lt_of_lt_of_le h.lt hs, fun o => (World.frozen?_of_block (a := ⟨g, o, none⟩) eg).trans (h.fz o), fun i hi => ?_, h.ne⟩
  obtain ⟨ra, cap, h1, h3, h2⟩ := h.en i hi
  refine ⟨ra, cap, h1.move (fun j _ => World.cell?_of_block (a := ⟨g, i * 7 + j, none⟩) eg), h3, h2.imp id fun ⟨a, b, c⟩ => ⟨a, b, ?_⟩⟩
  have eb := e (B i) c.ge c.al.lt
  exact ⟨c.ge, c.al.move hs (fun j => World.cell?_of_block (a := ⟨B i, j, none⟩) eb), fun o => (World.frozen?_of_block (a := ⟨B i, o, none⟩) eb).trans (c.fz o)⟩
theorem Eo.setLow {base : Nat} {w : World} {g : Nat} {B : Nat → Nat} {L : List EnD} (h : Eo base w g B L) {c i : Nat} {u : Value} (hc : c < base) : Eo base (w.setCell ⟨c, i, none⟩ u) g B L :=
  h.kept (by simp) fun k hk _ => Below.heap_setCell w ⟨c, i, none⟩ u k (by show k ≠ c; omega)
/-- a slice of entries of the call's own -/
def En (base : Nat) (w : World) (a : Option Addr) (L : List EnD) : Prop := L = [] ∨ ∃ g B, a = some ⟨g, 0, none⟩ ∧ Eo base w g B L
theorem En.below {base : Nat} {w w' : World} {a : Option Addr} {L : List EnD} (h : En base w a L) (hb : Below w.heap.size w w') : En base w' a L :=
  h.imp id fun ⟨g, B, e, h⟩ => ⟨g, B, e, h.below hb⟩
theorem En.mono {base base' : Nat} {w : World} {a : Option Addr} {L : List EnD} (h : En base w a L) (hb : base' ≤ base) : En base' w a L :=
  h.imp id fun ⟨g, B, e, h⟩ => ⟨g, B, e, h.mono hb⟩
theorem En.setLow {base : Nat} {w : World} {a : Option Addr} {L : List EnD} (h : En base w a L) {c i : Nat} {u : Value} (hc : c < base) : En base (w.setCell ⟨c, i, none⟩ u) a L :=
  h.imp id fun ⟨g, B, e, h⟩ => ⟨g, B, e, h.setLow hc⟩
theorem En.ea {base : Nat} {w : World} {a : Option Addr} {L : List EnD} (h : En base w a L) : Ea w a L := by
  rcases h with h | ⟨g, B, e, h⟩
  · exact Or.inl h
  · refine Or.inr ⟨g, 0, e, fun i hi => ?_⟩
    obtain ⟨ra, cap, h1, h3, h2⟩ := h.en i hi
    refine ⟨ra, cap, by rw [Nat.zero_add]; exact h1, h3, ?_⟩
    rcases h2 with h2 | ⟨e2, _, h2⟩
    · exact Or.inl h2
    · exact Or.inr ⟨B i, 0, e2, h2.al⟩
/-- entries in the making: k are laid -/
structure Em (w wr : World) (B : Nat → Nat) (L : List EnD) (k : Nat) : Prop where
  bel : Below w.heap.size w wr
  lt : w.heap.size < wr.heap.size
  el : ∀ j, j < k → Ce wr w.heap.size (j * 7) (eA L j) (.slice (some ⟨B j, 0, none⟩) (eA L j).S.length (eA L j).S.length) ∧ w.heap.size < B j ∧ Ao w.heap.size wr (B j) (eA L j).S
  ne : ∀ i j, i < j → j < k → B i < B j
  rm : ∀ o, o < L.length * 7 → (wr.cell? ⟨w.heap.size, o, none⟩).isSome = true
  fz : ∀ o, wr.frozen? ⟨w.heap.size, o, none⟩ = false
theorem Em.below {w wr w1 : World} {B : Nat → Nat} {L : List EnD} {k : Nat} (h : Em w wr B L k) (hb : Below wr.heap.size wr w1) : Em w w1 B L k := by
  refine ⟨h.bel.trans (hb.mono h.bel.size), Nat.lt_of_lt_of_le h.lt hb.size, fun j hj => ?_, h.ne, fun o ho => ?_, fun o => (hb.frozen (p := ⟨w.heap.size, o, none⟩) h.lt).trans (h.fz o)⟩
  · obtain ⟨h1, h2, h3⟩ := h.el j hj
    exact ⟨h1.below hb, h2, h3.below hb⟩
  · rw [hb.cell (p := ⟨w.heap.size, o, none⟩) h.lt]; exact h.rm o ho
theorem Ao.set {base : Nat} {w : World} {g : Nat} {L : List AlD} (h : Ao base w g L) {b o : Nat} {v0 v1 v2 v3 v4 v5 v6 : Value} (hne : b ≠ g) : Ao base (put7 w b o v0 v1 v2 v3 v4 v5 v6) g L :=
  ⟨h.ge, h.al.move (by rw [put7_size]; exact Nat.le_refl _) (fun j => put7_blk hne), fun o => by rw [put7_frozen]; exact h.fz o⟩
theorem Em.step {w wr : World} {B : Nat → Nat} {L : List EnD} {k g : Nat} (h : Em w wr B L k) (hk : k < L.length) (hlt : ∀ j, j < k → B j < g) (hg : w.heap.size < g) (hr : Ao w.heap.size wr g (eA L k).S) :
    Em w (put7 wr w.heap.size (k * 7) (.int .i64 (eA L k).sl) (.int .i64 (eA L k).sv) (.int .i64 (eA L k).nc) (.string (eA L k).k) (.bool (eA L k).t) (.slice (some ⟨g, 0, none⟩) (eA L k).S.length (eA L k).S.length) (.int .i64 (eA L k).nx)) (fun i => if i = k then g else B i) L (k + 1) := by
  refine ⟨put7_below h.bel (Nat.le_refl _), by rw [put7_size]; exact h.lt, fun j hj => ?_, fun i j hij hj => ?_, fun o ho => put7_isSome (h.rm o ho), fun o => by rw [put7_frozen]; exact h.fz o⟩
  · by_cases e : j = k
    · subst e
      simp only [if_pos]
      exact ⟨put7_at (fun i hi => h.rm _ (by omega)), hg, hr.set (by omega)⟩
    · obtain ⟨h1, h2, h3⟩ := h.el j (by omega)
      rw [if_neg e]
      exact ⟨h1.move (fun i hi => put7_off (by omega)), h2, h3.set (by omega)⟩
  · by_cases e : j = k
    · subst e
      rw [if_neg (by omega), if_pos rfl]
      exact hlt i (by omega)
    · rw [if_neg (by omega), if_neg e]
      exact h.ne i j hij (by omega)
theorem Em.eo {w w' : World} {B : Nat → Nat} {L : List EnD} (h : Em w w' B L L.length) : Eo w.heap.size w' w.heap.size B L := by
  refine ⟨Nat.le_refl _, h.lt, h.fz, fun i hi => ?_, fun i j hij hj _ _ => Nat.ne_of_lt (h.ne i j hij hj)⟩
  obtain ⟨h1, h2, h3⟩ := h.el i hi
  exact ⟨_, _, h1, Nat.le_refl _, Or.inr ⟨rfl, by omega, h3⟩⟩
set_option maxHeartbeats 1000000 in
theorem toEns (a : Option Addr) (cap : Nat) (L : List EnD) (w : World) (hN : L.length ≤ 1048576) (hG : ∀ i, i < L.length → (eA L i).S.length ≤ 1048576) (h : Ea w a L) :
    Calls Try.prog 59 #[.slice a L.length cap] w fun e w' => e = .returned (.slice (some ⟨w.heap.size, 0, none⟩) L.length L.length) ∧ (∃ B, Eo w.heap.size w' w.heap.size B L) ∧ Below w.heap.size w w' := by
  obtain ⟨i0, hi, hz0, hz1, hz2⟩ := info_parts Try.infoEn
  obtain ⟨w1, hmk, hown, hgr⟩ := run_make_full (P := Try.prog) w w.heap.size 31 126 i0 _ 7 Try.underlying31 hi hz0 hz1 .i64 .i64 L.length (by rw [hz2]; omega) (by unfold maxLen; omega) (Nat.le_refl _)
  have HM : Hid (Em w w1 (fun _ => 0) L 0) := by
    refine ⟨(Below.refl _ _).grown hgr (Nat.le_refl _) (fun k hk => by cases hk), (hown.lt w.heap.size rfl).2, fun j hj => by omega, fun i j _ hj => by omega, fun o ho => ?_, fun o => hown.frozenAt o⟩
    rw [hown.cellAt o (by omega)]; simp [madeCells]; omega
  clear hown hgr hi hz0 hz1 hz2
  have HR := hide h
  have HN := hide hG
  clear h hG
  go_enter Try.func59, Try.ntmps59
  go_wp2
  go_loopw [4] (fun i wr => ∃ (k : Nat) (B : Nat → Nat), k ≤ L.length ∧ i = .int .i64 k ∧ (∀ j, j < k → B j < wr.heap.size) ∧ Em w wr B L k) (fun i _ => L.length - (intOf i).toNat)
  case atStart => exact ⟨0, fun _ => 0, Nat.zero_le _, rfl, fun j hj => by omega, unhide HM⟩
  case round =>
    obtain ⟨k, B, hk, rfl, hbl, hmr⟩ := hrel
    by_cases hlt : k < L.length
    · rcases (unhide HR).below hmr.bel with h0 | ⟨b, off, rfl, hel⟩
      · rw [h0] at hlt; exact absurd hlt (Nat.not_lt_zero _)
      obtain ⟨ra, cp, hc, hcp, hra⟩ := hel k hlt
      have HA := hide hra
      have HB := hide hbl
      clear hra hel hbl
      obtain ⟨c0, c1, c2, c3, c4, c5, c6⟩ := hc
      go_wp2_with (go_at_call 85; refine (toEn (eA L k) ra cp _ (unhide HN k hlt) (unhide HA)).mono ?_; rintro e w2 ⟨g, rfl, hr2, hb2⟩; have hm2 := hmr.below hb2; have hgl : w.heap.size < g := Nat.lt_of_lt_of_le hmr.lt hr2.ge; obtain ⟨v0, e0⟩ := Option.isSome_iff_exists.1 (hm2.rm (k * 7) (by omega)); obtain ⟨v1, e1⟩ := Option.isSome_iff_exists.1 (hm2.rm (k * 7 + 1) (by omega)); obtain ⟨v2, e2⟩ := Option.isSome_iff_exists.1 (hm2.rm (k * 7 + 2) (by omega)); obtain ⟨v3, e3⟩ := Option.isSome_iff_exists.1 (hm2.rm (k * 7 + 3) (by omega)); obtain ⟨v4, e4⟩ := Option.isSome_iff_exists.1 (hm2.rm (k * 7 + 4) (by omega)); obtain ⟨v5, e5⟩ := Option.isSome_iff_exists.1 (hm2.rm (k * 7 + 5) (by omega)); obtain ⟨v6, e6⟩ := Option.isSome_iff_exists.1 (hm2.rm (k * 7 + 6) (by omega)); have f0 := hm2.fz (k * 7); have f1 := hm2.fz (k * 7 + 1); have f2 := hm2.fz (k * 7 + 2); have f3 := hm2.fz (k * 7 + 3); have f4 := hm2.fz (k * 7 + 4); have f5 := hm2.fz (k * 7 + 5); have f6 := hm2.fz (k * 7 + 6))
      refine ⟨⟨k + 1, fun i => if i = k then g else B i, by omega, by go_num, fun j hj => ?_, hm2.step hlt (fun j hj => Nat.lt_of_lt_of_le (unhide HB j hj) hr2.ge) hgl (hr2.mono hmr.bel.size)⟩, by simp [intOf]; omega⟩
      show (if j = k then g else B j) < (put7 w2 _ _ _ _ _ _ _ _ _).heap.size
      rw [put7_size]
      by_cases e : j = k
      · rw [if_pos e]; exact hr2.al.lt
      · rw [if_neg e]; exact Nat.lt_of_lt_of_le (unhide HB j (by omega)) hb2.size
    · obtain rfl : k = L.length := by omega
      have HA := hide hmr
      clear hmr hbl
      go_wp2
      go_ret
      exact ⟨rfl, ⟨B, (unhide HA).eo⟩, (unhide HA).bel⟩
set_option maxHeartbeats 1000000 in
theorem toTb (a : Option Addr) (cap : Nat) (L : List EnD) (w : World) (hN : L.length ≤ 1048576) (hG : ∀ i, i < L.length → (eA L i).S.length ≤ 1048576) (h : Ea w a L) :
    Calls Try.prog 28 #[.agg #[.slice a L.length cap]] w fun e w' => ∃ g B, e = .returned (.agg #[.slice (some ⟨g, 0, none⟩) L.length L.length]) ∧ Eo w.heap.size w' g B L ∧ Below w.heap.size w w' := by
  have HS := hide (fun W (b : Below w.heap.size w W) => toEns a cap L W hN hG (h.below b))
  clear h hG
  go_enter Try.func28, Try.ntmps28
  go_wp2_with fail
  refine (unhide HS _ ((((Below.refl w.heap.size w).alloc (Nat.le_refl _) _).alloc (by simp) _).alloc (by simp; omega) _)).mono ?_
  rintro e w1 ⟨rfl, ⟨B, hE⟩, b1⟩
  have B1 := hide (((((Below.refl w.heap.size w).alloc (Nat.le_refl _) _).alloc (by simp) _).alloc (by simp; omega) _).trans (b1.mono (by simp; omega)))
  have HE : Hid (Eo (w.heap.size + 1 + 1 + 1) w1 (w.heap.size + 1 + 1 + 1) B L) := hide (by simpa using hE)
  have R1 : Bx w1 (w.heap.size + 1) [.slice none 0 0] := ((Bx.newAt (w.alloc _) _ _ _ (by simp)).alloc _).below b1
  have O1 : Bx w1 (w.heap.size + 1 + 1) [.slice none 0 0] := (Bx.newAt ((w.alloc _).alloc _) _ _ _ (by simp)).below b1
  have r1 := R1.cv
  have r2 := R1.fz
  have o1 := O1.cv
  have o2 := O1.fz
  clear hE b1 R1 O1
  go_wp2
  refine bodyPost_ret (v := .agg #[.slice (some ⟨w.heap.size + 1 + 1 + 1, 0, none⟩) L.length L.length]) (by simp [results, Try.results28, go_sem, r1]) rfl ⟨w.heap.size + 1 + 1 + 1, B, rfl, ?_, ?_⟩
  · exact (((unhide HE).setLow (by omega)).setLow (by omega)).mono (by omega)
  · iterate 2 refine Below.setCell ?_ (by simp <;> omega) _
    exact unhide B1

/-! ### held against each other -/
theorem eqCf (sl sv nc : Int) (k : ByteArray) (t : Bool) (w : World) :
    Calls Try.prog 107 #[kv sl sv nc k t, kv sl sv nc k t] w fun e w' => e = .returned (.bool true) ∧ Below w.heap.size w w' := by
  go_enter Try.func107, Try.ntmps107
  go_wp2
  go_ret
  exact ⟨rfl, ((Below.refl _ _).alloc (Nat.le_refl _) _).alloc (by simp) _⟩
theorem eqAl (D : AlD) (w : World) :
    Calls Try.prog 117 #[av D, av D] w fun e w' => e = .returned (.bool true) ∧ Below w.heap.size w w' := by
  go_enter Try.func117, Try.ntmps117
  go_wp2
  go_ret
  exact ⟨rfl, ((Below.refl _ _).alloc (Nat.le_refl _) _).alloc (by simp) _⟩
set_option maxHeartbeats 1000000 in
theorem eqAls (a a' : Option Addr) (cap cap' : Nat) (L : List AlD) (w : World) (hN : L.length ≤ 1048576) (h : Aa w a L) (h' : Aa w a' L) :
    Calls Try.prog 108 #[.slice a L.length cap, .slice a' L.length cap'] w fun e w' => e = .returned (.bool true) ∧ Below w.heap.size w w' := by
  have HR := hide h
  have HR' := hide h'
  clear h h'
  go_enter Try.func108, Try.ntmps108
  go_wp2
  go_loopw [5] (fun i wr => ∃ k : Nat, k ≤ L.length ∧ i = .int .i64 k ∧ Below w.heap.size w wr) (fun i _ => L.length - (intOf i).toNat)
  case atStart => exact ⟨0, Nat.zero_le _, rfl, Below.refl _ _⟩
  case round =>
    obtain ⟨k, hk, rfl, hbel⟩ := hrel
    by_cases hlt : k < L.length
    · rcases (unhide HR).below hbel with h0 | ⟨b, o, rfl, hel⟩
      · rw [h0] at hlt; exact absurd hlt (Nat.not_lt_zero _)
      rcases (unhide HR').below hbel with h0 | ⟨b', o', rfl, hel'⟩
      · rw [h0] at hlt; exact absurd hlt (Nat.not_lt_zero _)
      have c0 := hel.ci k hlt
      have c1 := hel.cb k hlt
      have d0 := hel'.ci k hlt
      have d1 := hel'.cb k hlt
      have HE := hide (eqAl (aA L k))
      clear hel hel'
      have hnk : (k : Int) < (L.length : Int) := by omega
      have hk0 : (0 : Int) ≤ (k : Int) := by omega
      go_wp2_with fail
      go_region_with (go_at_call 117; refine (unhide HE _).mono ?_; rintro e w2 ⟨rfl, hb2⟩)
      all_goals
        go_wp2
        exact ⟨⟨k + 1, by omega, by go_num, hbel.drew.trans (hb2.mono hbel.size)⟩, by simp [intOf]; omega⟩
    · go_wp2
      go_ret
      exact ⟨rfl, hbel⟩
set_option maxHeartbeats 1000000 in
theorem eqEn (D : EnD) (a a' : Option Addr) (cap cap' : Nat) (w : World) (hN : D.S.length ≤ 1048576) (h : Aa w a D.S) (h' : Aa w a' D.S) :
    Calls Try.prog 89 #[ev D a cap, ev D a' cap'] w fun e w' => e = .returned (.bool true) ∧ Below w.heap.size w w' := by
  have HC := hide (eqCf D.sl D.sv D.nc D.k D.t)
  have HA := hide (fun W (b : Below w.heap.size w W) => eqAls a a' cap cap' D.S W hN (h.below b) (h'.below b))
  clear h h'
  go_enter Try.func89, Try.ntmps89
  go_wp2_with fail
  refine (unhide HC _).mono ?_
  rintro e w1 ⟨rfl, b1⟩
  have X1 : Bx w1 w.heap.size [.int .i64 D.sl, .int .i64 D.sv, .int .i64 D.nc, .string D.k, .bool D.t, .slice a D.S.length cap, .int .i64 D.nx] := ((Bx.new w _ _).alloc _).below b1
  have Y1 : Bx w1 (w.heap.size + 1) [.int .i64 D.sl, .int .i64 D.sv, .int .i64 D.nc, .string D.k, .bool D.t, .slice a' D.S.length cap', .int .i64 D.nx] := (Bx.newAt (w.alloc _) _ _ _ (by simp)).below b1
  have B1 := hide ((((Below.refl w.heap.size w).alloc (Nat.le_refl _) _).alloc (by simp) _).trans (b1.mono (by simp; omega)))
  have x1 := X1.cv
  have y1 := Y1.cv
  have HX := hide X1
  have HY := hide Y1
  clear X1 Y1 b1
  go_wp2_with fail
  refine (unhide HA _ (unhide B1)).mono ?_
  rintro e w2 ⟨rfl, b2⟩
  have x2 := ((unhide HX).below b2).cv
  have y2 := ((unhide HY).below b2).cv
  clear x1 y1
  go_wp2
  go_ret
  exact ⟨rfl, (unhide B1).trans (b2.mono (unhide B1).size)⟩
set_option maxHeartbeats 1000000 in
theorem eqEns (a a' : Option Addr) (cap cap' : Nat) (L : List EnD) (w : World) (hN : L.length ≤ 1048576) (hG : ∀ i, i < L.length → (eA L i).S.length ≤ 1048576) (h : Ea w a L) (h' : Ea w a' L) :
    Calls Try.prog 65 #[.slice a L.length cap, .slice a' L.length cap'] w fun e w' => e = .returned (.bool true) ∧ Below w.heap.size w w' := by
  have HR := hide h
  have HR' := hide h'
  have HN := hide hG
  clear h h' hG
  go_enter Try.func65, Try.ntmps65
  go_wp2
  go_loopw [5] (fun i wr => ∃ k : Nat, k ≤ L.length ∧ i = .int .i64 k ∧ Below w.heap.size w wr) (fun i _ => L.length - (intOf i).toNat)
  case atStart => exact ⟨0, Nat.zero_le _, rfl, Below.refl _ _⟩
  case round =>
    obtain ⟨k, hk, rfl, hbel⟩ := hrel
    by_cases hlt : k < L.length
    · rcases (unhide HR).below hbel with h0 | ⟨b, o, rfl, hel⟩
      · rw [h0] at hlt; exact absurd hlt (Nat.not_lt_zero _)
      rcases (unhide HR').below hbel with h0 | ⟨b', o', rfl, hel'⟩
      · rw [h0] at hlt; exact absurd hlt (Nat.not_lt_zero _)
      obtain ⟨ra, cp, hc, hcp, hra⟩ := hel k hlt
      obtain ⟨ra', cp', hc', hcp', hra'⟩ := hel' k hlt
      have HE := hide (eqEn (eA L k) ra ra' cp cp' wr.drew (unhide HN k hlt) (hra.below (Below.refl _ _).drew) (hra'.below (Below.refl _ _).drew))
      clear hel hel' hra hra'
      obtain ⟨c0, c1, c2, c3, c4, c5, c6⟩ := hc
      obtain ⟨d0, d1, d2, d3, d4, d5, d6⟩ := hc'
      have hnk : (k : Int) < (L.length : Int) := by omega
      have hk0 : (0 : Int) ≤ (k : Int) := by omega
      go_wp2_with fail
      go_region_with (go_at_call 89; refine (unhide HE).mono ?_; rintro e w2 ⟨rfl, hb2⟩)
      all_goals
        go_wp2
        exact ⟨⟨k + 1, by omega, by go_num, hbel.drew.trans (hb2.mono hbel.size)⟩, by simp [intOf]; omega⟩
    · go_wp2
      go_ret
      exact ⟨rfl, hbel⟩
set_option maxHeartbeats 1000000 in
theorem eqTb (a a' : Option Addr) (cap cap' : Nat) (L : List EnD) (w : World) (hN : L.length ≤ 1048576) (hG : ∀ i, i < L.length → (eA L i).S.length ≤ 1048576) (h : Ea w a L) (h' : Ea w a' L) :
    Calls Try.prog 33 #[.agg #[.slice a L.length cap], .agg #[.slice a' L.length cap']] w fun e w' => e = .returned (.bool true) ∧ Below w.heap.size w w' := by
  have HA := hide (fun W (b : Below w.heap.size w W) => eqEns a a' cap cap' L W hN hG (h.below b) (h'.below b))
  clear h h' hG
  go_enter Try.func33, Try.ntmps33
  go_wp2_with fail
  refine (unhide HA _ (((Below.refl w.heap.size w).alloc (Nat.le_refl _) _).alloc (by simp) _)).mono ?_
  rintro e w1 ⟨rfl, b1⟩
  go_wp2
  go_ret
  exact ⟨rfl, (((Below.refl w.heap.size w).alloc (Nat.le_refl _) _).alloc (by simp) _).trans (b1.mono (by simp; omega))⟩
end Go.Proofs.Ytbabipaipbjlbaa
