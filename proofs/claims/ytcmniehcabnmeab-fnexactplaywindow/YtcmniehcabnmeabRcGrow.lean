/-
  Rows of impl.Grow: read, copied by the laws, weighed, held against each other, marked.
-/
import Derived.Test.YtcmniehcabnmeabRcs
import Derived.Deep.QuietTactic
import Derived.Deep.RegionWith
import Derived.BigQuiet
namespace Go.Proofs.Ytcmniehcabnmeab.Rc
open Go.ChangeShapes Go.WideShapes Go.ChangeAt Go.RowKit Go.Deep
set_option linter.unusedVariables false
set_option maxRecDepth 100000

/-- a record -/
structure GrowD where
  f0 : Int
  f1 : Int
  f2 : Int
  f3 : Int
/-- its cells -/
abbrev growC (D : GrowD) : List Value := [.int .i64 D.f0, .int .i64 D.f1, .int .i64 D.f2, .int .i64 D.f3]
/-- as a value -/
abbrev growV (D : GrowD) : Value := .agg #[.int .i64 D.f0, .int .i64 D.f1, .int .i64 D.f2, .int .i64 D.f3]
/-- how it lies in cells -/
def growK : Kd GrowD := ⟨fun D => [.int .i64 D.f0, .int .i64 D.f1, .int .i64 D.f2, .int .i64 D.f3], 4, ⟨0, 0, 0, 0⟩, fun _ => rfl, by decide, fun x u hu => by
  simp at hu
  rcases hu with rfl | rfl | rfl | rfl <;> rfl⟩

theorem grow_c0 (L : List GrowD) (k : Nat) : cl growK L (k * 4) = .int .i64 (gt growK L k).f0 := cl_at growK L k 0 (by decide)
theorem grow_c1 (L : List GrowD) (k : Nat) : cl growK L (k * 4 + 1) = .int .i64 (gt growK L k).f1 := cl_at growK L k 1 (by decide)
theorem grow_c2 (L : List GrowD) (k : Nat) : cl growK L (k * 4 + 2) = .int .i64 (gt growK L k).f2 := cl_at growK L k 2 (by decide)
theorem grow_c3 (L : List GrowD) (k : Nat) : cl growK L (k * 4 + 3) = .int .i64 (gt growK L k).f3 := cl_at growK L k 3 (by decide)
theorem grow_r0 {w : World} {b o k : Nat} {L : List GrowD} (h : ∀ q, q < L.length * growK.m → w.cell? ⟨b, o + q, none⟩ = some (cl growK L q)) (hk : k < L.length) : w.cell? ⟨b, o + k * 4, none⟩ = some (.int .i64 (gt growK L k).f0) := by
  have h1 := h (k * 4) (kq_at growK (j := 0) hk (by decide))
  rw [grow_c0] at h1
  exact h1
theorem grow_r1 {w : World} {b o k : Nat} {L : List GrowD} (h : ∀ q, q < L.length * growK.m → w.cell? ⟨b, o + q, none⟩ = some (cl growK L q)) (hk : k < L.length) : w.cell? ⟨b, o + k * 4 + 1, none⟩ = some (.int .i64 (gt growK L k).f1) := by
  have h1 := h (k * 4 + 1) (kq_at growK (j := 1) hk (by decide))
  rw [grow_c1, ← Nat.add_assoc] at h1
  exact h1
theorem grow_r2 {w : World} {b o k : Nat} {L : List GrowD} (h : ∀ q, q < L.length * growK.m → w.cell? ⟨b, o + q, none⟩ = some (cl growK L q)) (hk : k < L.length) : w.cell? ⟨b, o + k * 4 + 2, none⟩ = some (.int .i64 (gt growK L k).f2) := by
  have h1 := h (k * 4 + 2) (kq_at growK (j := 2) hk (by decide))
  rw [grow_c2, ← Nat.add_assoc] at h1
  exact h1
theorem grow_r3 {w : World} {b o k : Nat} {L : List GrowD} (h : ∀ q, q < L.length * growK.m → w.cell? ⟨b, o + q, none⟩ = some (cl growK L q)) (hk : k < L.length) : w.cell? ⟨b, o + k * 4 + 3, none⟩ = some (.int .i64 (gt growK L k).f3) := by
  have h1 := h (k * 4 + 3) (kq_at growK (j := 3) hk (by decide))
  rw [grow_c3, ← Nat.add_assoc] at h1
  exact h1
theorem Try.infoGrow : (Try.prog.info? 45).map (fun i => (i.zero, i.size, i.bytes)) = some (some (.agg #[.int .i64 0, .int .i64 0, .int .i64 0, .int .i64 0]), 4, 32) := by kernel_rfl
/-- one more is put behind -/
theorem pushGrow (w : World) (base : Nat) (v : Value) (L : List GrowD) (D : GrowD) (hown : Ro growK 45 base w v L) (hb : L.length ≤ 1048576) (hbase : base ≤ w.heap.size) :
    ∃ v' w', (Builtin.append_ #[34, 34] 34 #[v, .slice (some ⟨w.heap.size, 0, none⟩) 1 1]).run Try.prog (w.alloc (.cells #[.int .i64 D.f0, .int .i64 D.f1, .int .i64 D.f2, .int .i64 D.f3] 45)) = .ok v' w' ∧ Ro growK 45 base w' v' (L ++ [D]) ∧ Below base w w' ∧ ∀ q, q < w.heap.size → (∀ g, v.ownBlock = some g → q ≠ g) → w'.heap[q]? = w.heap[q]? := by
  obtain ⟨i0, hi, hz0, hz1, hz2⟩ := info_parts Try.infoGrow
  have hA := (Below.refl w.heap.size w).alloc (Nat.le_refl _) (.cells #[.int .i64 D.f0, .int .i64 D.f1, .int .i64 D.f2, .int .i64 D.f3] 45)
  obtain ⟨v', w', h1, h2, h3, _, h5⟩ := app growK (w.alloc (.cells #[.int .i64 D.f0, .int .i64 D.f1, .int .i64 D.f2, .int .i64 D.f3] 45)) 34 34 45 base i0 _ 32 Try.underlying34 hi hz0 hz1 hz2 rfl (by decide) v L (hown.below hA) (some ⟨w.heap.size, 0, none⟩) 1 [D] (Or.inr ⟨_, rfl, fun j u hu => by
    have e : ([D] : List GrowD).flatMap growK.f = growC D := by simp [growK]
    rw [e] at hu
    rw [add_none, Nat.zero_add]
    have := (Bx.new w (growC D) 45).cv j
    exact this.trans hu⟩) (by simp; omega) (by simp; omega)
  exact ⟨v', w', h1, h2, (hA.mono hbase).trans h3, fun q hq hn => (h5.block q (by simp; omega) (fun e => hn q e.symm rfl)).trans (hA.block q hq)⟩

/-- a row of none, and all of a row put behind it -/
theorem lit0Grow (w : World) (base : Nat) (hb : base ≤ w.heap.size) : Ro growK 45 base (w.alloc (.cells #[] 45)) (.slice (some ⟨w.heap.size, 0, none⟩) 0 0) [] :=
  World.ownsRow_lit (base := base) (e := 45) (size := 4) w #[] 0 hb (by unfold maxLen; omega) rfl
theorem joinGrow (w : World) (base : Nat) (v : Value) (L M : List GrowD) (a : Option Addr) (c : Nat) (hown : Ro growK 45 base w v L) (h : Rd growK w a M) (hb : L.length + M.length ≤ 2097152) (hbase : base ≤ w.heap.size) :
    ∃ v' w', (Builtin.append_ #[34, 34] 34 #[v, .slice a M.length c]).run Try.prog w = .ok v' w' ∧ Ro growK 45 base w' v' (L ++ M) ∧ Below base w w' ∧ ∀ q, q < w.heap.size → (∀ g, v.ownBlock = some g → q ≠ g) → w'.heap[q]? = w.heap[q]? := by
  obtain ⟨i0, hi, hz0, hz1, hz2⟩ := info_parts Try.infoGrow
  obtain ⟨v', w', h1, h2, h3, _, h5⟩ := app growK w 34 34 45 base i0 _ 32 Try.underlying34 hi hz0 hz1 hz2 rfl (by decide) v L hown a c M h.sc hb hbase
  exact ⟨v', w', h1, h2, h3, fun q hq hn => h5.block q hq (fun e => hn q e.symm rfl)⟩

/-- one more is put behind, out of a row of one that lies there -/
theorem pushAtGrow (w : World) (base : Nat) (v : Value) (L : List GrowD) (D : GrowD) (g : Nat) (hg : Bx w g (growC D)) (hown : Ro growK 45 base w v L) (hb : L.length ≤ 1048576) (hbase : base ≤ w.heap.size) :
    ∃ v' w', (Builtin.append_ #[34, 34] 34 #[v, .slice (some ⟨g, 0, none⟩) 1 1]).run Try.prog w = .ok v' w' ∧ Ro growK 45 base w' v' (L ++ [D]) ∧ Below base w w' ∧ ∀ q, q < w.heap.size → (∀ g, v.ownBlock = some g → q ≠ g) → w'.heap[q]? = w.heap[q]? := by
  obtain ⟨i0, hi, hz0, hz1, hz2⟩ := info_parts Try.infoGrow
  obtain ⟨v', w', h1, h2, h3, _, h5⟩ := app growK w 34 34 45 base i0 _ 32 Try.underlying34 hi hz0 hz1 hz2 rfl (by decide) v L hown (some ⟨g, 0, none⟩) 1 [D] (Or.inr ⟨_, rfl, fun j u hu => by
    have e : ([D] : List GrowD).flatMap growK.f = growC D := by simp [growK]
    rw [e] at hu
    rw [add_none, Nat.zero_add]
    exact (hg.cv j).trans hu⟩) (by simp; omega) hbase
  exact ⟨v', w', h1, h2, h3, fun q hq hn => h5.block q hq (fun e => hn q e.symm rfl)⟩

set_option maxHeartbeats 1000000 in
theorem toGrow_any (D : GrowD) (w : World) : Calls Try.prog 22 #[growV D] w fun e w' => e = .returned (growV D) ∧ Below w.heap.size w w' := by
  go_enter Try.func22, Try.ntmps22
  go_wp2
  refine bodyPost_ret (v := growV D) (by simp [results, Try.results22, go_sem]) rfl ⟨rfl, ?_⟩
  exact (((Below.refl _ _).alloc (Nat.le_refl _) _).alloc (by simp) _).alloc (by simp; omega) _
set_option maxHeartbeats 1000000 in
theorem toGrowS_any (a : Option Addr) (cap : Nat) (L : List GrowD) (w : World) (hN : L.length ≤ 1048576) (h : Rd growK w a L) :
    Calls Try.prog 10 #[.slice a L.length cap] w fun e w' => ∃ g, e = .returned (.slice (some ⟨g, 0, none⟩) L.length L.length) ∧ Ri growK w.heap.size w'.heap.size w' (some ⟨g, 0, none⟩) L ∧ Below w.heap.size w w' := by
  obtain ⟨i0, hi, hz0, hz1, hz2⟩ := info_parts Try.infoGrow
  obtain ⟨w1, hmk, hown, hgr⟩ := run_make_full (P := Try.prog) w w.heap.size 34 45 i0 _ 4 Try.underlying34 hi hz0 hz1 .i64 .i64 L.length (by rw [hz2]; omega) (by unfold maxLen; omega) (Nat.le_refl _)
  have HM : Hid (Mk growK w w1 L 0) := by
    refine ⟨(Below.refl _ _).grown hgr (Nat.le_refl _) (fun k hk => by cases hk), (hown.lt w.heap.size rfl).2, fun j hj => by omega, fun o ho => ?_, fun o => hown.frozenAt o⟩
    change o < L.length * 4 at ho
    rw [hown.cellAt o (by omega)]; simp [madeCells]; omega
  clear hown hgr hi hz0 hz1 hz2
  have HR := hide h
  clear h
  go_enter Try.func10, Try.ntmps10
  go_wp2
  go_loopw [4] (fun i wr => ∃ k : Nat, k ≤ L.length ∧ i = .int .i64 k ∧ Mk growK w wr L (k * 4)) (fun i _ => L.length - (intOf i).toNat)
  case atStart => exact ⟨0, Nat.zero_le _, rfl, by simpa using unhide HM⟩
  case round =>
    obtain ⟨k, hk, rfl, hmr⟩ := hrel
    by_cases hlt : k < L.length
    · rcases (unhide HR).below hmr.bel with h0 | ⟨b, off, rfl, _, hel⟩
      · rw [h0] at hlt; exact absurd hlt (Nat.not_lt_zero _)
      have c0 := grow_r0 hel hlt
      have c1 := grow_r1 hel hlt
      have c2 := grow_r2 hel hlt
      have c3 := grow_r3 hel hlt
      clear hel
      have HT := hide (toGrow_any (gt growK L k))
      have HM2 := hide hmr
      clear hmr HM
      go_wp2_with fail
      refine (unhide HT _).mono ?_
      rintro e w2 ⟨rfl, hb2⟩
      have hm2 := (unhide HM2).below hb2
      obtain ⟨v0, e0⟩ := Option.isSome_iff_exists.1 (hm2.rm (k * 4) (kq_at growK (j := 0) hlt (by decide)))
      have f0 := hm2.fz (k * 4)
      obtain ⟨v1, e1⟩ := Option.isSome_iff_exists.1 (hm2.rm (k * 4 + 1) (kq_at growK (j := 1) hlt (by decide)))
      have f1 := hm2.fz (k * 4 + 1)
      obtain ⟨v2, e2⟩ := Option.isSome_iff_exists.1 (hm2.rm (k * 4 + 2) (kq_at growK (j := 2) hlt (by decide)))
      have f2 := hm2.fz (k * 4 + 2)
      obtain ⟨v3, e3⟩ := Option.isSome_iff_exists.1 (hm2.rm (k * 4 + 3) (kq_at growK (j := 3) hlt (by decide)))
      have f3 := hm2.fz (k * 4 + 3)
      have hs2 := hm2.lt
      have M0 := hide hm2
      have M1 := hide ((unhide M0).step (kq_at growK (j := 0) hlt (by decide)) (.int .i64 (gt growK L k).f0) (grow_c0 L k))
      have M2 := hide ((unhide M1).step (kq_at growK (j := 1) hlt (by decide)) (.int .i64 (gt growK L k).f1) (grow_c1 L k))
      have M3 := hide ((unhide M2).step (kq_at growK (j := 2) hlt (by decide)) (.int .i64 (gt growK L k).f2) (grow_c2 L k))
      have M4 := hide ((unhide M3).step (kq_at growK (j := 3) hlt (by decide)) (.int .i64 (gt growK L k).f3) (grow_c3 L k))
      clear hm2 hb2
      go_wp2
      exact ⟨⟨k + 1, by omega, by go_num, by have h9 := unhide M4; rwa [show k * 4 + 1 + 1 + 1 + 1 = (k + 1) * 4 by omega] at h9⟩, by simp [intOf]; omega⟩
    · obtain rfl : k = L.length := by omega
      have HA := hide hmr
      clear hmr
      go_wp2
      go_ret
      exact ⟨_, rfl, (unhide HA).ri, (unhide HA).bel⟩
set_option maxHeartbeats 1000000 in
theorem eqGrow_same (D : GrowD) (w : World) :
    Calls Try.prog 26 #[growV D, growV D] w fun e w' => e = .returned (.bool true) ∧ Below w.heap.size w w' := by
  go_enter Try.func26, Try.ntmps26
  go_wp2
  go_ret
  exact ⟨rfl, ((Below.refl _ _).alloc (Nat.le_refl _) _).alloc (by simp) _⟩
set_option maxHeartbeats 1000000 in
theorem eqGrowS_same (a a' : Option Addr) (cap cap' : Nat) (L : List GrowD) (w : World) (hN : L.length ≤ 1048576) (h : Rd growK w a L) (h' : Rd growK w a' L) :
    Calls Try.prog 14 #[.slice a L.length cap, .slice a' L.length cap'] w fun e w' => e = .returned (.bool true) ∧ Below w.heap.size w w' := by
  have HR := hide h
  have HR' := hide h'
  clear h h'
  go_enter Try.func14, Try.ntmps14
  go_wp2
  go_loopw [5] (fun i wr => ∃ k : Nat, k ≤ L.length ∧ i = .int .i64 k ∧ Below w.heap.size w wr) (fun i _ => L.length - (intOf i).toNat)
  case atStart => exact ⟨0, Nat.zero_le _, rfl, Below.refl _ _⟩
  case round =>
    obtain ⟨k, hk, rfl, hbel⟩ := hrel
    by_cases hlt : k < L.length
    · rcases (unhide HR).below hbel with h0 | ⟨b, o, rfl, _, hel⟩
      · rw [h0] at hlt; exact absurd hlt (Nat.not_lt_zero _)
      rcases (unhide HR').below hbel with h0 | ⟨b', o', rfl, _, hel'⟩
      · rw [h0] at hlt; exact absurd hlt (Nat.not_lt_zero _)
      have c0 := grow_r0 hel hlt
      have c1 := grow_r1 hel hlt
      have c2 := grow_r2 hel hlt
      have c3 := grow_r3 hel hlt
      have d0 := grow_r0 hel' hlt
      have d1 := grow_r1 hel' hlt
      have d2 := grow_r2 hel' hlt
      have d3 := grow_r3 hel' hlt
      have HE := hide (eqGrow_same (gt growK L k))
      clear hel hel'
      have hnk : (k : Int) < (L.length : Int) := by omega
      have hk0 : (0 : Int) ≤ (k : Int) := by omega
      go_wp2_with fail
      go_region_with (go_at_call 26; refine (unhide HE _).mono ?_; rintro e w2 ⟨rfl, hb2⟩)
      all_goals
        go_wp2
        exact ⟨⟨k + 1, by omega, by go_num, hbel.drew.trans (hb2.mono hbel.size)⟩, by simp [intOf]; omega⟩
    · go_wp2
      go_ret
      exact ⟨rfl, hbel⟩
theorem szGrowS_any (a : Option Addr) (n cap left : Nat) (w : World) (hn : n ≤ maxLen) (hl : left ≤ 1048576) :
    Calls Try.prog 8 #[.slice a n cap, .int .i64 left] w fun e w' => szQ left n e ∧ w' = w := by
  unfold maxLen at hn
  by_cases h : n ≤ left
  · have e1 : IntKind.i64.wrap ((left : Int) - (n : Int)) = (left : Int) - (n : Int) := by rw [IntKind.wrap_i64]; omega
    have e2 : ¬ (left : Int) - (n : Int) < 0 := by omega
    have H3 := hide h
    clear h
    go_enter Try.func8, Try.ntmps8
    go_wp2
    go_ret
    exact ⟨Or.inr ⟨left - n, by rw [Int.ofNat_sub (unhide H3)]; rfl, by omega, unhide H3⟩, rfl⟩
  · have e1 : IntKind.i64.wrap ((left : Int) - (n : Int)) = (left : Int) - (n : Int) := by rw [IntKind.wrap_i64]; omega
    have e2 : (left : Int) - (n : Int) < 0 := by omega
    clear h
    go_enter Try.func8, Try.ntmps8
    go_wp2
    go_ret
    exact ⟨Or.inl rfl, rfl⟩
/-- the marks of a row, from k0 on -/
def growM (k0 o : Nat) : Value := .int .i64 ((k0 + o : Nat) : Int)
set_option maxHeartbeats 2000000 in
theorem markGrowS_any (lb ls : Nat) (a : Option Addr) (cap : Nat) (L : List GrowD) (k0 : Nat) (w : World) (hn : L.length ≤ 1048576) (hk0 : k0 ≤ 100000000) (h : Ri growK lb ls w a L) :
    Calls Try.prog 15 #[.slice a L.length cap, .int .i64 k0] w fun e w' => e = .returned (.int .i64 ((k0 + L.length * 4 : Nat) : Int)) ∧ Rm lb ls w' a (L.length * 4) (growM k0) ∧ Kq (fun q => lb ≤ q ∧ q < ls) w w' := by
  rcases h with rfl | ⟨g, rfl, hg, h⟩
  · go_enter Try.func15, Try.ntmps15
    go_wp2
    refine wp_loop_rounds 1 ?_
    rw [rounds_succ]
    go_wp2
    go_ret
    exact ⟨by simp, Or.inl (by simp), Kq.refl _ _⟩
  have H0 : Hid (Rg w g (L.length * 4) (up 0 (growM k0) (cl growK L))) := Rg.up0 h
  clear h
  go_enter Try.func15, Try.ntmps15
  go_wp2
  go_loopw [1, 5] (fun kv iv wr => ∃ i : Nat, i ≤ L.length ∧ iv = .int .i64 i ∧ kv = .int .i64 ((k0 + i * 4 : Nat) : Int) ∧ Rg wr g (L.length * 4) (up (i * 4) (growM k0) (cl growK L)) ∧ Kq (fun q => lb ≤ q ∧ q < ls) w wr) (fun _ iv _ => L.length - (intOf iv).toNat)
  case atStart => exact ⟨0, Nat.zero_le _, rfl, by simp, by simpa using unhide H0, Kq.refl _ _⟩
  case round =>
    obtain ⟨i, hi, rfl, rfl, hG, hK⟩ := hrel
    clear H0
    by_cases hlt : i < L.length
    · have hnk : (i : Int) < (L.length : Int) := by omega
      obtain ⟨kk, hkk⟩ : ∃ kk : Nat, kk = k0 + i * 4 := ⟨_, rfl⟩
      have hkb : kk ≤ 200000000 := by omega
      have c0 := hG.c (i * 4) (by omega)
      have f0 := hG.fz (i * 4)
      have c1 := hG.c (i * 4 + 1) (by omega)
      have f1 := hG.fz (i * 4 + 1)
      have c2 := hG.c (i * 4 + 2) (by omega)
      have f2 := hG.fz (i * 4 + 2)
      have c3 := hG.c (i * 4 + 3) (by omega)
      have f3 := hG.fz (i * 4 + 3)
      have hgl := hG.lt
      have G0 := hide hG
      have G1 := hide ((unhide G0).mark (c := i * 4) (by omega) (.int .i64 ((kk : Nat) : Int)) (by rw [hkk]; rfl))
      have G2 := hide ((unhide G1).mark (c := i * 4 + 1) (by omega) (.int .i64 ((kk + 1 : Nat) : Int)) (by rw [hkk]; rfl))
      have G3 := hide ((unhide G2).mark (c := i * 4 + 2) (by omega) (.int .i64 ((kk + 2 : Nat) : Int)) (by rw [hkk]; rfl))
      have G4 := hide ((unhide G3).mark (c := i * 4 + 3) (by omega) (.int .i64 ((kk + 3 : Nat) : Int)) (by rw [hkk]; rfl))
      have HG4 := hide (unhide G4)
      have HK := hide ((((hK.set (g := g) (i := i * 4) (u := .int .i64 ((kk : Nat) : Int)) hg).set (g := g) (i := i * 4 + 1) (u := .int .i64 ((kk + 1 : Nat) : Int)) hg).set (g := g) (i := i * 4 + 2) (u := .int .i64 ((kk + 2 : Nat) : Int)) hg).set (g := g) (i := i * 4 + 3) (u := .int .i64 ((kk + 3 : Nat) : Int)) hg)
      rw [← hkk]
      have HKK := hide hkk
      clear hkk hG hK G0 G1 G2 G3 G4
      go_wp2
      exact ⟨⟨i + 1, by omega, by go_num, by have := unhide HKK; go_num, by have h9 := unhide HG4; rw [show i * 4 + 1 + 1 + 1 + 1 = (i + 1) * 4 by omega] at h9; exact h9, unhide HK⟩, by simp [intOf]; omega⟩
    · obtain rfl : i = L.length := by omega
      have F := hide (And.intro hG.all hK)
      clear hG hK
      go_wp2
      go_ret
      exact ⟨rfl, Or.inr ⟨g, rfl, hg, (unhide F).1⟩, (unhide F).2⟩
end Go.Proofs.Ytcmniehcabnmeab.Rc
