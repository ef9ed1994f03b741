/-
  Rows of impl.Range: read, copied by the laws, weighed, held against each other, marked.
-/
import Derived.Test.YtenfjcdkabeilaaRcs
import Derived.Deep.QuietTactic
import Derived.Deep.RegionWith
import Derived.BigQuiet
namespace Go.Proofs.Ytenfjcdkabeilaa.Rc
open Go.ChangeShapes Go.WideShapes Go.ChangeAt Go.RowKit Go.Deep
set_option linter.unusedVariables false
set_option maxRecDepth 100000

/-- a record -/
structure RangeD where
  f0 : Int
  f1 : Int
/-- its cells -/
abbrev rangeC (D : RangeD) : List Value := [.int .i64 D.f0, .int .i64 D.f1]
/-- as a value -/
abbrev rangeV (D : RangeD) : Value := .agg #[.int .i64 D.f0, .int .i64 D.f1]
/-- how it lies in cells -/
def rangeK : Kd RangeD := ⟨fun D => [.int .i64 D.f0, .int .i64 D.f1], 2, ⟨0, 0⟩, fun _ => rfl, by decide, fun x u hu => by
  simp at hu
  rcases hu with rfl | rfl <;> rfl⟩

theorem range_c0 (L : List RangeD) (k : Nat) : cl rangeK L (k * 2) = .int .i64 (gt rangeK L k).f0 := cl_at rangeK L k 0 (by decide)
theorem range_c1 (L : List RangeD) (k : Nat) : cl rangeK L (k * 2 + 1) = .int .i64 (gt rangeK L k).f1 := cl_at rangeK L k 1 (by decide)
theorem range_r0 {w : World} {b o k : Nat} {L : List RangeD} (h : ∀ q, q < L.length * rangeK.m → w.cell? ⟨b, o + q, none⟩ = some (cl rangeK L q)) (hk : k < L.length) : w.cell? ⟨b, o + k * 2, none⟩ = some (.int .i64 (gt rangeK L k).f0) := by
  have h1 := h (k * 2) (kq_at rangeK (j := 0) hk (by decide))
  rw [range_c0] at h1
  exact h1
theorem range_r1 {w : World} {b o k : Nat} {L : List RangeD} (h : ∀ q, q < L.length * rangeK.m → w.cell? ⟨b, o + q, none⟩ = some (cl rangeK L q)) (hk : k < L.length) : w.cell? ⟨b, o + k * 2 + 1, none⟩ = some (.int .i64 (gt rangeK L k).f1) := by
  have h1 := h (k * 2 + 1) (kq_at rangeK (j := 1) hk (by decide))
  rw [range_c1, ← Nat.add_assoc] at h1
  exact h1
theorem Try.infoRange : (Try.prog.info? 33).map (fun i => (i.zero, i.size, i.bytes)) = some (some (.agg #[.int .i64 0, .int .i64 0]), 2, 16) := by kernel_rfl
/-- one more is put behind -/
theorem pushRange (w : World) (base : Nat) (v : Value) (L : List RangeD) (D : RangeD) (hown : Ro rangeK 33 base w v L) (hb : L.length ≤ 1048576) (hbase : base ≤ w.heap.size) :
    ∃ v' w', (Builtin.append_ #[26, 26] 26 #[v, .slice (some ⟨w.heap.size, 0, none⟩) 1 1]).run Try.prog (w.alloc (.cells #[.int .i64 D.f0, .int .i64 D.f1] 33)) = .ok v' w' ∧ Ro rangeK 33 base w' v' (L ++ [D]) ∧ Below base w w' ∧ ∀ q, q < w.heap.size → (∀ g, v.ownBlock = some g → q ≠ g) → w'.heap[q]? = w.heap[q]? := by
  obtain ⟨i0, hi, hz0, hz1, hz2⟩ := info_parts Try.infoRange
  have hA := (Below.refl w.heap.size w).alloc (Nat.le_refl _) (.cells #[.int .i64 D.f0, .int .i64 D.f1] 33)
  obtain ⟨v', w', h1, h2, h3, _, h5⟩ := app rangeK (w.alloc (.cells #[.int .i64 D.f0, .int .i64 D.f1] 33)) 26 26 33 base i0 _ 16 Try.underlying26 hi hz0 hz1 hz2 rfl (by decide) v L (hown.below hA) (some ⟨w.heap.size, 0, none⟩) 1 [D] (Or.inr ⟨_, rfl, fun j u hu => by
    have e : ([D] : List RangeD).flatMap rangeK.f = rangeC D := by simp [rangeK]
    rw [e] at hu
    rw [add_none, Nat.zero_add]
    have := (Bx.new w (rangeC D) 33).cv j
    exact this.trans hu⟩) (by simp; omega) (by simp; omega)
  exact ⟨v', w', h1, h2, (hA.mono hbase).trans h3, fun q hq hn => (h5.block q (by simp; omega) (fun e => hn q e.symm rfl)).trans (hA.block q hq)⟩

/-- a row of none, and all of a row put behind it -/
theorem lit0Range (w : World) (base : Nat) (hb : base ≤ w.heap.size) : Ro rangeK 33 base (w.alloc (.cells #[] 33)) (.slice (some ⟨w.heap.size, 0, none⟩) 0 0) [] :=
  World.ownsRow_lit (base := base) (e := 33) (size := 2) w #[] 0 hb (by unfold maxLen; omega) rfl
theorem joinRange (w : World) (base : Nat) (v : Value) (L M : List RangeD) (a : Option Addr) (c : Nat) (hown : Ro rangeK 33 base w v L) (h : Rd rangeK w a M) (hb : L.length + M.length ≤ 2097152) (hbase : base ≤ w.heap.size) :
    ∃ v' w', (Builtin.append_ #[26, 26] 26 #[v, .slice a M.length c]).run Try.prog w = .ok v' w' ∧ Ro rangeK 33 base w' v' (L ++ M) ∧ Below base w w' ∧ ∀ q, q < w.heap.size → (∀ g, v.ownBlock = some g → q ≠ g) → w'.heap[q]? = w.heap[q]? := by
  obtain ⟨i0, hi, hz0, hz1, hz2⟩ := info_parts Try.infoRange
  obtain ⟨v', w', h1, h2, h3, _, h5⟩ := app rangeK w 26 26 33 base i0 _ 16 Try.underlying26 hi hz0 hz1 hz2 rfl (by decide) v L hown a c M h.sc hb hbase
  exact ⟨v', w', h1, h2, h3, fun q hq hn => h5.block q hq (fun e => hn q e.symm rfl)⟩

/-- one more is put behind, out of a row of one that lies there -/
theorem pushAtRange (w : World) (base : Nat) (v : Value) (L : List RangeD) (D : RangeD) (g : Nat) (hg : Bx w g (rangeC D)) (hown : Ro rangeK 33 base w v L) (hb : L.length ≤ 1048576) (hbase : base ≤ w.heap.size) :
    ∃ v' w', (Builtin.append_ #[26, 26] 26 #[v, .slice (some ⟨g, 0, none⟩) 1 1]).run Try.prog w = .ok v' w' ∧ Ro rangeK 33 base w' v' (L ++ [D]) ∧ Below base w w' ∧ ∀ q, q < w.heap.size → (∀ g, v.ownBlock = some g → q ≠ g) → w'.heap[q]? = w.heap[q]? := by
  obtain ⟨i0, hi, hz0, hz1, hz2⟩ := info_parts Try.infoRange
  obtain ⟨v', w', h1, h2, h3, _, h5⟩ := app rangeK w 26 26 33 base i0 _ 16 Try.underlying26 hi hz0 hz1 hz2 rfl (by decide) v L hown (some ⟨g, 0, none⟩) 1 [D] (Or.inr ⟨_, rfl, fun j u hu => by
    have e : ([D] : List RangeD).flatMap rangeK.f = rangeC D := by simp [rangeK]
    rw [e] at hu
    rw [add_none, Nat.zero_add]
    exact (hg.cv j).trans hu⟩) (by simp; omega) hbase
  exact ⟨v', w', h1, h2, h3, fun q hq hn => h5.block q hq (fun e => hn q e.symm rfl)⟩

set_option maxHeartbeats 1000000 in
theorem toRange_any (D : RangeD) (w : World) : Calls Try.prog 11 #[rangeV D] w fun e w' => e = .returned (rangeV D) ∧ Below w.heap.size w w' := by
  go_enter Try.func11, Try.ntmps11
  go_wp2
  refine bodyPost_ret (v := rangeV D) (by simp [results, Try.results11, go_sem]) rfl ⟨rfl, ?_⟩
  exact (((Below.refl _ _).alloc (Nat.le_refl _) _).alloc (by simp) _).alloc (by simp; omega) _
set_option maxHeartbeats 1000000 in
theorem toRangeS_any (a : Option Addr) (cap : Nat) (L : List RangeD) (w : World) (hN : L.length ≤ 1048576) (h : Rd rangeK w a L) :
    Calls Try.prog 6 #[.slice a L.length cap] w fun e w' => ∃ g, e = .returned (.slice (some ⟨g, 0, none⟩) L.length L.length) ∧ Ri rangeK w.heap.size w'.heap.size w' (some ⟨g, 0, none⟩) L ∧ Below w.heap.size w w' := by
  obtain ⟨i0, hi, hz0, hz1, hz2⟩ := info_parts Try.infoRange
  obtain ⟨w1, hmk, hown, hgr⟩ := run_make_full (P := Try.prog) w w.heap.size 26 33 i0 _ 2 Try.underlying26 hi hz0 hz1 .i64 .i64 L.length (by rw [hz2]; omega) (by unfold maxLen; omega) (Nat.le_refl _)
  have HM : Hid (Mk rangeK w w1 L 0) := by
    refine ⟨(Below.refl _ _).grown hgr (Nat.le_refl _) (fun k hk => by cases hk), (hown.lt w.heap.size rfl).2, fun j hj => by omega, fun o ho => ?_, fun o => hown.frozenAt o⟩
    change o < L.length * 2 at ho
    rw [hown.cellAt o (by omega)]; simp [madeCells]; omega
  clear hown hgr hi hz0 hz1 hz2
  have HR := hide h
  clear h
  go_enter Try.func6, Try.ntmps6
  go_wp2
  go_loopw [4] (fun i wr => ∃ k : Nat, k ≤ L.length ∧ i = .int .i64 k ∧ Mk rangeK w wr L (k * 2)) (fun i _ => L.length - (intOf i).toNat)
  case atStart => exact ⟨0, Nat.zero_le _, rfl, by simpa using unhide HM⟩
  case round =>
    obtain ⟨k, hk, rfl, hmr⟩ := hrel
    by_cases hlt : k < L.length
    · rcases (unhide HR).below hmr.bel with h0 | ⟨b, off, rfl, _, hel⟩
      · rw [h0] at hlt; exact absurd hlt (Nat.not_lt_zero _)
      have c0 := range_r0 hel hlt
      have c1 := range_r1 hel hlt
      clear hel
      have HT := hide (toRange_any (gt rangeK L k))
      have HM2 := hide hmr
      clear hmr HM
      go_wp2_with fail
      refine (unhide HT _).mono ?_
      rintro e w2 ⟨rfl, hb2⟩
      have hm2 := (unhide HM2).below hb2
      obtain ⟨v0, e0⟩ := Option.isSome_iff_exists.1 (hm2.rm (k * 2) (kq_at rangeK (j := 0) hlt (by decide)))
      have f0 := hm2.fz (k * 2)
      obtain ⟨v1, e1⟩ := Option.isSome_iff_exists.1 (hm2.rm (k * 2 + 1) (kq_at rangeK (j := 1) hlt (by decide)))
      have f1 := hm2.fz (k * 2 + 1)
      have hs2 := hm2.lt
      have M0 := hide hm2
      have M1 := hide ((unhide M0).step (kq_at rangeK (j := 0) hlt (by decide)) (.int .i64 (gt rangeK L k).f0) (range_c0 L k))
      have M2 := hide ((unhide M1).step (kq_at rangeK (j := 1) hlt (by decide)) (.int .i64 (gt rangeK L k).f1) (range_c1 L k))
      clear hm2 hb2
      go_wp2
      exact ⟨⟨k + 1, by omega, by go_num, by have h9 := unhide M2; rwa [show k * 2 + 1 + 1 = (k + 1) * 2 by omega] at h9⟩, by simp [intOf]; omega⟩
    · obtain rfl : k = L.length := by omega
      have HA := hide hmr
      clear hmr
      go_wp2
      go_ret
      exact ⟨_, rfl, (unhide HA).ri, (unhide HA).bel⟩
set_option maxHeartbeats 1000000 in
theorem eqRange_same (D : RangeD) (w : World) :
    Calls Try.prog 14 #[rangeV D, rangeV D] w fun e w' => e = .returned (.bool true) ∧ Below w.heap.size w w' := by
  go_enter Try.func14, Try.ntmps14
  go_wp2
  go_ret
  exact ⟨rfl, ((Below.refl _ _).alloc (Nat.le_refl _) _).alloc (by simp) _⟩
set_option maxHeartbeats 1000000 in
theorem eqRangeS_same (a a' : Option Addr) (cap cap' : Nat) (L : List RangeD) (w : World) (hN : L.length ≤ 1048576) (h : Rd rangeK w a L) (h' : Rd rangeK w a' L) :
    Calls Try.prog 8 #[.slice a L.length cap, .slice a' L.length cap'] w fun e w' => e = .returned (.bool true) ∧ Below w.heap.size w w' := by
  have HR := hide h
  have HR' := hide h'
  clear h h'
  go_enter Try.func8, Try.ntmps8
  go_wp2
  go_loopw [5] (fun i wr => ∃ k : Nat, k ≤ L.length ∧ i = .int .i64 k ∧ Below w.heap.size w wr) (fun i _ => L.length - (intOf i).toNat)
  case atStart => exact ⟨0, Nat.zero_le _, rfl, Below.refl _ _⟩
  case round =>
    obtain ⟨k, hk, rfl, hbel⟩ := hrel
    by_cases hlt : k < L.length
    · rcases (unhide HR).below hbel with h0 | ⟨b, o, rfl, _, hel⟩
      · rw [h0] at hlt; exact absurd hlt (Nat.not_lt_zero _)
      rcases (unhide HR').below hbel with h0 | ⟨b', o', rfl, _, hel'⟩
      · rw [h0] at hlt; exact absurd hlt (Nat.not_lt_zero _)
      have c0 := range_r0 hel hlt
      have c1 := range_r1 hel hlt
      have d0 := range_r0 hel' hlt
      have d1 := range_r1 hel' hlt
      have HE := hide (eqRange_same (gt rangeK L k))
      clear hel hel'
      have hnk : (k : Int) < (L.length : Int) := by omega
      have hk0 : (0 : Int) ≤ (k : Int) := by omega
      go_wp2_with fail
      go_region_with (go_at_call 14; refine (unhide HE _).mono ?_; rintro e w2 ⟨rfl, hb2⟩)
      all_goals
        go_wp2
        exact ⟨⟨k + 1, by omega, by go_num, hbel.drew.trans (hb2.mono hbel.size)⟩, by simp [intOf]; omega⟩
    · go_wp2
      go_ret
      exact ⟨rfl, hbel⟩
theorem szRangeS_any (a : Option Addr) (n cap left : Nat) (w : World) (hn : n ≤ maxLen) (hl : left ≤ 1048576) :
    Calls Try.prog 4 #[.slice a n cap, .int .i64 left] w fun e w' => szQ left n e ∧ w' = w := by
  unfold maxLen at hn
  by_cases h : n ≤ left
  · have e1 : IntKind.i64.wrap ((left : Int) - (n : Int)) = (left : Int) - (n : Int) := by rw [IntKind.wrap_i64]; omega
    have e2 : ¬ (left : Int) - (n : Int) < 0 := by omega
    have H3 := hide h
    clear h
    go_enter Try.func4, Try.ntmps4
    go_wp2
    go_ret
    exact ⟨Or.inr ⟨left - n, by rw [Int.ofNat_sub (unhide H3)]; rfl, by omega, unhide H3⟩, rfl⟩
  · have e1 : IntKind.i64.wrap ((left : Int) - (n : Int)) = (left : Int) - (n : Int) := by rw [IntKind.wrap_i64]; omega
    have e2 : (left : Int) - (n : Int) < 0 := by omega
    clear h
    go_enter Try.func4, Try.ntmps4
    go_wp2
    go_ret
    exact ⟨Or.inl rfl, rfl⟩
/-- the marks of a row, from k0 on -/
def rangeM (k0 o : Nat) : Value := .int .i64 ((k0 + o : Nat) : Int)
end Go.Proofs.Ytenfjcdkabeilaa.Rc
