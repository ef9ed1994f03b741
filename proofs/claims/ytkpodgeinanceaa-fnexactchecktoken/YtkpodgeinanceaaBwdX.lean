/-
  Contracts: slices.Backward over a list of texts, as an iterator. Contracts: untriedOf of the program: the keys and their places in a map. The shelf's contracts of maps.Keys and slices.Collect at texts, laid at this program in plain words. Contracts: the key of the least place in a map of keys: cmp.Compare, newest's closure, slices.MinFunc, newest. Contracts: the keys handed out, the newest first, each gone from the map ahead of its round. Contracts: a range over the keys, the newest first.
-/
import Derived.RangeFuncNested
import Derived.RangeFuncBound
import Derived.RangeFuncCalls
import Derived.RangeFuncLeaves
import Derived.RangeFuncBox
import Derived.RangeFuncWrites
import Derived.Shelf.Abstract
import Derived.Shelf.RegionOpen
import Derived.WalkKit
import Derived.OwnWalkIn
import Derived.TacticsInMore
import Derived.LoopNIn
import Derived.LoopIn
import Derived.Maps.OwnIn
import Derived.Test.YtkpodgeinanceaaStxX
import Derived.StringKeys
import Derived.WalkArith
import Derived.Shelf.SlIter.Nil
import Derived.Test.YtkpodgeinanceaaProg
import Derived.Maps.OwnOps
import Derived.Sort.MapsRangeIn
import Derived.RangeFuncOwn
namespace Go.Proofs.Ytkpodgeinanceaa
open Go.ChangeShapes Go.WideShapes Go.ChangeAt Go.RowKit Go.Shelf
set_option linter.unusedVariables false
set_option maxRecDepth 100000
attribute [local go_sem] Oper.semAt_some

/-- a place and a text -/
abbrev PK := { x : Nat × ByteArray // x.1 ≤ 1048576 ∧ x.2.size ≤ 1048576 }
/-- what has come of a list that is gone through from its end, k rounds being over -/
def bwL (G : Nat → PK) (len k : Nat) : List PK := (List.range k).map fun j => G (len - 1 - j)
theorem bwL_succ (G : Nat → PK) (len k : Nat) : bwL G len (k + 1) = bwL G len k ++ [G (len - 1 - k)] := by simp [bwL, List.range_succ]
theorem bwL_len (G : Nat → PK) (len k : Nat) : (bwL G len k).length = k := by simp [bwL]

/-- all blocks below a bound but one lie as they lay -/
def Kq (mb n₀ : Nat) (W W' : World) : Prop := ∀ k, k < n₀ → k ≠ mb → W'.heap[k]? = W.heap[k]?
theorem Kq.refl (mb n₀ : Nat) (W : World) : Kq mb n₀ W W := fun _ _ _ => rfl
theorem Kq.trans {mb n₀ : Nat} {A B C : World} (h : Kq mb n₀ A B) (k : Kq mb n₀ B C) : Kq mb n₀ A C := fun i hi hm => (k i hi hm).trans (h i hi hm)
theorem Kq.cell {mb n₀ : Nat} {W W' : World} (h : Kq mb n₀ W W') {b o : Nat} (hb : b < n₀) (hm : b ≠ mb) : W'.cell? ⟨b, o, none⟩ = W.cell? ⟨b, o, none⟩ := World.cell?_of_block (a := ⟨b, o, none⟩) (h b hb hm)
theorem Kq.put {mb n₀ : Nat} {w : World} (hn : n₀ ≤ w.heap.size) (W : World) (l : Nat) (o o' : Obj) (hl : w.heap.size ≤ l) (_ : W.heap[l]? = some o) (_ : o.isCells = false) (_ : o.isWalk = false) : Kq mb n₀ W (W.putObj l o') := fun k hk _ => World.putObj_heap_other (by omega)
set_option maxHeartbeats 2000000 in
theorem bwd1_in (F : Fence) (n : Nat) (hF : F.fn 79) (hro : F.round = none) (hn : 1 ≤ n) (l mb Bs n₀ b off len cap : Nat) (G : Nat → PK) (hG : ∀ j, j < len → (G j).1.1 = j) (hlen : len ≤ 1048576) (hb : b < n₀) (hbm : b ≠ mb) (hBm : Bs ≠ mb) (J Jx : List PK → World → Prop)
    (hY : ∀ pre x W, J pre W → pre.length < len → YieldAt F (n - 1) Try.prog l #[.int .i64 (x.1.1 : Int), .string x.1.2] W fun e W' =>
      (e = .returned (.bool true) ∧ J (pre ++ [x]) W' ∧ Kq mb n₀ W W') ∨ (e = .returned (.bool false) ∧ Jx (pre ++ [x]) W'))
    (W : World) (hBs : W.cell? ⟨Bs, 0, none⟩ = some (.slice (some ⟨b, off, none⟩) len cap)) (hBn : Bs < n₀) (hc : ∀ j, j < len → W.cell? ⟨b, off + j, none⟩ = some (.string (G j).1.2)) (h0 : J [] W) :
    CallsIn F n Try.prog 79 #[.func (.yield l) #[] #[], .pointer (some ⟨Bs, 0, none⟩)] W fun e W' => (∃ v, e = .returned v) ∧
      ((∃ ys, ys = bwL G len len ∧ J ys W') ∨ (∃ pre, (∃ k, k ≤ len ∧ pre = bwL G len k) ∧ Jx pre W')) := by
  refine callsIn_of_wp Try.func79 rfl hF ?_ hro
  simp only [Try.ntmps79, List.size_toArray, List.length_cons, List.length_nil, Nat.reduceAdd, Nat.reduceSub, Array.replicate_succ, Array.replicate_zero, List.push_toArray, List.append_toArray, List.nil_append, List.cons_append]
  gi_wp2
  gi_loopw [3] (fun i wr => ∃ k : Nat, k ≤ len ∧ i = .int .i64 ((len : Int) - 1 - k) ∧ J (bwL G len k) wr ∧ Kq mb n₀ W wr)
    (fun i _ => (intOf i + 1).toNat)
  case atStart => exact ⟨0, Nat.zero_le _, by go_num, h0, Kq.refl _ _ _⟩
  case round =>
    obtain ⟨k, hk, rfl, hJs, hnx⟩ := hrel
    by_cases hlt : k < len
    · obtain ⟨j, hj⟩ : ∃ j : Nat, j = len - 1 - k := ⟨_, rfl⟩
      have hjI : (len : Int) - 1 - (k : Int) = (j : Int) := by omega
      have hjl : j < len := by omega
      have hcx := (hnx.cell (o := off + j) hb hbm).trans (hc j hjl)
      have hbx := (hnx.cell (o := 0) hBn hBm).trans hBs
      obtain ⟨fn, tmps, assign, body, hy, hR⟩ := hY _ (G j) wr hJs (by rw [bwL_len]; exact hlt)
      rw [hG j hjl] at hy
      rw [hjI]
      have HJ := hide hj
      have HJI := hide hjI
      clear hj hjI
      have hj0 : (0 : Int) ≤ (j : Int) := by omega
      have hjn : (j : Int) < (len : Int) := by omega
      gi_wp2
      refine hR.mono ?_
      rintro e W3 (⟨rfl, hJ3, hk3⟩ | ⟨rfl, hJx3⟩)
      · gi_wp2
        go_roundw
        case rel => exact ⟨k + 1, by omega, by have := unhide HJI; simp; omega, by rw [bwL_succ, ← unhide HJ]; exact hJ3, hnx.trans hk3⟩
        case measure => simp [intOf]
      · gi_wp2
        refine bodyPost_ret (results_none rfl _ _ _) rfl ?_
        exact ⟨⟨_, rfl⟩, .inr ⟨_, ⟨k + 1, by omega, by rw [bwL_succ, ← unhide HJ]⟩, hJx3⟩⟩
    · obtain rfl : k = len := by omega
      have hz : ¬ (0 : Int) ≤ (k : Int) - 1 - k := by omega
      gi_wp2
      go_end0
      exact ⟨⟨_, rfl⟩, .inl hJs⟩
theorem bwd_in (F : Fence) (n : Nat) (hF : F.fn 61) (hro : F.round = none) (a : Option Addr) (len cap : Nat) (w : World) :
    CallsIn F n Try.prog 61 #[.slice a len cap] w fun e w' => e = .returned (.func (.func 79) #[] #[.pointer (some ⟨w.heap.size, 0, none⟩)]) ∧ w' = w.alloc (.cells #[.slice a len cap] 22) := by
  refine callsIn_of_wp Try.func61 rfl hF ?_ hro
  simp only [Try.ntmps61, List.size_toArray, List.length_cons, List.length_nil, Nat.reduceAdd, Nat.reduceSub, Array.replicate_succ, Array.replicate_zero, List.push_toArray, List.append_toArray, List.nil_append, List.cons_append]
  gi_wp2
  go_ret
  exact ⟨rfl, rfl⟩
theorem bwd_stops (F : Fence) (n : Nat) (hF : F.fn 79) (hro : F.round = none) (hn : 1 ≤ n) (mb Bs n₀ b off len cap : Nat) (G : Nat → PK) (hG : ∀ j, j < len → (G j).1.1 = j) (hlen : len ≤ 1048576) (hb : b < n₀) (hbm : b ≠ mb) (hBm : Bs ≠ mb) (w : World) (hBs : Bs < n₀) (hn₀ : n₀ ≤ w.heap.size)
    (hc : w.cell? ⟨Bs, 0, none⟩ = some (.slice (some ⟨b, off, none⟩) len cap)) (hel : ∀ j, j < len → w.cell? ⟨b, off + j, none⟩ = some (.string (G j).1.2)) :
    SeqStopsK F n Try.prog 79 #[.pointer (some ⟨Bs, 0, none⟩)] (fun x : PK => #[Value.int .i64 (x.1.1 : Int), Value.string x.1.2]) (Kq mb n₀) (fun ys => ys = bwL G len len) (fun pre => ∃ k, k ≤ len ∧ pre = bwL G len k) len w := fun l J Jx W hW _ _ hY h0 =>
  bwd1_in F n hF hro hn l mb Bs n₀ b off len cap G hG hlen hb hbm hBm J Jx hY W ((hW.cell (p := ⟨Bs, 0, none⟩) (by show Bs < _; omega)).trans hc) hBs (fun j hj => (hW.cell (p := ⟨b, off + j, none⟩) (by show b < _; omega)).trans (hel j hj)) h0
end Go.Proofs.Ytkpodgeinanceaa
namespace Go.Proofs.Ytkpodgeinanceaa
open Go.ChangeShapes Go.WideShapes Go.ChangeAt Go.RowKit Go.Shelf
set_option linter.unusedVariables false
set_option maxRecDepth 100000
attribute [local go_sem] Oper.semAt_some

/-- the keys and their places, as a map -/
def unD {H : Type} (xs : List PK) : DataW H := xs.foldl (fun D x => D.put (.string x.1.2.data.toList) (.lit (.int .i64 x.1.1))) (.map [])
theorem unD_snoc {H : Type} (pre : List PK) (x : PK) : unD (H := H) (pre ++ [x]) = (unD pre).put (.string x.1.2.data.toList) (.lit (.int .i64 x.1.1)) := by simp [unD]
theorem pk_wf (x : PK) : (Lit.int .i64 (x.1.1 : Int)).wf = true := by
  have := x.2.1
  exact WalkArith.wf_i64 (by omega)

set_option maxHeartbeats 2000000 in
theorem unt_in {H : Type} (F : Fence) (n : Nat) (h0 : F.fn 40) (h1 : F.fn 61) (h2 : F.fn 79) (hro : F.round = none) (hn : 3 ≤ n) (b off len cap : Nat) (G : Nat → PK) (hG : ∀ j, j < len → (G j).1.1 = j) (hlen : len ≤ 1048576) (w : World) (hb : b < w.heap.size) (hel : ∀ j, j < len → w.cell? ⟨b, off + j, none⟩ = some (.string (G j).1.2)) :
    CallsIn F n Try.prog 40 #[.slice (some ⟨b, off, none⟩) len cap] w fun e W' => e = .returned (.map (some w.heap.size)) ∧ W'.ownsMap Try.prog 9 (plainElem (H := H) Try.prog 3) w.heap.size len (unD (bwL G len len)) ∧ Below w.heap.size w W' := by
  have hn1 : 1 ≤ n := by omega
  have hmm := @run_makeMap Try.prog
  refine callsIn_of_wp_marks Try.func40 rfl h0 ?_ hro
  simp only [Try.ntmps40, List.size_toArray, List.length_cons, List.length_nil, Nat.reduceAdd, Nat.reduceSub, Array.replicate_succ, Array.replicate_zero, List.push_toArray, List.append_toArray, List.nil_append, List.cons_append]
  gi_wp2_with (gi_at_call 61; refine (bwd_in F (n - 1) h1 hro _ _ _ _).mono ?_; rintro e w' ⟨rfl, rfl⟩)
  have hm0 := World.ownsMap_made w Try.prog 9 (plainElem (H := H) Try.prog 3)
  have bS := Boxed.new (w.alloc (.map #[] 0)) 68 (.map (some w.heap.size))
  have bN := Boxed.new ((w.alloc (.map #[] 0)).alloc (.cells #[.map (some w.heap.size)] 68)) 22 (.slice (some ⟨b, off, none⟩) len cap)
  simp only [World.size_alloc] at bS bN
  have hB0 : Below w.heap.size w (((w.alloc (.map #[] 0)).alloc (.cells #[.map (some w.heap.size)] 68)).alloc (.cells #[.slice (some ⟨b, off, none⟩) len cap] 22)) := (((Below.refl _ w).alloc (Nat.le_refl _) _).alloc (by simp) _).alloc (by simp; omega) _
  refine wpIn_rangeFunc_ownG hro hn1 (gf := 79) (lb := #[.pointer (some ⟨w.heap.size + 1 + 1, 0, none⟩)]) rfl h2 (enters_of Try.func79 (by kernel_rfl) rfl)
    (bwd_stops F (n - 1) h2 hro (by omega) w.heap.size (w.heap.size + 1 + 1) (w.heap.size + 3) b off len cap G hG hlen (by omega) (by omega) (by omega) _ (by omega) (by simp) bN.cell (fun j hj => (hB0.cell (p := ⟨b, off + j, none⟩) hb).trans (hel j hj))) Kq.trans (Kq.put (by simp)) (Below.refl _ _) (fun _ => rfl)
    (fun pre W => (W.cell? ⟨w.heap.size + 1, 0, none⟩ = some (.map (some w.heap.size)) ∧ W.ownsMap Try.prog 9 (plainElem (H := H) Try.prog 3) w.heap.size pre.length (unD pre) ∧ w.heap.size + 3 ≤ W.heap.size) ∧ Below w.heap.size w W)
    (fun _ _ _ => False)
    (OwnFrom.and (fun s A B row hs hg hr => ⟨cell_kept hs.1 hg (fun r e => (hr r e).2), hs.2.1.kept hg (fun e => by have := (hr _ e.symm).1; simp at this; omega), Nat.le_trans hs.2.2 hg.size⟩) (ownFrom_below (Nat.le_refl _) (by simp; omega)))
    (fun _ _ _ _ _ hs _ _ => hs)
    ⟨⟨(bS.alloc _).cell, (hm0.alloc _).alloc _, by simp⟩, hB0⟩
    (fun x => { tmps := #[.slice (some ⟨b, off, none⟩) len cap, undef, .map none, .pointer (some ⟨w.heap.size + 1, 0, none⟩), .int .i64 (x.1.1 : Int), .string x.1.2, .map (some w.heap.size), .slice (some ⟨b, off, none⟩) len cap, .func (.func 79) #[] #[.pointer (some ⟨w.heap.size + 1 + 1, 0, none⟩)], .int .i64 (x.1.1 : Int), .string x.1.2, undef, undef, undef, undef], defers := [] }) ?assign ?body ?done ?stop
  case assign =>
    intro l x W K hK
    gi_wp2
    exact hK
  case body =>
    rintro l pre x W ⟨⟨hc, hown, hsz⟩, hB⟩ hlt
    have hxs : x.1.2.size ≤ maxLen := by have := x.2.2; unfold maxLen; omega
    gi_wp2_with (gi_at_mapUpdate; refine wpListIn_mapUpdate_own _ rfl _ _ _ 68 rfl 9 3 (Maps.string_keyed Try.underlying9) Try.underlying68 _ w.heap.size pre.length _ rfl hown (by unfold maxLen; omega) _ _ _ rfl rfl (Go.WideMaps.keyOf_string_mk Try.underlying9 hxs) _ [] (plainElem_int Try.underlying3 (pk_wf x)) ?_; intro w1 hown1 hgrow1)
    obtain ⟨es, ck, hh, _⟩ := hown
    exact ⟨KeepsFrom.of_grownBy hgrow1 (fun j e => by cases e; simp; omega), (fun k hk hm => hgrow1.block k (by omega) (fun e => hm (by cases e; rfl))),
      ⟨cell_kept hc hgrow1 (fun r e => by cases e; exact ⟨_, hh, rfl⟩), by rw [unD_snoc, List.length_append]; exact hown1, Nat.le_trans hsz hgrow1.size⟩, hB.grown hgrow1 hB.size (fun k e => by cases e; exact Nat.le_refl _)⟩
  case done =>
    rintro D ys W hD rfl ⟨⟨hc, hown, _⟩, hB⟩ hK
    gi_wp2
    refine ⟨by simp, .inl ⟨_, _, rfl, run_takeDeferred hK, ?_⟩⟩
    rw [bwL_len] at hown
    exact ⟨_, results_tmp rfl _ _ _, rfl, hown.kept (grownBy_putObj' _ D _) (fun e => by cases e; simp at hD; omega), hB.trans (belowK_b (w := w) (Nat.le_refl _) W D _ _ (by simp at hD; omega) hK rfl rfl)⟩
  case stop =>
    rintro D c pre W _ _ h _
    exact h.elim
end Go.Proofs.Ytkpodgeinanceaa
namespace Go.Proofs
open Go.Shelf
def Try.laysZ7_ren : Go.Shelf.Ren := ⟨fun | 7 => 82 | 10 => 99 | n => n, fun | 0 => 0 | 3 => 3 | 4 => 4 | 23 => 68 | 24 => 22 | 26 => 9 | 27 => 65 | 28 => 66 | 33 => 43 | n => n, fun | n => n⟩
theorem Try.laysZ7 : SlLaysZ.n7 Try.prog Try.laysZ7_ren := {
  mixed := by kernel_rfl
  f7 := ⟨"maps.Keys[loop.example/g00206/impl.untried,string,int]", by kernel_rfl, Try.func82.trans (congrArg some (by kernel_rfl))⟩
  f10 := ⟨"maps.Keys[loop.example/g00206/impl.untried,string,int]$1", by kernel_rfl, Try.func99.trans (congrArg some (by kernel_rfl))⟩
  t0 := Try.underlying0
  a0 := Try.isAgg0
  z0 := Try.sizeOf0
  v0 := Try.zeroValue0
  t4 := Try.underlying4
  a4 := Try.isAgg4
  z4 := Try.sizeOf4
  v4 := Try.zeroValue4
  t23 := Try.underlying68
  a23 := Try.isAgg68
  z23 := Try.sizeOf68
  v23 := Try.zeroValue68
  t26 := Try.underlying9
  a26 := Try.isAgg9
  z26 := Try.sizeOf9
  v26 := Try.zeroValue9
  t27 := Try.underlying65
  a27 := Try.isAgg65
  z27 := Try.sizeOf65
  v27 := Try.zeroValue65
  t28 := Try.underlying66
  a28 := Try.isAgg66
  z28 := Try.sizeOf66
  v28 := Try.zeroValue66
  t33 := Try.underlying43
  a33 := Try.isAgg43
  z33 := Try.sizeOf43
  v33 := Try.zeroValue43 }
def Try.laysZ8_ren : Go.Shelf.Ren := ⟨fun | 8 => 81 | 11 => 98 | n => n, fun | 0 => 0 | 3 => 3 | 4 => 4 | 23 => 68 | 24 => 22 | 26 => 9 | 27 => 65 | 28 => 66 | 33 => 43 | n => n, fun | n => n⟩
theorem Try.laysZ8 : SlLaysZ.n8 Try.prog Try.laysZ8_ren := {
  mixed := by kernel_rfl
  f8 := ⟨"slices.Collect[string]", by kernel_rfl, Try.func81.trans (congrArg some (by kernel_rfl))⟩
  f11 := ⟨"slices.AppendSeq[[]string,string]", by kernel_rfl, Try.func98.trans (congrArg some (by kernel_rfl))⟩
  t0 := Try.underlying0
  a0 := Try.isAgg0
  z0 := Try.sizeOf0
  v0 := Try.zeroValue0
  t24 := Try.underlying22
  a24 := Try.isAgg22
  z24 := Try.sizeOf22
  v24 := Try.zeroValue22
  t26 := Try.underlying9
  a26 := Try.isAgg9
  z26 := Try.sizeOf9
  v26 := Try.zeroValue9
  t28 := Try.underlying66
  a28 := Try.isAgg66
  z28 := Try.sizeOf66
  v28 := Try.zeroValue66
  i26 := by kernel_rfl }
end Go.Proofs
namespace Go.Proofs.Ytkpodgeinanceaa
open Go.ChangeShapes Go.WideShapes Go.ChangeAt Go.RowKit Go.Shelf Go.Maps
set_option linter.unusedVariables false
set_option maxRecDepth 100000
attribute [local go_sem] Oper.semAt_some

def cmI (x y : Int) : Int := if x < y then -1 else if y < x then 1 else 0
set_option maxHeartbeats 1000000 in
theorem cmpI (x y : Int) (w : World) : Calls Try.prog 84 #[.int .i64 x, .int .i64 y] w fun e w' => e = .returned (.int .i64 (cmI x y)) ∧ w' = w := by
  have HN : Hid (∀ z W, Calls Try.prog 100 #[.int .i64 z] W fun e w' => e = .returned (.bool false) ∧ w' = W) := fun z W => by
    go_enter Try.func100, Try.ntmps100
    go_wp2
    go_ret
    exact ⟨by simp, rfl⟩
  unfold cmI
  by_cases h1 : x < y
  · rw [if_pos h1]
    go_enter Try.func84, Try.ntmps84
    go_wp2_with fail
    refine (unhide HN _ _).mono ?_
    rintro e w1 ⟨rfl, e1⟩
    subst w1
    go_wp2_with fail
    refine (unhide HN _ _).mono ?_
    rintro e w1 ⟨rfl, e1⟩
    subst w1
    go_wp2
    go_ret
    exact ⟨rfl, rfl⟩
  rw [if_neg h1]
  by_cases h2 : y < x
  · rw [if_pos h2]
    go_enter Try.func84, Try.ntmps84
    go_wp2_with fail
    refine (unhide HN _ _).mono ?_
    rintro e w1 ⟨rfl, e1⟩
    subst w1
    go_wp2_with fail
    refine (unhide HN _ _).mono ?_
    rintro e w1 ⟨rfl, e1⟩
    subst w1
    go_wp2
    go_ret
    exact ⟨rfl, rfl⟩
  · rw [if_neg h2]
    go_enter Try.func84, Try.ntmps84
    go_wp2_with fail
    refine (unhide HN _ _).mono ?_
    rintro e w1 ⟨rfl, e1⟩
    subst w1
    go_wp2_with fail
    refine (unhide HN _ _).mono ?_
    rintro e w1 ⟨rfl, e1⟩
    subst w1
    go_wp2
    go_ret
    exact ⟨rfl, rfl⟩

/-- a key's place in a map -/
def plD {H : Type} (D : DataW H) (k : ByteArray) : Int := match D.atKey (.string k.data.toList) (.lit (.int .i64 0)) with | .lit (.int _ c) => c | _ => 0
theorem nw1 {H : Type} (bx b nn : Nat) (D : DataW H) (x y : ByteArray) (hx : x.size ≤ maxLen) (hy : y.size ≤ maxLen) (w : World) (hc : w.cell? ⟨bx, 0, none⟩ = some (.map (some b))) (hown : w.ownsMap Try.prog 9 (plainElem (H := H) Try.prog 3) b nn D) :
    Calls Try.prog 83 #[.string x, .string y, .pointer (some ⟨bx, 0, none⟩)] w fun e w' => e = .returned (.int .i64 (cmI (plD D x) (plD D y))) ∧ w' = w := by
  have HO := hide hown
  clear hown
  have zv : (zeroValue 3).run Try.prog w = .ok (.int .i64 0) w := Try.zeroValue3 w
  go_enter Try.func83, Try.ntmps83
  go_wp2_with (first | (at_lookup; refine wpList_lookup_own_int _ rfl _ _ 68 rfl 9 3 .i64 (string_keyed Try.underlying9) Try.underlying68 Try.underlying3 zv b nn D rfl (unhide HO) (.string x) _ rfl (Go.WideMaps.keyOf_string_mk Try.underlying9 hx) ?_; intro cx hax hwx) | (at_lookup; refine wpList_lookup_own_int _ rfl _ _ 68 rfl 9 3 .i64 (string_keyed Try.underlying9) Try.underlying68 Try.underlying3 zv b nn D rfl (unhide HO) (.string y) _ rfl (Go.WideMaps.keyOf_string_mk Try.underlying9 hy) ?_; intro cy hay hwy))
  have ex : plD D x = cx := by unfold plD; rw [hax]
  have ey : plD D y = cy := by unfold plD; rw [hay]
  rw [← ex, ← ey]
  clear ex ey hax hay hwx hwy
  refine (cmpI _ _ _).mono ?_
  rintro e w1 ⟨rfl, e1⟩
  subst w1
  go_wp2
  go_ret
  exact ⟨rfl, rfl⟩
/-- the place of the least among the first k -/
def mnP (v : Nat → Int) (k i : Nat) : Prop := i < k ∧ (∀ j, j < k → v i ≤ v j) ∧ ∀ j, j < i → v i < v j
set_option maxHeartbeats 1000000 in
theorem mnF {H : Type} (bx b nn : Nat) (D : DataW H) (ab off n cap : Nat) (F : Nat → ByteArray) (hn : n ≤ 1048576) (h1 : 1 ≤ n) (hz : ∀ i, i < n → (F i).size ≤ maxLen) (w : World) (hs : ∀ i, i < n → w.cell? ⟨ab, off + i, none⟩ = some (.string (F i))) (hc : w.cell? ⟨bx, 0, none⟩ = some (.map (some b))) (hown : w.ownsMap Try.prog 9 (plainElem (H := H) Try.prog 3) b nn D) :
    Calls Try.prog 80 #[.slice (some ⟨ab, off, none⟩) n cap, .func (.func 83) #[] #[.pointer (some ⟨bx, 0, none⟩)]] w fun e w' => ∃ i, e = .returned (.string (F i)) ∧ mnP (fun j => plD D (F j)) n i ∧ w' = w := by
  have HC := hide (fun i j (hi : i < n) (hj : j < n) => nw1 bx b nn D (F i) (F j) (hz i hi) (hz j hj) w hc hown)
  have HS := hide hs
  have c0 := hs 0 (by omega)
  have g1 : ¬ (n : Int) < 1 := by omega
  have g2 : 0 < n := by omega
  rw [Nat.add_zero] at c0
  clear hs hown hc hz
  go_enter Try.func80, Try.ntmps80
  go_wp2_with fail
  clear c0 g1 g2
  go_loopw [5, 6] (fun m i wr => ∃ k p : Nat, 1 ≤ k ∧ k ≤ n ∧ i = .int .i64 k ∧ m = .string (F p) ∧ mnP (fun j => plD D (F j)) k p ∧ wr = w) (fun _ i _ => n - (intOf i).toNat)
  case atStart => exact ⟨1, 0, by omega, h1, rfl, rfl, ⟨by omega, fun j hj => by obtain rfl : j = 0 := (by omega); exact Int.le_refl _, fun j hj => by omega⟩, rfl⟩
  case round =>
    obtain ⟨k, p, hk1, hk, rfl, rfl, hP, rfl⟩ := hrel
    by_cases hlt : k < n
    · have ck := unhide HS k hlt
      have hnk : (k : Int) < (n : Int) := by omega
      have HK := hide (unhide HC k p hlt (by have := hP.1; omega))
      have HP := hide hP
      have HPN : Hid (plD D (F k) < plD D (F p) → mnP (fun j => plD D (F j)) (k + 1) k) := fun h => ⟨by omega, fun j hj => by
          by_cases hjk : j = k
          · subst hjk; exact Int.le_refl _
          · exact Int.le_trans (Int.le_of_lt h) ((unhide HP).2.1 j (by omega)), fun j hj => Int.lt_of_lt_of_le h ((unhide HP).2.1 j hj)⟩
      have HPO : Hid (¬ plD D (F k) < plD D (F p) → mnP (fun j => plD D (F j)) (k + 1) p) := fun h => ⟨by have := (unhide HP).1; omega, fun j hj => by
          by_cases hjk : j = k
          · subst hjk; exact Int.not_lt.1 h
          · exact (unhide HP).2.1 j (by omega), (unhide HP).2.2⟩
      clear hP
      by_cases hc : plD D (F k) < plD D (F p)
      · have e : cmI (plD D (F k)) (plD D (F p)) = -1 := by unfold cmI; rw [if_pos hc]
        rw [e] at HK
        have HPN2 := hide (unhide HPN hc)
        clear HPO HPN HP e hc
        go_wp2_with fail
        refine (unhide HK).mono ?_
        rintro e w1 ⟨rfl, e1⟩
        subst w1
        go_wp2
        exact ⟨⟨k + 1, k, by omega, by omega, by go_num, rfl, unhide HPN2, by trivial⟩, by simp [intOf]; omega⟩
      · obtain ⟨c, hcc, hc0⟩ : ∃ c : Int, cmI (plD D (F k)) (plD D (F p)) = c ∧ ¬ c < 0 := by
          refine ⟨_, rfl, ?_⟩
          unfold cmI
          rw [if_neg hc]
          split <;> omega
        rw [hcc] at HK
        have HPO2 := hide (unhide HPO hc)
        clear HPN HPO HP hcc hc
        go_wp2_with fail
        refine (unhide HK).mono ?_
        rintro e w1 ⟨rfl, e1⟩
        subst w1
        go_wp2
        exact ⟨⟨k + 1, p, by omega, by omega, by go_num, rfl, unhide HPO2, by trivial⟩, by simp [intOf]; omega⟩
    · obtain rfl : k = n := by omega
      have HP := hide hP
      clear hP
      go_wp2
      go_ret
      exact ⟨p, rfl, unhide HP, rfl⟩
/-- the bytes of a text, as a text -/
def tx (l : List UInt8) : ByteArray := ⟨l.toArray⟩
theorem tx_data (l : List UInt8) : (tx l).data.toList = l := rfl
theorem keys_len {H : Type} (D : DataW H) : (strKeys D).length = Maps.size D := by cases D <;> simp [strKeys, Maps.size]
theorem getD_in {α : Type} (l : List α) (d : α) {i : Nat} (h : i < l.length) : l.getD i d = l[i] := by simp [List.getD, h]
theorem enc_tx (l : List UInt8) : encStr l = .string (tx l) := rfl
set_option maxHeartbeats 2000000 in
theorem newest_in {H : Type} (b nn : Nat) (D : DataW H) (w : World) (hown : w.ownsMap Try.prog 9 (plainElem (H := H) Try.prog 3) b nn D) (h1 : 1 ≤ Maps.size D) (h2 : Maps.size D ≤ 1000) (hz : ∀ l ∈ strKeys D, l.length ≤ maxLen) :
    Calls Try.prog 63 #[.map (some b)] w fun e w' => ∃ l ∈ strKeys D, e = .returned (.string (tx l)) ∧ (∀ l' ∈ strKeys D, plD D (tx l) ≤ plD D (tx l')) ∧ Below w.heap.size w w' := by
  refine (callsIn_wide (n := 8)).1 ?_
  have hbl := hown.lt
  have b0 := (Below.refl w.heap.size w).alloc (Nat.le_refl _) (.cells #[.map (some b)] 68)
  have b1 := b0.alloc (by simp) (.cells #[.map (some b)] 68)
  have ho : ((w.alloc (.cells #[.map (some b)] 68)).alloc (.cells #[.map (some b)] 68)).ownsMap Try.prog 9 (plainElem (H := H) Try.prog 3) b nn D := (hown.alloc _).alloc _
  have hseq : SeqGives Fence.wide 5 Try.prog 99 #[.pointer (some ⟨w.heap.size + 1, 0, none⟩)] encStr (fun ss => ss.Perm (strKeys D)) (Maps.size D) ((w.alloc (.cells #[.map (some b)] 68)).alloc (.cells #[.map (some b)] 68)) :=
    AnyZ.keys_gives (ρ := Try.laysZ7_ren) { Try.laysZ7 with } Fence.wide _ trivial rfl (by omega) (w.heap.size + 1) b nn D _ (by simp) (by simp) ho
  have cK : ∀ mb W, CallsIn Fence.wide 7 Try.prog 82 #[.map mb] W fun e w' => e = .returned (.func (.func 99) #[] #[.pointer (some ⟨W.heap.size, 0, none⟩)]) ∧ w' = W.alloc (.cells #[.map mb] 68) := fun mb W => AnyZ.keys_in Try.laysZ7 Fence.wide 7 trivial rfl mb W
  have cS := AnyZ.collect_in Try.laysZ8 Fence.wide 7 trivial trivial rfl (by omega) 99 #[.pointer (some ⟨w.heap.size + 1, 0, none⟩)] trivial (enters_of Try.func99 (by kernel_rfl) rfl) _ _ (by unfold maxLen; omega) (by omega) _ hseq
  change CallsIn _ _ Try.prog 81 _ _ _ at cS
  refine callsIn_of_wp Try.func63 rfl trivial ?_ rfl
  simp only [Try.ntmps63, List.size_toArray, List.length_cons, List.length_nil, Nat.reduceAdd, Nat.reduceSub, Array.replicate_succ, Array.replicate_zero, List.push_toArray, List.append_toArray, List.nil_append, List.cons_append]
  have hfK : Fence.wide.fn 82 := trivial
  have hfS : Fence.wide.fn 81 := trivial
  gi_wp2_with (first
    | (gi_at_call 82; refine (cK _ _).mono ?_; rintro e w' ⟨rfl, rfl⟩)
    | (gi_at_call 81; refine cS.mono ?_; rintro e w2 ⟨v, ss, rfl, hS, hrow, hnil, hb⟩))
  have hlen : ss.length = Maps.size D := hS.length_eq.trans (keys_len D)
  have hmem : ∀ i, i < ss.length → ss.getD i [] ∈ strKeys D := fun i hi => hS.mem_iff.1 (by rw [getD_in _ _ hi]; exact List.getElem_mem hi)
  have hat : ∀ l' ∈ strKeys D, ∃ j, j < ss.length ∧ ss.getD j [] = l' := fun l' hl => by
    obtain ⟨j, hj, e⟩ := List.getElem_of_mem (hS.mem_iff.2 hl)
    exact ⟨j, hj, by rw [getD_in _ _ hj]; exact e⟩
  rcases hrow.2 with ⟨_, e0⟩ | ⟨g, cap, cur, rfl, hg, hgg, hnc, _⟩
  · omega
  have hcs : ∀ i, i < ss.length → w2.cell? ⟨g, 0 + i, none⟩ = some (.string (tx (ss.getD i []))) := fun i hi => by
    rw [Nat.zero_add, World.ownsRow.cellAt hrow i (by omega), List.getElem?_map, List.getElem?_eq_getElem hi, Option.map_some, enc_tx, getD_in _ _ hi]
  have hcb : w2.cell? ⟨w.heap.size, 0, none⟩ = some (.map (some b)) := ((bcell hb).1 _ 0 (by simp; omega)).trans (by simp)
  have ho2 : w2.ownsMap Try.prog 9 (plainElem (H := H) Try.prog 3) b nn D := ho.kept (row := none) ⟨hb.os, hb.tape, hb.output, hb.size, fun i hi _ => hb.block i hi⟩ (fun e => by cases e)
  have MF := mnF w.heap.size b nn D g 0 ss.length cap (fun i => tx (ss.getD i [])) (by omega) (by omega) (fun i hi => by have := hz _ (hmem i hi); simpa [tx, ByteArray.size] using this) w2 hcs hcb ho2
  have hbw : Below w.heap.size w w2 := b1.trans (hb.mono (by simp; omega))
  refine ⟨trivial, ?_⟩
  refine (callsIn_wide.2 MF).mono ?_
  rintro e w3 ⟨i, rfl, hm, h9⟩
  subst h9
  clear MF ho2 hcb hcs ho hseq cK cS
  gi_wp2
  go_ret
  refine ⟨ss.getD i [], hmem i hm.1, rfl, fun l' hl => ?_, hbw⟩
  obtain ⟨j, hj, rfl⟩ := hat l' hl
  exact hm.2.1 j hj
end Go.Proofs.Ytkpodgeinanceaa
namespace Go.Proofs.Ytkpodgeinanceaa
open Go.ChangeShapes Go.WideShapes Go.ChangeAt Go.RowKit Go.Shelf Go.Maps
set_option linter.unusedVariables false
set_option maxRecDepth 100000
attribute [local go_sem] Oper.semAt_some

/-- the key of the least place -/
def nwk {H : Type} (D : DataW H) (k : ByteArray) : Prop := 1 ≤ Maps.size D ∧ Maps.size D ≤ 1000 ∧ (∀ l ∈ strKeys D, l.length ≤ maxLen) ∧ k.size ≤ maxLen ∧ ∀ l ∈ strKeys D, (∀ l' ∈ strKeys D, plD D (tx l) ≤ plD D (tx l')) → tx l = k
/-- a map is emptied so -/
def Ch {H : Type} : List ByteArray → DataW H → Prop
  | [], D => Maps.size D = 0
  | k :: T, D => nwk D k ∧ Ch T (D.del (.string k.data.toList))
abbrev Um {H : Type} (w : World) (mb nn : Nat) (D : DataW H) : Prop := w.ownsMap Try.prog 9 (plainElem (H := H) Try.prog 3) mb nn D

theorem grown_two {W w1 w2 : World} {mb : Nat} (b1 : Below W.heap.size W w1) (g : w1.grownBy w2 (some mb)) : W.grownBy w2 (some mb) :=
  ⟨g.os.trans b1.os, g.tape.trans b1.tape, g.output.trans b1.output, Nat.le_trans b1.size g.size, fun k hk hne => (g.block k (Nat.lt_of_lt_of_le hk b1.size) hne).trans (b1.block k hk)⟩
theorem um_below {H : Type} {W W' : World} {mb nn : Nat} {D : DataW H} (h : Um W mb nn D) (hb : Below W.heap.size W W') : Um W' mb nn D := World.ownsMap.kept (row := none) h ⟨hb.os, hb.tape, hb.output, hb.size, fun i hi _ => hb.block i hi⟩ (fun e => by cases e)
theorem cell_grown {W w2 : World} {mb bx : Nat} {v : Value} (g : W.grownBy w2 (some mb)) (hb : W.cell? ⟨bx, 0, none⟩ = some v) (hne : bx ≠ mb) : w2.cell? ⟨bx, 0, none⟩ = some v := (World.cell?_of_block (a := ⟨bx, 0, none⟩) (g.block bx (World.block_lt_of_cell? W _ hb) (fun e => hne (by cases e; rfl)))).trans hb
set_option maxHeartbeats 4000000 in
theorem nf1_in {H : Type} (l mb bx nn : Nat) (D : DataW H) (T : List ByteArray) (hT : T.length ≤ 2) (hCh : Ch T D) (J Jx : List ByteArray → World → Prop)
    (hJ : ∀ pre W W', J pre W → W.grownBy W' (some mb) → J pre W')
    (hY : ∀ pre x W, x ∈ T → J pre W → YieldAt Fence.wide 1 Try.prog l #[.string x] W fun e W' =>
      (e = .returned (.bool true) ∧ J (pre ++ [x]) W' ∧ Below W.heap.size W W') ∨ (e = .returned (.bool false) ∧ Jx (pre ++ [x]) W'))
    (W : World) (hbx : W.cell? ⟨bx, 0, none⟩ = some (.map (some mb))) (hm : Um W mb nn D) (hne : bx ≠ mb) (h0 : J [] W) :
    CallsIn Fence.wide 2 Try.prog 62 #[.func (.yield l) #[] #[], .pointer (some ⟨bx, 0, none⟩)] W fun e W' => (∃ v, e = .returned v) ∧
      (J T W' ∨ ∃ k, 1 ≤ k ∧ k ≤ T.length ∧ Jx (T.take k) W') := by
  refine callsIn_of_wp Try.func62 rfl trivial ?_ rfl
  simp only [Try.ntmps62, List.size_toArray, List.length_cons, List.length_nil, Nat.reduceAdd, Nat.reduceSub, Array.replicate_succ, Array.replicate_zero, List.push_toArray, List.append_toArray, List.nil_append, List.cons_append]
  gi_wp2
  refine wpIn_loop_rounds 3 ?_
  rw [roundsIn_succ]
  rcases T with _ | ⟨k0, _ | ⟨k1, _ | ⟨k2, T⟩⟩⟩
  · have hz : ¬ (0 : Int) < (Maps.size D : Int) := by have : Maps.size D = 0 := hCh; omega
    gi_wp2_with (gi_at_len; refine wpListIn_len_own _ rfl _ 68 rfl 9 3 Try.underlying68 _ mb nn D rfl hm ?_)
    go_end0
    exact ⟨⟨_, rfl⟩, .inl h0⟩
  · obtain ⟨hnw0, hch0⟩ := hCh
    obtain ⟨z1, z2, z3, zk0, z4⟩ := hnw0
    have hz : (0 : Int) < (Maps.size D : Int) := by omega
    have NW := newest_in mb nn D W hm z1 z2 z3
    gi_wp2_with (gi_at_len; refine wpListIn_len_own _ rfl _ 68 rfl 9 3 Try.underlying68 _ mb nn D rfl hm ?_)
    refine ⟨trivial, ?_⟩
    refine (callsIn_wide.2 NW).mono ?_
    rintro e v0 ⟨lk, hlk, rfl, hmin, b1⟩
    rw [z4 lk hlk hmin]
    have m1 := um_below hm b1
    have c1 : v0.cell? ⟨bx, 0, none⟩ = some (.map (some mb)) := ((bcell b1).1 _ 0 (World.block_lt_of_cell? _ _ hbx)).trans hbx
    clear NW hmin hlk z1 z2 z3 z4 hz
    gi_wp2_with (gi_at_delete; refine wpListIn_delete_own _ rfl _ _ 68 9 rfl 3 (string_keyed Try.underlying9) Try.underlying68 _ mb nn _ rfl m1 _ _ rfl (Go.WideMaps.keyOf_string_mk Try.underlying9 zk0) ?_; intro u0 m2 t2; have g2 := grown_two b1 t2.grown; have c2 := cell_grown g2 hbx hne; obtain ⟨fn, tmps, assign, body, hy, hR⟩ := hY [] k0 u0 (by simp) (hJ _ _ _ h0 g2))
    refine hR.mono ?_
    rintro e W0 (⟨rfl, j0, kp0⟩ | ⟨rfl, jx⟩)
    · have m3 := um_below m2 kp0
      have c3 : W0.cell? ⟨bx, 0, none⟩ = some (.map (some mb)) := ((bcell kp0).1 _ 0 (World.block_lt_of_cell? _ _ c2)).trans c2
      clear hR hy c2 m2 t2 g2 m1 c1 b1
      gi_wp2
      rw [roundsIn_succ]
      have hz : ¬ (0 : Int) < (Maps.size (D.del (.string k0.data.toList)) : Int) := by have : Maps.size (D.del (.string k0.data.toList)) = 0 := hch0; omega
      gi_wp2_with (gi_at_len; refine wpListIn_len_own _ rfl _ 68 rfl 9 3 Try.underlying68 _ mb nn (D.del (.string k0.data.toList)) rfl m3 ?_)
      go_end0
      exact ⟨⟨_, rfl⟩, .inl j0⟩
    · gi_wp2
      refine bodyPost_ret (results_none rfl _ _ _) rfl ?_
      exact ⟨⟨_, rfl⟩, .inr ⟨1, by omega, by simp, jx⟩⟩
  · obtain ⟨hnw0, hch0⟩ := hCh
    obtain ⟨z1, z2, z3, zk0, z4⟩ := hnw0
    have hz : (0 : Int) < (Maps.size D : Int) := by omega
    have NW := newest_in mb nn D W hm z1 z2 z3
    gi_wp2_with (gi_at_len; refine wpListIn_len_own _ rfl _ 68 rfl 9 3 Try.underlying68 _ mb nn D rfl hm ?_)
    refine ⟨trivial, ?_⟩
    refine (callsIn_wide.2 NW).mono ?_
    rintro e v0 ⟨lk, hlk, rfl, hmin, b1⟩
    rw [z4 lk hlk hmin]
    have m1 := um_below hm b1
    have c1 : v0.cell? ⟨bx, 0, none⟩ = some (.map (some mb)) := ((bcell b1).1 _ 0 (World.block_lt_of_cell? _ _ hbx)).trans hbx
    clear NW hmin hlk z1 z2 z3 z4 hz
    gi_wp2_with (gi_at_delete; refine wpListIn_delete_own _ rfl _ _ 68 9 rfl 3 (string_keyed Try.underlying9) Try.underlying68 _ mb nn _ rfl m1 _ _ rfl (Go.WideMaps.keyOf_string_mk Try.underlying9 zk0) ?_; intro u0 m2 t2; have g2 := grown_two b1 t2.grown; have c2 := cell_grown g2 hbx hne; obtain ⟨fn, tmps, assign, body, hy, hR⟩ := hY [] k0 u0 (by simp) (hJ _ _ _ h0 g2))
    refine hR.mono ?_
    rintro e W0 (⟨rfl, j0, kp0⟩ | ⟨rfl, jx⟩)
    · have m3 := um_below m2 kp0
      have c3 : W0.cell? ⟨bx, 0, none⟩ = some (.map (some mb)) := ((bcell kp0).1 _ 0 (World.block_lt_of_cell? _ _ c2)).trans c2
      clear hR hy c2 m2 t2 g2 m1 c1 b1
      gi_wp2
      rw [roundsIn_succ]
      obtain ⟨hnw1, hch1⟩ := hch0
      obtain ⟨z1, z2, z3, zk1, z4⟩ := hnw1
      have hz : (0 : Int) < (Maps.size (D.del (.string k0.data.toList)) : Int) := by omega
      have NW := newest_in mb nn (D.del (.string k0.data.toList)) W0 m3 z1 z2 z3
      gi_wp2_with (gi_at_len; refine wpListIn_len_own _ rfl _ 68 rfl 9 3 Try.underlying68 _ mb nn (D.del (.string k0.data.toList)) rfl m3 ?_)
      refine ⟨trivial, ?_⟩
      refine (callsIn_wide.2 NW).mono ?_
      rintro e v1 ⟨lk, hlk, rfl, hmin, b1⟩
      rw [z4 lk hlk hmin]
      have m1 := um_below m3 b1
      have c1 : v1.cell? ⟨bx, 0, none⟩ = some (.map (some mb)) := ((bcell b1).1 _ 0 (World.block_lt_of_cell? _ _ c3)).trans c3
      clear NW hmin hlk z1 z2 z3 z4 hz
      gi_wp2_with (gi_at_delete; refine wpListIn_delete_own _ rfl _ _ 68 9 rfl 3 (string_keyed Try.underlying9) Try.underlying68 _ mb nn _ rfl m1 _ _ rfl (Go.WideMaps.keyOf_string_mk Try.underlying9 zk1) ?_; intro u1 m2 t2; have g2 := grown_two b1 t2.grown; have c2 := cell_grown g2 c3 hne; obtain ⟨fn, tmps, assign, body, hy, hR⟩ := hY [k0] k1 u1 (by simp) (hJ _ _ _ j0 g2))
      refine hR.mono ?_
      rintro e W1 (⟨rfl, j1, kp1⟩ | ⟨rfl, jx⟩)
      · have m3 := um_below m2 kp1
        have c3 : W1.cell? ⟨bx, 0, none⟩ = some (.map (some mb)) := ((bcell kp1).1 _ 0 (World.block_lt_of_cell? _ _ c2)).trans c2
        clear hR hy c2 m2 t2 g2 m1 c1 b1
        gi_wp2
        rw [roundsIn_succ]
        have hz : ¬ (0 : Int) < (Maps.size (DataW.del (D.del (.string k0.data.toList)) (.string k1.data.toList)) : Int) := by have : Maps.size (DataW.del (D.del (.string k0.data.toList)) (.string k1.data.toList)) = 0 := hch1; omega
        gi_wp2_with (gi_at_len; refine wpListIn_len_own _ rfl _ 68 rfl 9 3 Try.underlying68 _ mb nn (DataW.del (D.del (.string k0.data.toList)) (.string k1.data.toList)) rfl m3 ?_)
        go_end0
        exact ⟨⟨_, rfl⟩, .inl j1⟩
      · gi_wp2
        refine bodyPost_ret (results_none rfl _ _ _) rfl ?_
        exact ⟨⟨_, rfl⟩, .inr ⟨2, by omega, by simp, jx⟩⟩
    · gi_wp2
      refine bodyPost_ret (results_none rfl _ _ _) rfl ?_
      exact ⟨⟨_, rfl⟩, .inr ⟨1, by omega, by simp, jx⟩⟩
  · simp at hT
end Go.Proofs.Ytkpodgeinanceaa
namespace Go.Proofs.Ytkpodgeinanceaa
open Go.ChangeShapes Go.WideShapes Go.ChangeAt Go.RowKit Go.Shelf Go.Maps
set_option linter.unusedVariables false
set_option maxRecDepth 100000
attribute [local go_sem] Oper.semAt_some

/-- how a round ends -/
def rnP (I Ix : List ByteArray → World → Prop) (mb : Nat) (xs : List ByteArray) (W : World) : Exit → Act → World → Prop
  | .normal, _, W' => Below W.heap.size W W' ∧ I xs W'
  | .ret, _, W' => W.heap.size ≤ W'.heap.size ∧ (∀ k, mb ≤ k → k < W.heap.size → W'.heap[k]? = W.heap[k]?) ∧ Ix xs W'
  | _, _, _ => False

theorem below_put {n l : Nat} {W : World} (o : Obj) (h : n ≤ l) : Below n W (W.putObj l o) :=
  ⟨rfl, rfl, rfl, by simp, fun k hk => World.putObj_heap_other (by omega)⟩

set_option maxHeartbeats 1000000 in
theorem rangeNF {H : Type} {g : Operand} {ps : Array Tmp} {assign body : Code} {Q : Exit → Act → World → Prop} {a : Act} {w : World}
    (mb bx nn : Nat) (D : DataW H) (T : List ByteArray) (hT : T.length ≤ 2) (hCh : Ch T D)
    (hg : a.eval g = .func (.func 62) #[] #[.pointer (some ⟨bx, 0, none⟩)]) (hps : ps.size = 1)
    (hbx : w.cell? ⟨bx, 0, none⟩ = some (.map (some mb))) (hm : Um w mb nn D) (hne : bx ≠ mb) (hmb : mb < w.heap.size)
    (I Ix : List ByteArray → World → Prop) (hI : ∀ s W W', I s W → Below mb W W' → I s W') (hIx : ∀ s W W', Ix s W → Below mb W W' → Ix s W') (h0 : I [] w) (a₁ : ByteArray → Act)
    (hassign : ∀ (l : Nat) (x : ByteArray) (W : World) (K : Act → World → Prop), K (a₁ x) W →
      assign.wpIn (Fence.wide.inRound l) 1 Try.prog (Exit.then K (fun _ _ _ => False)) { tmps := (ps.zip #[.string x]).foldl (fun t (p, v) => t.setIfInBounds p v) a.tmps, defers := [] } W)
    (hbody : ∀ (l : Nat) (pre : List ByteArray) (x : ByteArray) (W : World), x ∈ T → I pre W → body.wpIn (Fence.wide.inRound l) 1 Try.prog (rnP I Ix mb (pre ++ [x]) W) (a₁ x) W)
    (hdone : ∀ (E : Nat) (W : World), mb < E → I T W → W.heap[E]? = some (.deferred (some [])) → Q .normal { a with defers := { target := .collected E, args := #[] } :: a.defers } W)
    (hstop : ∀ (E k : Nat) (W : World), mb < E → 1 ≤ k → k ≤ T.length → Ix (T.take k) W → W.heap[E]? = some (.deferred (some [])) → Code.ret.wpIn Fence.wide 6 Try.prog Q { a with defers := { target := .collected E, args := #[] } :: a.defers } W) :
    (Code.rangeFunc g ps assign body).wpIn Fence.wide 6 Try.prog Q a w := by
  refine wpIn_rangeFunc ?_
  intro fn hfn
  obtain ⟨rec, hrec⟩ : ∃ rec : LoopState → Option Code → Loop, rec = fun st pe => { state := st, pending := pe, fn, tmps := a.tmps, params := ps, assign, body, defers := w.heap.size } := ⟨_, rfl⟩
  obtain ⟨W1, hW1⟩ : ∃ W1, (w.alloc (.deferred (some []))).alloc (.loop (rec .ready none)) = W1 := ⟨_, rfl⟩
  have hL1 : W1.heap[w.heap.size + 1]? = some (.loop (rec .ready none)) := by
    rw [← hW1]; have := World.alloc_heap_new (w.alloc (.deferred (some []))) (.loop (rec .ready none)); rwa [World.size_alloc] at this
  have hK1 : W1.heap[w.heap.size]? = some (.deferred (some [])) := by
    rw [← hW1]; exact (Below.heap_alloc _ _ _ (by simp)).trans (World.alloc_heap_new w _)
  have hb1 : Below w.heap.size w W1 := by
    rw [← hW1]; exact ((Below.refl _ w).alloc (Nat.le_refl _) _).alloc (by simp) _
  have hI1 : I [] W1 := hI _ _ _ h0 (hb1.mono (by omega))
  refine ⟨w.heap.size + 1, [{ target := .collected w.heap.size, args := #[] }], W1, { target := .fn (.func 62) #[.pointer (some ⟨bx, 0, none⟩)], args := #[.func (.yield (w.heap.size + 1)) #[] #[]] }, W1, 62,
    #[.func (.yield (w.heap.size + 1)) #[] #[], .pointer (some ⟨bx, 0, none⟩)], W1, ?_, ?_, ?_, ?_, fun _ => by omega, ?_⟩
  · rw [← hW1, hrec]; exact run_enterLoop_outer _ _ _ _ _
  · simp only [resolve, hg]
    simp [go_sem]
  · intro f' hf'; trivial
  · have eg := enters_of Try.func62 (by kernel_rfl) rfl
    simp [invoke, go_sem]
  · refine (callsIn_wide.2 (callsIn_wide.1 (nf1_in (w.heap.size + 1) mb bx nn D T hT hCh
      (fun pre W => I pre W ∧ W.heap[w.heap.size + 1]? = some (.loop (rec .ready none)) ∧ W.heap[w.heap.size]? = some (.deferred (some [])))
      (fun pre W => Ix pre W ∧ W.heap[w.heap.size + 1]? = some (.loop (rec .done (some .ret))) ∧ W.heap[w.heap.size]? = some (.deferred (some [])))
      ?_ ?_ W1 (((bcell hb1).1 _ 0 (World.block_lt_of_cell? _ _ hbx)).trans hbx) (um_below hm hb1) hne ⟨hI1, hL1, hK1⟩))).mono ?_
    · rintro pre A B ⟨hi, hl, hk⟩ hgr
      have ll := (Array.getElem?_eq_some_iff.1 hl).1
      have kl := (Array.getElem?_eq_some_iff.1 hk).1
      exact ⟨hI _ _ _ hi ⟨hgr.os, hgr.tape, hgr.output, hgr.size, fun k hk' => hgr.block k (by omega) (fun e => by cases e; omega)⟩,
        (hgr.block _ ll (fun e => by cases e; omega)).trans hl, (hgr.block _ kl (fun e => by cases e; omega)).trans hk⟩
    · rintro pre x W hx ⟨hi, hl, hk⟩
      have hlt : w.heap.size + 1 < W.heap.size := (Array.getElem?_eq_some_iff.1 hl).1
      have hy := run_yield (P := Try.prog) (args := #[.string x]) hl (by rw [hrec]; simp [hps])
      rw [hrec] at hy
      refine ⟨fn, _, assign, body, hy, roundIn_of_wpIn hfn (hassign _ x W _ ⟨_, run_beginRound hl (by rw [hrec]), ?_⟩)⟩
      have hl2 : (W.putObj (w.heap.size + 1) (.loop { rec .ready none with state := .busy })).heap[w.heap.size + 1]? = some (.loop { rec .ready none with state := .busy }) := World.putObj_heap_same hlt
      have hk2 : (W.putObj (w.heap.size + 1) (.loop { rec .ready none with state := .busy })).heap[w.heap.size]? = some (.deferred (some [])) := (World.putObj_heap_other (by omega)).trans hk
      have hz2 : (W.putObj (w.heap.size + 1) (.loop { rec .ready none with state := .busy })).heap.size = W.heap.size := by simp
      have ho2 : ∀ k, k ≠ w.heap.size + 1 → (W.putObj (w.heap.size + 1) (.loop { rec .ready none with state := .busy })).heap[k]? = W.heap[k]? := fun k hk => World.putObj_heap_other hk
      have hb2 : Below mb W (W.putObj (w.heap.size + 1) (.loop { rec .ready none with state := .busy })) := below_put _ (by omega)
      generalize hV : W.putObj (w.heap.size + 1) (.loop { rec .ready none with state := .busy }) = V at *
      refine wpIn_mono (hbody _ pre x _ hx (hI _ _ _ hi hb2)) ?_
      rintro e a3 W3 hp
      cases e with
      | normal =>
        obtain ⟨b3, hi3⟩ := hp
        have hl3 := (b3.block _ (by omega)).trans hl2
        have hr := run_endRound (P := Try.prog) none hl3
        have hk3 := (b3.block _ (by omega)).trans hk2
        rw [hrec] at hr
        refine ⟨_, _, hr, .inl ⟨rfl, ⟨hI _ _ _ hi3 (below_put _ (by omega)), ?_, (World.putObj_heap_other (by omega)).trans hk3⟩, ?_⟩⟩
        · rw [hrec]; exact World.putObj_heap_same (Array.getElem?_eq_some_iff.1 hl3).1
        · refine ⟨by rw [← hV] at b3; exact b3.os, by rw [← hV] at b3; exact b3.tape, by rw [← hV] at b3; exact b3.output, by have := b3.size; simp; omega, fun k hk' => ?_⟩
          by_cases e : k = w.heap.size + 1
          · subst e
            rw [hl, hrec]; exact World.putObj_heap_same (Array.getElem?_eq_some_iff.1 hl3).1
          · exact (World.putObj_heap_other e).trans ((b3.block k (by omega)).trans (ho2 k e))
      | ret =>
        obtain ⟨z3, o3, hi3⟩ := hp
        have hl3 := (o3 _ (by omega) (by omega)).trans hl2
        have hr := run_endRound (P := Try.prog) (some .ret) hl3
        have hk3 := (o3 _ (by omega) (by omega)).trans hk2
        rw [hrec] at hr
        refine ⟨_, _, hr, .inr ⟨rfl, hIx _ _ _ hi3 (below_put _ (by omega)), ?_, (World.putObj_heap_other (by omega)).trans hk3⟩⟩
        rw [hrec]; exact World.putObj_heap_same (Array.getElem?_eq_some_iff.1 hl3).1
      | exit id => exact hp.elim
      | goto t => exact hp.elim
      | panic ch => exact hp.elim
      | outgrown => exact hp.elim
    · rintro e W2 ⟨⟨v, rfl⟩, (⟨hi, hl, hk⟩ | ⟨k, hk1, hk2, hi, hl, hk⟩)⟩
      · exact ⟨none, _, by have := run_endLoop (P := Try.prog) hl (by rw [hrec]; simp); rw [hrec] at this; exact this, hdone _ _ (by omega) (hI _ _ _ hi (below_put _ (by omega))) ((World.putObj_heap_other (by omega)).trans hk)⟩
      · exact ⟨some .ret, _, by have := run_endLoop (P := Try.prog) hl (by rw [hrec]; simp); rw [hrec] at this; exact this, hstop _ k _ (by omega) hk1 hk2 (hIx _ _ _ hi (below_put _ (by omega))) ((World.putObj_heap_other (by omega)).trans hk)⟩
theorem any_round {F : Fence} {n : Nat} {P : Program} {md : Region.Mode} {ops : Array Oper} {Q : Exit → Act → World → Prop} (l : Nat) (hro : F.round = none) (hnd : ∀ (j : Nat) (o : Oper), ops[j]? = some o → ∀ c, o.op ≠ .defer c) :
    ∀ (fuel : Nat) (listed : Array Bool) (a : Act) (w : World), wpAnyIn F n P md ops Q fuel listed a w → wpAnyIn (F.inRound l) n P md ops Q fuel listed a w
  | 0, _, _, _, h => h
  | fuel + 1, listed, a, w, h => by
    refine ⟨h.1, fun i hi => ?_⟩
    have h2 := wpOpIn_mono (fun a' w' h' => any_round l hro hnd fuel _ a' w' h') (h.2 i hi)
    unfold wpOpIn at h2 ⊢
    cases ho : ops[i]? with
    | none => simp only [ho] at h2 ⊢; exact h2
    | some o =>
      simp only [ho] at h2 ⊢
      by_cases hw : Region.wanted o (yielded ops a.tmps) = true
      · rw [if_pos hw] at h2 ⊢
        refine ⟨h2.1, ?_⟩
        have h3 := h2.2
        rw [hro, Oper.semAt_none] at h3
        rw [Oper.semAt_eq _ _ _ (hnd i o ho)]
        exact h3
      · rw [if_neg hw] at h2 ⊢
        exact h2
theorem reg_round {F : Fence} {n : Nat} {P : Program} {ops : Array Oper} {Q : Exit → Act → World → Prop} {id : Nat} {a : Act} {w : World} (l : Nat) (hro : F.round = none) (hm : P.follows .mixedOrders = true) (hnd : ∀ (j : Nat) (o : Oper), ops[j]? = some o → ∀ c, o.op ≠ .defer c)
    (h : wpAnyIn F n P .any ops Q ops.size (Array.replicate ops.size false) a w.drew) : (Code.region id ops true).wpIn (F.inRound l) n P Q a w :=
  wpIn_region_any hm (any_round l hro hnd _ _ _ _ h)
/-- no operation is put off -/
def noDef (ops : List Oper) : Bool := ops.all fun o => match o.op with | .defer _ => false | _ => true
theorem noDef_spec {l : List Oper} (h : noDef l = true) : ∀ (j : Nat) (o : Oper), l.toArray[j]? = some o → ∀ c, o.op ≠ .defer c := fun j o ho c e => by
  have h1 := List.all_eq_true.1 h o (List.mem_of_getElem? (by simpa using ho))
  rw [e] at h1
  cases h1
end Go.Proofs.Ytkpodgeinanceaa
