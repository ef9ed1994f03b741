/-
  A slice of bytes with its room, of the call's own: one byte put behind it. Contracts: the model's round keys. Contracts: the model's l3Xor and l3Table. Contracts: the model's l3Mix.
-/
import Derived.Test.YtkpodgeinanceaaOwn
import Derived.ArgAppend
import Derived.Test.YtkpodgeinanceaaAbr
import Derived.Test.YtkpodgeinanceaaGmx
import Derived.Test.YtkpodgeinanceaaAbn
import Derived.Deep.RegionWith
namespace Go.Proofs.Ytkpodgeinanceaa
open Go.ChangeShapes Go.WideShapes Go.ChangeAt Go.RowKit
set_option linter.unusedVariables false

/-- a slice at a place of a block, its room writable -/
structure Sg (w : World) (g o n cap : Nat) (f : Nat → Nat) : Prop where
  ar : Ar w g o n f
  le : n ≤ cap
  sp : ∀ j, n ≤ j → j < cap → (w.cell? ⟨g, o + j, none⟩).isSome = true ∧ w.frozen? ⟨g, o + j, none⟩ = false
def Sp (base : Nat) (w : World) (v : Value) (n : Nat) (f : Nat → Nat) : Prop := ∃ g o cap, v = .slice (some ⟨g, o, none⟩) n cap ∧ base ≤ g ∧ Sg w g o n cap f
theorem Sg.below {w w' : World} {B g o n cap : Nat} {f : Nat → Nat} (h : Sg w g o n cap f) (hb : Below B w w') (hB : g < B) : Sg w' g o n cap f :=
  ⟨h.ar.below hb hB, h.le, fun j h1 h2 => by rw [hb.cell (p := ⟨g, o + j, none⟩) hB, hb.frozen (p := ⟨g, o + j, none⟩) hB]; exact h.sp j h1 h2⟩
theorem Sp.kept {base : Nat} {w w' : World} {v : Value} {n : Nat} {f : Nat → Nat} (h : Sp base w v n f) (hb : Below w.heap.size w w') : Sp base w' v n f := by
  obtain ⟨g, o, cap, rfl, hg, hs⟩ := h
  exact ⟨g, o, cap, rfl, hg, hs.below hb hs.ar.lt⟩
theorem isSome_of_row {w : World} {g : Nat} {cur : Array Value} {e : TypeId} {fr : Nat × Nat} (h : w.heap[g]? = some (.cells cur e fr)) (j : Nat) (hj : j < cur.size) : (w.cell? ⟨g, j, none⟩).isSome = true := by
  rw [cell_of_row w g j cur e fr h]
  simp [hj]
/-- what is left of the other blocks -/
def Ot (g : Nat) (w w' : World) : Prop := w.heap.size ≤ w'.heap.size ∧ ∀ b, b < w.heap.size → b ≠ g → w'.heap[b]? = w.heap[b]?
theorem Ot.ar {g b o n : Nat} {f : Nat → Nat} {w w' : World} (h : Ot g w w') (ha : Ar w b o n f) (hne : b ≠ g) : Ar w' b o n f := by
  have e := h.2 b ha.lt hne
  exact ⟨fun i hi => (World.cell?_of_block (a := ⟨b, o + i, none⟩) e).trans (ha.c i hi), fun i hi => (World.frozen?_of_block (a := ⟨b, o + i, none⟩) e).trans (ha.fz i hi), Nat.lt_of_lt_of_le ha.lt h.1⟩
theorem heap_setCells (b : Nat) : ∀ (vs : List Value) (o : Nat) (w : World) (k : Nat), k ≠ b → (w.setCells b o vs).heap[k]? = w.heap[k]?
  | [], _, _, _, _ => rfl
  | v :: r, o, w, k, h => by rw [World.setCells, heap_setCells b r (o + 1) _ k h]; exact Below.heap_setCell _ _ _ _ h

theorem Sg.push {base : Nat} {w : World} {g o n cap : Nat} {f : Nat → Nat} (h : Sg w g o n cap f) (hg : base ≤ g) (hbase : base ≤ w.heap.size) (ad : Addr) (c : Nat) (x : Value) (hx : w.cell? ad = some x) (hfx : x = .int .u8 (f n : Nat)) (had : ad.add 0 = ad) (hn : n ≤ 1048576) (ty : TypeId) :
    ∃ g' o' cap' w', (Builtin.append_ #[32, 32] ty #[.slice (some ⟨g, o, none⟩) n cap, .slice (some ad) 1 c]).run Try.prog w = .ok (.slice (some ⟨g', o', none⟩) (n + 1) cap') w' ∧ (g' = g ∨ w.heap.size ≤ g') ∧ Sg w' g' o' (n + 1) cap' f ∧ Below base w w' ∧ Ar w' g o n f ∧ Ot g w w' := by
  obtain ⟨i0, hi, hz0, hz1, hz2⟩ := info_parts info_u8
  subst hfx
  have hnews : ∀ j u, ([.int .u8 ((f n : Nat) : Int)] : List Value)[j]? = some u → w.cell? (ad.add j) = some u := by
    intro j u hu
    match j, hu with
    | 0, hu => simp at hu; subst hu; rw [had]; exact hx
  have hone : ∀ u ∈ ([.int .u8 ((f n : Nat) : Int)] : List Value), u.oneCell' = true := by
    intro u hu; simp at hu; subst hu; rfl
  by_cases hr : n + 1 ≤ cap
  · have hsp := h.sp n (Nat.le_refl _) (by omega)
    have hrun := run_append_room_cells (P := Try.prog) w 32 ty 5 i0 Try.underlying32 hi g o n cap ad 1 c [.int .u8 ((f n : Nat) : Int)] (by simp [hz1]) hnews hone hr
      (fun j hj => by simp at hj; subst hj; rw [hz1, Nat.mul_one, Nat.add_zero]; exact hsp.1) (fun j hj => by simp at hj; subst hj; rw [hz1, Nat.mul_one, Nat.add_zero]; exact hsp.2)
    rw [hz1, Nat.mul_one] at hrun
    refine ⟨g, o, cap, _, hrun, Or.inl rfl, ⟨⟨fun i hi => ?_, fun i hi => ?_, ?_⟩, hr, fun j h1 h2 => ?_⟩, ?_, h.ar.others (Or.inr (Or.inl (by omega))), ?_, fun b hb hne => ?_⟩
    · by_cases e : i = n
      · subst e
        have := World.cell?_setCells_in g [.int .u8 ((f i : Nat) : Int)] (o + i) w (fun j hj => by simp at hj; subst hj; rw [Nat.add_zero]; exact hsp.1) 0 (by simp)
        simpa using this
      · rw [World.cell?_setCells_out g _ _ w _ (fun _ _ => by simp; omega)]
        exact h.ar.c i (by omega)
    · rw [World.frozen?_setCells]
      by_cases e : i = n
      · subst e; exact hsp.2
      · exact h.ar.fz i (by omega)
    · rw [size_setCells]; exact h.ar.lt
    · rw [World.cell?_setCells_out g _ _ w _ (fun _ _ => by simp; omega), World.frozen?_setCells]
      exact h.sp j (by omega) h2
    · exact Go.Proofs.Ytkpodgeinanceaa.below_setCells hg _ _ _ (Below.refl _ _)
    · rw [size_setCells]; exact Nat.le_refl _
    · exact heap_setCells g _ _ w b hne
  · obtain ⟨v', w', hrun, hown, hgrow⟩ := run_append_arg_grows (P := Try.prog) w 32 ty 5 i0 (.int .u8 0) 1 1 Try.underlying32 hi hz0 hz1 hz2 rfl (by decide) ⟨g, o, none⟩ n cap (us n f) (by rw [us_length, Nat.mul_one])
      (fun j u hu => by rw [Addr.add_mid]; exact h.ar.range j u hu) ad 1 c [.int .u8 ((f n : Nat) : Int)] (by simp) hnews (by omega) (by unfold maxLen; omega) (by omega)
    rw [← us_succ] at hown
    have hown0 := hown
    rcases hown.2 with ⟨_, h0⟩ | ⟨g', cap', cur, rfl, hg', hgg, hnc, hcm, hcs, htk⟩
    · omega
    · refine ⟨g', 0, cap', w', hrun, Or.inr hg', ⟨⟨fun i hi => ?_, fun i hi => ?_, ?_⟩, hnc, fun j h1 h2 => ?_⟩, ⟨hgrow.os, hgrow.tape, hgrow.output, hgrow.size, fun k hk => hgrow.block k (by omega) (by simp)⟩, h.ar.below (B := w.heap.size) ⟨hgrow.os, hgrow.tape, hgrow.output, hgrow.size, fun k hk => hgrow.block k hk (by simp)⟩ h.ar.lt, hgrow.size, fun b hb _ => hgrow.block b hb (by simp)⟩
      · rw [Nat.zero_add, hown0.cellAt i (by omega)]
        simp [us_def, hi]
      · rw [Nat.zero_add]; exact hown0.frozenAt i
      · exact (Array.getElem?_eq_some_iff.1 hgg).1
      · rw [Nat.zero_add]
        exact ⟨isSome_of_row hgg j (by omega), hown0.frozenAt j⟩
/-- a row of the call's own as an array of bytes -/
theorem own_ar {w : World} {base n : Nat} {v : Value} {f : Nat → Nat} (h : w.ownsRow base 5 1 v n (us n f)) (hn : 0 < n) : ∃ g cap, v = .slice (some ⟨g, 0, none⟩) n cap ∧ base ≤ g ∧ Ar w g 0 n f := by
  have h0 := h
  rcases h.2 with ⟨_, h1⟩ | ⟨g', cap', cur, rfl, hg', hgg, hnc, hcm, hcs, htk⟩
  · omega
  · refine ⟨g', cap', rfl, hg', ⟨fun i hi => ?_, fun i hi => ?_, ?_⟩⟩
    · rw [Nat.zero_add, h0.cellAt i (by omega)]
      simp [us_def, hi]
    · rw [Nat.zero_add]; exact h0.frozenAt i
    · exact (Array.getElem?_eq_some_iff.1 hgg).1
theorem Sg.drew {w : World} {g o n cap : Nat} {f : Nat → Nat} (h : Sg w g o n cap f) : Sg w.drew g o n cap f := ⟨h.ar.drew, h.le, h.sp⟩
theorem Sg.alloc {w : World} {g o n cap : Nat} {f : Nat → Nat} (h : Sg w g o n cap f) (x : Obj) : Sg (w.alloc x) g o n cap f :=
  h.below ((Below.refl w.heap.size w).alloc (Nat.le_refl _) x) h.ar.lt
/-- []byte(s), its room -/
theorem conv_sp (w : World) (s : ByteArray) :
    ∃ (cap : Nat) (W : World), (convert 9 32 (.string s)).run Try.prog w = .ok (.slice (some ⟨w.heap.size, 0, none⟩) s.size cap) W ∧ Below w.heap.size w W ∧ Sg W w.heap.size 0 s.size cap (at8 s) ∧ W.heap.size = w.heap.size + 1 := by
  have hge := grownCap_ge w s.size 0 5
  have hbs : (bytesRow s (grownCap w s.size 0 5)).size = grownCap w s.size 0 5 := by
    simp only [bytesRow, Array.size_append, Array.size_map, Array.size_replicate]
    show s.size + (grownCap w s.size 0 5 - s.size) = _
    omega
  refine ⟨_, _, run_bytes_of_string w 9 32 5 s Try.underlying9 Try.underlying32 Try.underlying5, ?_, ⟨⟨?_, ?_, ?_⟩, hge, ?_⟩, ?_⟩
  · exact ((Below.refl _ _).drew).alloc (Nat.le_refl _) _
  · intro j h
    have := World.cell?_alloc_mark w.drew (bytesRow s (grownCap w s.size 0 5)) 5 ((bytesRow s (grownCap w s.size 0 5)).size, (bytesRow s (grownCap w s.size 0 5)).size + 1) j
    rw [World.size_drew] at this
    rw [Nat.zero_add, this, at8_in s j h]
    simp [bytesRow, Array.getElem?_append, h]
    rfl
  · intro j h
    have := World.frozen?_alloc_mark w.drew (bytesRow s (grownCap w s.size 0 5)) 5 (bytesRow s (grownCap w s.size 0 5)).size ((bytesRow s (grownCap w s.size 0 5)).size + 1) j
    rw [World.size_drew] at this
    rw [Nat.zero_add, this, hbs]
    simp
    omega
  · simp
  · intro j h1 h2
    have h3 := World.cell?_alloc_mark w.drew (bytesRow s (grownCap w s.size 0 5)) 5 ((bytesRow s (grownCap w s.size 0 5)).size, (bytesRow s (grownCap w s.size 0 5)).size + 1) j
    have h4 := World.frozen?_alloc_mark w.drew (bytesRow s (grownCap w s.size 0 5)) 5 (bytesRow s (grownCap w s.size 0 5)).size ((bytesRow s (grownCap w s.size 0 5)).size + 1) j
    rw [World.size_drew] at h3 h4
    rw [Nat.zero_add, h3, h4]
    refine ⟨?_, ?_⟩
    · rw [Array.getElem?_eq_getElem (by rw [hbs]; exact h2)]; rfl
    · rw [hbs]; simp; omega
  · simp
/-- append as one step of a region that draws -/
theorem step_append_run {P : Program} {ops : Array Oper} {o : Oper} {a : Act} {w : World} {K : Act → World → Prop} {Q : Exit → Act → World → Prop} {E : Prop}
    (hg : o.guard = none) (d x : Operand) (t : TypeId) (hop : o.op = Op.call { callee := Callee.builtin Builtin.append, args := #[d, x], argTypes := #[t, t] })
    (v1 v2 v' : Value) (w' : World) (hd : a.eval d = v1) (hx : a.eval x = v2) (hrun : (Builtin.append_ #[t, t] o.type #[v1, v2]).run P w = .ok v' w') (hK : K (a.put o.dst v') w') :
    if Region.wanted o (yielded ops a.tmps) = true then Oper.wp P o a w K Q else E := by
  have hw : Region.wanted o (yielded ops a.tmps) = true := by simp [Region.wanted, hg]
  rw [if_pos hw]
  unfold Oper.wp
  simp [execOp, hop, resolve, invoke, builtin, hd, hx, hrun, Result.andThen]
  exact hK
theorem new_cell (w : World) (x : Value) (t : TypeId) : (w.alloc (.cells #[x] t)).cell? ⟨w.heap.size, 0, none⟩ = some x := by simp
end Go.Proofs.Ytkpodgeinanceaa
namespace Go.Proofs.Ytkpodgeinanceaa
open Go.ChangeShapes Go.WideShapes Go.ChangeAt Go.RowKit
set_option linter.unusedVariables false

/-- all round keys, one behind the other -/
def ks (f : Nat → Nat) (i : Nat) : Nat := rk f (i / 16) (i % 16)
theorem ks_first (f : Nat → Nat) (i : Nat) (h : i < 16) : ks f i = f i := by
  unfold ks
  rw [Nat.div_eq_of_lt h, Nat.mod_eq_of_lt h]
  rfl
theorem ks_lt (f : Nat → Nat) (hf : ∀ i, f i < 256) (i : Nat) : ks f i < 256 := rk_lt f hf _ _
theorem ck_ks (f : Nat → Nat) (i : Nat) (h : i < 176) : ck f 10 i = ks f i := by
  unfold ck ks
  rw [if_pos (by omega)]
/-- what is xored into the word c + 4 -/
def tw (f : Nat → Nat) (c k : Nat) : Nat :=
  if c % 4 = 0 then (if k = 0 then sub (ks f (4 * c + 13)) ^^^ pw (c / 4) else sub (ks f (4 * c + 12 + (k + 1) % 4))) else ks f (4 * c + 12 + k)
theorem ks_at (f : Nat → Nat) (j r : Nat) (h : r < 16) : ks f (16 * j + r) = rk f j r := by
  unfold ks
  rw [show (16 * j + r) / 16 = j by omega, show (16 * j + r) % 16 = r by omega]
theorem ks_word (f : Nat → Nat) (c k : Nat) (hk : k < 4) : ks f (4 * c + 16 + k) = ks f (4 * c + k) ^^^ tw f c k := by
  unfold tw
  by_cases h0 : c % 4 = 0
  · obtain ⟨j, rfl⟩ : ∃ j, c = 4 * j := ⟨c / 4, by omega⟩
    rw [if_pos h0, show 4 * (4 * j) + 16 + k = 16 * (j + 1) + k by omega, show 4 * (4 * j) + k = 16 * j + k by omega, show 4 * (4 * j) + 13 = 16 * j + 13 by omega, show 4 * (4 * j) + 12 + (k + 1) % 4 = 16 * j + (12 + (k + 1) % 4) by omega, show 4 * j / 4 = j by omega,
      ks_at _ _ _ (by omega), ks_at _ _ _ (by omega), ks_at _ _ _ (by omega), ks_at _ _ _ (by omega)]
    show nk (rk f j) (pw j) k = _
    rw [nk_near _ _ _ hk]
    unfold k1
    by_cases e : k = 0
    · subst e
      rw [if_pos rfl, if_pos rfl, k0, if_pos (by omega), Nat.xor_assoc]
    · rw [if_neg e, if_neg e, k0, if_pos hk]
  · rw [if_neg h0]
    obtain ⟨j, q, rfl, hq⟩ : ∃ j q, c = 4 * j + q ∧ q < 4 := ⟨c / 4, c % 4, by omega, by omega⟩
    have hq0 : 0 < q := by omega
    rw [show 4 * (4 * j + q) + 16 + k = 16 * (j + 1) + (4 * q + k) by omega, show 4 * (4 * j + q) + k = 16 * j + (4 * q + k) by omega, show 4 * (4 * j + q) + 12 + k = 16 * (j + 1) + (4 * q + k - 4) by omega,
      ks_at _ _ _ (by omega), ks_at _ _ _ (by omega), ks_at _ _ _ (by omega)]
    show nk (rk f j) (pw j) (4 * q + k) = rk f j (4 * q + k) ^^^ nk (rk f j) (pw j) (4 * q + k - 4)
    have := nk_far (rk f j) (pw j) (4 * q + k - 4)
    rw [show 4 * q + k - 4 + 4 = 4 * q + k by omega] at this
    exact this
theorem tw_q4 (f : Nat → Nat) (c : Nat) (h : c % 4 = 0) (k : Nat) (hk : k < 4) : q4 (sub (ks f (4 * c + 12 + 1)) ^^^ pw ((c + 3) / 4)) (sub (ks f (4 * c + 12 + 2))) (sub (ks f (4 * c + 12 + 3))) (sub (ks f (4 * c + 12 + 0))) k = tw f c k := by
  unfold tw q4
  rw [if_pos h, show (c + 3) / 4 = c / 4 by omega]
  have e : k = 0 ∨ k = 1 ∨ k = 2 ∨ k = 3 := by omega
  rcases e with rfl | rfl | rfl | rfl <;> rfl
theorem pw_next (c : Nat) (h : c % 4 = 0) : pw ((c + 1 + 3) / 4) = dbl (pw ((c + 3) / 4)) := by
  rw [show (c + 1 + 3) / 4 = (c + 3) / 4 + 1 by omega]
  rfl
theorem q4_row (w : World) (a b c d : Nat) (t : TypeId) : Ar (w.alloc (.cells #[.int .u8 a, .int .u8 b, .int .u8 c, .int .u8 d] t)) w.heap.size 0 4 (q4 a b c d) := by
  have h := Ar.new w 4 (q4 a b c d) t
  rw [us_def] at h
  exact h
theorem tw_lt (f : Nat → Nat) (hf : ∀ i, f i < 256) (c k : Nat) : tw f c k < 256 := by
  unfold tw
  split
  · split
    · exact xor_lt _ _ (sub_lt _ (ks_lt f hf _)) (pw_lt _)
    · exact sub_lt _ (ks_lt f hf _)
  · exact ks_lt f hf _


set_option maxRecDepth 100000 in
set_option maxHeartbeats 400000 in
theorem specKeys (s : ByteArray) (hs : s.size = 16) (w : World) :
    Calls Try.prog 56 #[.string s] w fun e w' => ∃ v, e = .returned v ∧ Sp w.heap.size w' v 176 (ks (at8 s)) ∧ Below w.heap.size w w' := by
  obtain ⟨i0, hi, hz0, hz1, hz2⟩ := info_u8i
  go_enter Try.func56, Try.ntmps56
  go_wp2_with fail
  obtain ⟨cap, W, hcv, hbW, hsW, hsz⟩ := conv_sp w s
  rw [hcv, hs]
  rw [hs] at hsW
  have P0 : Hid (Sp w.heap.size W (.slice (some ⟨w.heap.size, 0, none⟩) 16 cap) (4 * 0 + 16) (ks (at8 s))) := ⟨_, _, _, rfl, Nat.le_refl _, ⟨hsW.ar.congr (fun i hi => (ks_first (at8 s) i hi).symm), hsW.le, hsW.sp⟩⟩
  have HBW := hide hbW
  have hF := hide (ks_lt (at8 s) (at8_lt s))
  have hFT := hide (tw_lt (at8 s) (at8_lt s))
  have hKW := hide (fun c k hk => ks_word (at8 s) c k hk)
  clear hcv hbW hsW
  go_wp2_with fail
  go_loopw [3, 4, 5] (fun v rv iv wr => ∃ c : Nat, c ≤ 40 ∧ iv = .int .i64 ((c : Int) + 4) ∧ rv = .int .u8 (pw ((c + 3) / 4) : Nat) ∧ Sp w.heap.size wr v (4 * c + 16) (ks (at8 s)) ∧ w.heap.size ≤ wr.heap.size ∧ Below w.heap.size w wr) (fun _ _ iv _ => 44 - (intOf iv).toNat)
  case atStart => exact ⟨0, by omega, rfl, by rw [show (0 + 3) / 4 = 0 by omega, show pw 0 = 1 by unfold pw; rfl]; rfl, unhide P0, by omega, unhide HBW⟩
  case round =>
    obtain ⟨c, hc, rfl, rfl, hsp, hwz, hbw⟩ := hrel
    obtain ⟨g, o, cap1, rfl, hg, hsg⟩ := hsp
    by_cases hlt : c < 40
    · have hle := hsg.le
      have HSG := hide hsg
      have HW := hide hbw
      clear hsg hbw
      have m1 : (0 : Int) ≤ 4 * ((c : Int) + 4) - 4 := by omega
      have em : 4 * (c + 4) - (4 * c + 12) = 4 := by omega
      have eo : 4 * (c + 4) - 4 = 4 * c + 12 := by omega
      have hnew : Hid (∀ j u, (us 4 (fun j => ks (at8 s) (4 * c + 12 + j)))[j]? = some u → (wr.alloc (.cells #[] 5)).cell? ((⟨g, o + (4 * c + 12), none⟩ : Addr).add j) = some u) := fun j u hu => by
        rw [Addr.add_mid]
        exact (((unhide HSG).ar.part (4 * c + 12) 4 (by omega)).alloc _).range j u hu
      have hone := hide (us_oneL 4 (fun j => ks (at8 s) (4 * c + 12 + j)))
      go_wp2_with (at_builtin; simp only [eo, em]; refine wpList_append_grows _ rfl (.tmp 14) (.tmp 21) 32 rfl 5 i0 (.int .u8 0) 1 1 Try.underlying32 hi hz0 hz1 hz2 rfl (by decide) (some ⟨wr.heap.size, 0, none⟩) 0 0 [] rfl (by simp) rfl ?c9 ⟨g, o + (4 * c + 12), none⟩ 4 (cap1 - (4 * c + 12)) (us 4 (fun j => ks (at8 s) (4 * c + 12 + j))) rfl ?c0 (unhide hnew) (unhide hone) (by omega) ?c3 (by omega) ?_)
      case c9 => intro b _ j u hu; simp at hu
      case c0 => rw [us_length]
      case c3 => unfold maxLen; omega
      intro v2 w2 hown hgr
      obtain ⟨tb, tcap, rfl, htb, hT0⟩ := own_ar hown (by omega)
      have B2 : Below wr.heap.size wr w2 := ((Below.refl wr.heap.size wr).alloc (Nat.le_refl _) (.cells #[] 5)).trans ⟨hgr.os, hgr.tape, hgr.output, hgr.size, fun k hk => hgr.block k (by simp; omega) (by simp)⟩
      have HSG2 := hide ((unhide HSG).below B2 (unhide HSG).ar.lt)
      have HW2 := hide ((unhide HW).trans (B2.mono hwz))
      have hwz2 : w.heap.size ≤ w2.heap.size := Nat.le_trans hwz B2.size
      have hglt := (unhide HSG).ar.lt
      have hne : g ≠ tb := by omega
      have HT0 := hide hT0
      clear hown hgr hnew hone HSG HW B2 hT0
      by_cases h0 : c % 4 = 0
      · have x0 := (unhide HT0).c0 0 (by omega)
        have x1 := (unhide HT0).c0 1 (by omega)
        have x2 := (unhide HT0).c0 2 (by omega)
        have x3 := (unhide HT0).c0 3 (by omega)
        have q0 := unhide hF (4 * c + 12 + 0)
        have q1 := unhide hF (4 * c + 12 + 1)
        have q2 := unhide hF (4 * c + 12 + 2)
        have q3 := unhide hF (4 * c + 12 + 3)
        have hA0 := hide (fun W => specSub _ q0 W)
        have hA1 := hide (fun W => specSub _ q1 W)
        have hA2 := hide (fun W => specSub _ q2 W)
        have hA3 := hide (fun W => specSub _ q3 W)
        have hp := pw_lt ((c + 3) / 4)
        have hM : Hid (∀ W, Calls Try.prog 73 #[.int .u8 (pw ((c + 3) / 4) : Nat), .int .u8 2] W fun e w' => e = .returned (.int .u8 (mul (pw ((c + 3) / 4)) 2 : Nat)) ∧ w' = W) := fun W => specMul (pw ((c + 3) / 4)) 2 hp (by omega) W
        have eM := hide (mulx2 (pw ((c + 3) / 4)) hp)
        have eP := hide (pw_next c h0)
        have eX := hide (xorI (sub (ks (at8 s) (4 * c + 12 + 1))) (pw ((c + 3) / 4)) (sub_lt _ q1) hp)
        have hT3 := q4_row w2.drew (sub (ks (at8 s) (4 * c + 12 + 1)) ^^^ pw ((c + 3) / 4)) (sub (ks (at8 s) (4 * c + 12 + 2))) (sub (ks (at8 s) (4 * c + 12 + 3))) (sub (ks (at8 s) (4 * c + 12 + 0))) 5
        have HT3 := hide (hT3.congr (fun i hi => tw_q4 (at8 s) c h0 i hi))
        clear hT3
        have hXo := (unhide eX).symm
        rw [hXo] at HT3
        have HSG3 := hide ((unhide HSG2).drew.alloc (.cells #[.int .u8 (bits .xor .u8 (sub (ks (at8 s) (4 * c + 12 + 1)) : Nat) (pw ((c + 3) / 4) : Nat)), .int .u8 (sub (ks (at8 s) (4 * c + 12 + 2)) : Nat), .int .u8 (sub (ks (at8 s) (4 * c + 12 + 3)) : Nat), .int .u8 (sub (ks (at8 s) (4 * c + 12 + 0)) : Nat)] 5))
        have HW3 := hide ((unhide HW2).drew.alloc (by rw [World.size_drew]; exact hwz2) (.cells #[.int .u8 (bits .xor .u8 (sub (ks (at8 s) (4 * c + 12 + 1)) : Nat) (pw ((c + 3) / 4) : Nat)), .int .u8 (sub (ks (at8 s) (4 * c + 12 + 2)) : Nat), .int .u8 (sub (ks (at8 s) (4 * c + 12 + 3)) : Nat), .int .u8 (sub (ks (at8 s) (4 * c + 12 + 0)) : Nat)] 5))
        have S0 : Hid (S4 tb 0 1 2 3 (ks (at8 s) (4 * c + 12 + 0)) (ks (at8 s) (4 * c + 12 + 1)) (ks (at8 s) (4 * c + 12 + 2)) (ks (at8 s) (4 * c + 12 + 3)) w2.drew) := ⟨x0, x1, x2, x3⟩
        have hTa := (unhide HT0).drew.alloc (.cells #[.int .u8 (bits .xor .u8 (sub (ks (at8 s) (4 * c + 12 + 1)) : Nat) (pw ((c + 3) / 4) : Nat)), .int .u8 (sub (ks (at8 s) (4 * c + 12 + 2)) : Nat), .int .u8 (sub (ks (at8 s) (4 * c + 12 + 3)) : Nat), .int .u8 (sub (ks (at8 s) (4 * c + 12 + 0)) : Nat)] 5)
        have S1 : Hid (S4 tb 0 1 2 3 (ks (at8 s) (4 * c + 12 + 0)) (ks (at8 s) (4 * c + 12 + 1)) (ks (at8 s) (4 * c + 12 + 2)) (ks (at8 s) (4 * c + 12 + 3)) (w2.drew.alloc (.cells #[.int .u8 (bits .xor .u8 (sub (ks (at8 s) (4 * c + 12 + 1)) : Nat) (pw ((c + 3) / 4) : Nat)), .int .u8 (sub (ks (at8 s) (4 * c + 12 + 2)) : Nat), .int .u8 (sub (ks (at8 s) (4 * c + 12 + 3)) : Nat), .int .u8 (sub (ks (at8 s) (4 * c + 12 + 0)) : Nat)] 5))) := ⟨hTa.c0 0 (by omega), hTa.c0 1 (by omega), hTa.c0 2 (by omega), hTa.c0 3 (by omega)⟩
        have hne3 : g ≠ w2.heap.size := by have := (unhide HSG2).ar.lt; omega
        have hwz3 : w.heap.size ≤ (w2.drew.alloc (.cells #[.int .u8 (bits .xor .u8 (sub (ks (at8 s) (4 * c + 12 + 1)) : Nat) (pw ((c + 3) / 4) : Nat)), .int .u8 (sub (ks (at8 s) (4 * c + 12 + 2)) : Nat), .int .u8 (sub (ks (at8 s) (4 * c + 12 + 3)) : Nat), .int .u8 (sub (ks (at8 s) (4 * c + 12 + 0)) : Nat)] 5)).heap.size := by rw [World.size_alloc, World.size_drew]; omega
        clear hTa x0 x1 x2 x3 HT0 hXo HSG2 HW2 q0 q1 q2 q3 eX
        generalize sub (ks (at8 s) (4 * c + 12 + 0)) = y0 at *
        generalize sub (ks (at8 s) (4 * c + 12 + 1)) = y1 at *
        generalize sub (ks (at8 s) (4 * c + 12 + 2)) = y2 at *
        generalize sub (ks (at8 s) (4 * c + 12 + 3)) = y3 at *
        generalize ks (at8 s) (4 * c + 12 + 0) = x0 at *
        generalize ks (at8 s) (4 * c + 12 + 1) = x1 at *
        generalize ks (at8 s) (4 * c + 12 + 2) = x2 at *
        generalize ks (at8 s) (4 * c + 12 + 3) = x3 at *
        go_wp2_with fail
        go_region_held3 (fun W => S4 tb 0 1 2 3 x0 x1 x2 x3 W) (first | assumption | exact unhide S0 | exact unhide S1) (first
          | (go_at_call 72; with_reducible refine (unhide hA1 _).mono ?_; rintro e w9 ⟨rfl, rfl⟩)
          | (go_at_call 72; with_reducible refine (unhide hA2 _).mono ?_; rintro e w9 ⟨rfl, rfl⟩)
          | (go_at_call 72; with_reducible refine (unhide hA3 _).mono ?_; rintro e w9 ⟨rfl, rfl⟩)
          | (go_at_call 72; with_reducible refine (unhide hA0 _).mono ?_; rintro e w9 ⟨rfl, rfl⟩))
        rw [World.size_drew] at HT3
        rw [show (w2.alloc (.cells #[.int .u8 (bits .xor .u8 (y1 : Nat) (pw ((c + 3) / 4) : Nat)), .int .u8 (y2 : Nat), .int .u8 (y3 : Nat), .int .u8 (y0 : Nat)] 5)).drew = w2.drew.alloc (.cells #[.int .u8 (bits .xor .u8 (y1 : Nat) (pw ((c + 3) / 4) : Nat)), .int .u8 (y2 : Nat), .int .u8 (y3 : Nat), .int .u8 (y0 : Nat)] 5) from rfl]
        generalize w2.drew.alloc (.cells #[.int .u8 (bits .xor .u8 (y1 : Nat) (pw ((c + 3) / 4) : Nat)), .int .u8 (y2 : Nat), .int .u8 (y3 : Nat), .int .u8 (y0 : Nat)] 5) = W3 at HSG3 HW3 HT3 hwz3 ⊢
        generalize w2.heap.size = tb2 at HT3 hne3 ⊢
        clear S0 S1 hA0 hA1 hA2 hA3
        go_wp2_with (go_at_call 73; with_reducible refine (unhide hM _).mono ?_; rintro e w9 ⟨rfl, rfl⟩)
        generalize ((c : Int) + 4) % 4 = z24
        generalize ((c : Int) % 4 == 0) = z25
        go_loopw [3, 49] (fun v kv wx => ∃ k : Nat, k ≤ 4 ∧ kv = .int .i64 k ∧ (∃ g' o' cap', v = .slice (some ⟨g', o', none⟩) (4 * c + 16 + k) cap' ∧ w.heap.size ≤ g' ∧ g' ≠ tb2 ∧ Sg wx g' o' (4 * c + 16 + k) cap' (ks (at8 s))) ∧ Ar wx tb2 0 4 (tw (at8 s) c) ∧ w.heap.size ≤ wx.heap.size ∧ Below w.heap.size w wx) (fun _ kv _ => 4 - (intOf kv).toNat)
        case atStart => exact ⟨0, by omega, rfl, ⟨g, o, cap1, rfl, hg, hne3, unhide HSG3⟩, unhide HT3, hwz3, unhide HW3⟩
        case round =>
          obtain ⟨k, hk, rfl, ⟨g', o', cap', rfl, hg', hne', hsg'⟩, hT, hwx, hbx⟩ := hrel
          by_cases hl2 : k < 4
          · have s1 := hsg'.ar.c (4 * c + k) (by omega)
            have s2 := hT.c0 k hl2
            have hkw := unhide hKW c k hl2
            have e1 := xorI (ks (at8 s) (4 * c + k)) (tw (at8 s) c k) (unhide hF _) (unhide hFT c k)
            rw [← hkw] at e1
            have E1 := hide e1
            have hsgW := hsg'.drew.alloc (.cells #[.int .u8 (bits .xor .u8 (ks (at8 s) (4 * c + k) : Nat) (tw (at8 s) c k : Nat))] 5)
            have hbase : w.heap.size ≤ (wr.drew.alloc (.cells #[.int .u8 (bits .xor .u8 (ks (at8 s) (4 * c + k) : Nat) (tw (at8 s) c k : Nat))] 5)).heap.size := by rw [World.size_alloc, World.size_drew]; omega
            have hx5 : (wr.drew.alloc (.cells #[.int .u8 (bits .xor .u8 (ks (at8 s) (4 * c + k) : Nat) (tw (at8 s) c k : Nat))] 5)).cell? ⟨wr.heap.size, 0, none⟩ = some (.int .u8 (bits .xor .u8 (ks (at8 s) (4 * c + k) : Nat) (tw (at8 s) c k : Nat))) := new_cell wr.drew _ _
            obtain ⟨g2, o2, cap2, w5, hrun, hor, hs5, hb5, ha5, hot5⟩ := hsgW.push hg' hbase ⟨wr.heap.size, 0, none⟩ 1 _ hx5 (by rw [e1]) rfl (by omega) 32
            rw [World.size_alloc, World.size_drew] at hor
            clear hsgW hbase hx5
            have hlt5 : g' < wr.heap.size := hsg'.ar.lt
            have hltT : tb2 < wr.heap.size := hT.lt
            have S0 : Hid (wr.drew.cell? ⟨g', o' + (4 * c + k), none⟩ = some (.int .u8 (ks (at8 s) (4 * c + k) : Nat)) ∧ wr.drew.cell? ⟨tb2, k, none⟩ = some (.int .u8 (tw (at8 s) c k : Nat))) := ⟨s1, s2⟩
            have S1 : Hid ((wr.drew.alloc (.cells #[.int .u8 (bits .xor .u8 (ks (at8 s) (4 * c + k) : Nat) (tw (at8 s) c k : Nat))] 5)).cell? ⟨g', o' + (4 * c + k), none⟩ = some (.int .u8 (ks (at8 s) (4 * c + k) : Nat)) ∧ (wr.drew.alloc (.cells #[.int .u8 (bits .xor .u8 (ks (at8 s) (4 * c + k) : Nat) (tw (at8 s) c k : Nat))] 5)).cell? ⟨tb2, k, none⟩ = some (.int .u8 (tw (at8 s) c k : Nat))) := ⟨(hsg'.ar.drew.alloc _).c (4 * c + k) (by omega), (hT.drew.alloc _).c0 k hl2⟩
            have T5 := hot5.ar (hT.drew.alloc _) (Ne.symm hne')
            have S2 : Hid (w5.cell? ⟨g', o' + (4 * c + k), none⟩ = some (.int .u8 (ks (at8 s) (4 * c + k) : Nat)) ∧ w5.cell? ⟨tb2, k, none⟩ = some (.int .u8 (tw (at8 s) c k : Nat))) := ⟨ha5.c (4 * c + k) (by omega), T5.c0 k hl2⟩
            have F1 : Hid (g2 ≠ tb2) := by
              rcases hor with e | e
              · rw [e]; exact hne'
              · exact (show g2 ≠ tb2 by omega)
            have F2 : Hid (w.heap.size ≤ g2) := by
              rcases hor with e | e
              · rw [e]; exact hg'
              · exact (show w.heap.size ≤ g2 by omega)
            have F3 := hide hs5
            have F4 := hide T5
            have F5 := hide ((hbx.drew.alloc (by rw [World.size_drew]; omega) (.cells #[.int .u8 (bits .xor .u8 (ks (at8 s) (4 * c + k) : Nat) (tw (at8 s) c k : Nat))] 5)).trans hb5)
            have F6 : w.heap.size ≤ w5.heap.size := by have := hot5.1; rw [World.size_alloc, World.size_drew] at this; omega
            have RUN := hide hrun
            clear hsg' hT hbx hs5 hb5 ha5 hot5 T5 hrun s1 s2 hor hkw e1 E1
            generalize hq : ks (at8 s) (4 * c + k) = x at *
            generalize hy : tw (at8 s) c k = y at *
            clear hq hy
            generalize hp : 4 * c + k = p at *
            have w1 : IntKind.i64.wrap (4 * ((c : Int) + 4)) = 4 * ((c : Int) + 4) := wraps_i64 _ (by omega) (by omega)
            have w2 : IntKind.i64.wrap (4 * ((c : Int) + 4) - 16) = 4 * ((c : Int) + 4) - 16 := wraps_i64 _ (by omega) (by omega)
            have w3 : IntKind.i64.wrap (4 * ((c : Int) + 4) - 16 + (k : Int)) = (p : Int) := by rw [show 4 * ((c : Int) + 4) - 16 + (k : Int) = (p : Int) by omega]; exact wraps_i64 _ (by omega) (by omega)
            have n1 : (0 : Int) ≤ (p : Int) ∧ (p : Int) < ((4 * c + 16 + k : Nat) : Int) := by omega
            have n2 : (0 : Int) ≤ (k : Int) ∧ (k : Int) < 4 := by omega
            have n3 : (0 : Int) ≤ (p : Int) ∧ (p : Int) < 4 * (c : Int) + 16 + (k : Int) := by omega
            go_wp2_with fail
            go_region_held3 (fun W => W.cell? ⟨g', o' + p, none⟩ = some (.int .u8 (x : Nat)) ∧ W.cell? ⟨tb2, k, none⟩ = some (.int .u8 (y : Nat))) (first | assumption | exact unhide S0 | exact unhide S1 | exact unhide S2) (first | (refine step_append_run rfl (.tmp 52) (.tmp 66) 32 rfl _ _ _ w5 rfl rfl (unhide RUN) ?_))
            clear S0 S1 S2 RUN
            go_wp2
            exact ⟨⟨k + 1, by omega, by go_num, ⟨g2, o2, cap2, rfl, unhide F2, unhide F1, unhide F3⟩, unhide F4, F6, unhide F5⟩, by simp [intOf]; omega⟩
          · have e : k = 4 := by omega
            subst e
            have F3 := hide hsg'
            have F5 := hide hbx
            clear hsg' hT hbx
            go_wp2
            exact ⟨⟨c + 1, by omega, by go_num, by rw [unhide eP, ← unhide eM], ⟨g', o', cap', rfl, hg', unhide F3⟩, hwx, unhide F5⟩, by simp [intOf]; omega⟩
      · have hT : Ar w2 tb 0 4 (tw (at8 s) c) := (unhide HT0).congr (fun i hi => by unfold tw; rw [if_neg h0])
        have HT := hide hT
        clear hT HT0
        go_wp2_with fail
        generalize ((c : Int) + 4) % 4 = z24
        generalize ((c : Int) % 4 == 0) = z25
        go_loopw [3, 49] (fun v kv wx => ∃ k : Nat, k ≤ 4 ∧ kv = .int .i64 k ∧ (∃ g' o' cap', v = .slice (some ⟨g', o', none⟩) (4 * c + 16 + k) cap' ∧ w.heap.size ≤ g' ∧ g' ≠ tb ∧ Sg wx g' o' (4 * c + 16 + k) cap' (ks (at8 s))) ∧ Ar wx tb 0 4 (tw (at8 s) c) ∧ w.heap.size ≤ wx.heap.size ∧ Below w.heap.size w wx) (fun _ kv _ => 4 - (intOf kv).toNat)
        case atStart => exact ⟨0, by omega, rfl, ⟨g, o, cap1, rfl, hg, hne, unhide HSG2⟩, unhide HT, hwz2, unhide HW2⟩
        case round =>
          obtain ⟨k, hk, rfl, ⟨g', o', cap', rfl, hg', hne', hsg'⟩, hT, hwx, hbx⟩ := hrel
          by_cases hl2 : k < 4
          · have s1 := hsg'.ar.c (4 * c + k) (by omega)
            have s2 := hT.c0 k hl2
            have hkw := unhide hKW c k hl2
            have e1 := xorI (ks (at8 s) (4 * c + k)) (tw (at8 s) c k) (unhide hF _) (unhide hFT c k)
            rw [← hkw] at e1
            have E1 := hide e1
            have hsgW := hsg'.drew.alloc (.cells #[.int .u8 (bits .xor .u8 (ks (at8 s) (4 * c + k) : Nat) (tw (at8 s) c k : Nat))] 5)
            have hbase : w.heap.size ≤ (wr.drew.alloc (.cells #[.int .u8 (bits .xor .u8 (ks (at8 s) (4 * c + k) : Nat) (tw (at8 s) c k : Nat))] 5)).heap.size := by rw [World.size_alloc, World.size_drew]; omega
            have hx5 : (wr.drew.alloc (.cells #[.int .u8 (bits .xor .u8 (ks (at8 s) (4 * c + k) : Nat) (tw (at8 s) c k : Nat))] 5)).cell? ⟨wr.heap.size, 0, none⟩ = some (.int .u8 (bits .xor .u8 (ks (at8 s) (4 * c + k) : Nat) (tw (at8 s) c k : Nat))) := new_cell wr.drew _ _
            obtain ⟨g2, o2, cap2, w5, hrun, hor, hs5, hb5, ha5, hot5⟩ := hsgW.push hg' hbase ⟨wr.heap.size, 0, none⟩ 1 _ hx5 (by rw [e1]) rfl (by omega) 32
            rw [World.size_alloc, World.size_drew] at hor
            clear hsgW hbase hx5
            have hlt5 : g' < wr.heap.size := hsg'.ar.lt
            have hltT : tb < wr.heap.size := hT.lt
            have S0 : Hid (wr.drew.cell? ⟨g', o' + (4 * c + k), none⟩ = some (.int .u8 (ks (at8 s) (4 * c + k) : Nat)) ∧ wr.drew.cell? ⟨tb, k, none⟩ = some (.int .u8 (tw (at8 s) c k : Nat))) := ⟨s1, s2⟩
            have S1 : Hid ((wr.drew.alloc (.cells #[.int .u8 (bits .xor .u8 (ks (at8 s) (4 * c + k) : Nat) (tw (at8 s) c k : Nat))] 5)).cell? ⟨g', o' + (4 * c + k), none⟩ = some (.int .u8 (ks (at8 s) (4 * c + k) : Nat)) ∧ (wr.drew.alloc (.cells #[.int .u8 (bits .xor .u8 (ks (at8 s) (4 * c + k) : Nat) (tw (at8 s) c k : Nat))] 5)).cell? ⟨tb, k, none⟩ = some (.int .u8 (tw (at8 s) c k : Nat))) := ⟨(hsg'.ar.drew.alloc _).c (4 * c + k) (by omega), (hT.drew.alloc _).c0 k hl2⟩
            have T5 := hot5.ar (hT.drew.alloc _) (Ne.symm hne')
            have S2 : Hid (w5.cell? ⟨g', o' + (4 * c + k), none⟩ = some (.int .u8 (ks (at8 s) (4 * c + k) : Nat)) ∧ w5.cell? ⟨tb, k, none⟩ = some (.int .u8 (tw (at8 s) c k : Nat))) := ⟨ha5.c (4 * c + k) (by omega), T5.c0 k hl2⟩
            have F1 : Hid (g2 ≠ tb) := by
              rcases hor with e | e
              · rw [e]; exact hne'
              · exact (show g2 ≠ tb by omega)
            have F2 : Hid (w.heap.size ≤ g2) := by
              rcases hor with e | e
              · rw [e]; exact hg'
              · exact (show w.heap.size ≤ g2 by omega)
            have F3 := hide hs5
            have F4 := hide T5
            have F5 := hide ((hbx.drew.alloc (by rw [World.size_drew]; omega) (.cells #[.int .u8 (bits .xor .u8 (ks (at8 s) (4 * c + k) : Nat) (tw (at8 s) c k : Nat))] 5)).trans hb5)
            have F6 : w.heap.size ≤ w5.heap.size := by have := hot5.1; rw [World.size_alloc, World.size_drew] at this; omega
            have RUN := hide hrun
            clear hsg' hT hbx hs5 hb5 ha5 hot5 T5 hrun s1 s2 hor hkw e1 E1
            generalize hq : ks (at8 s) (4 * c + k) = x at *
            generalize hy : tw (at8 s) c k = y at *
            clear hq hy
            generalize hp : 4 * c + k = p at *
            have w1 : IntKind.i64.wrap (4 * ((c : Int) + 4)) = 4 * ((c : Int) + 4) := wraps_i64 _ (by omega) (by omega)
            have w2 : IntKind.i64.wrap (4 * ((c : Int) + 4) - 16) = 4 * ((c : Int) + 4) - 16 := wraps_i64 _ (by omega) (by omega)
            have w3 : IntKind.i64.wrap (4 * ((c : Int) + 4) - 16 + (k : Int)) = (p : Int) := by rw [show 4 * ((c : Int) + 4) - 16 + (k : Int) = (p : Int) by omega]; exact wraps_i64 _ (by omega) (by omega)
            have n1 : (0 : Int) ≤ (p : Int) ∧ (p : Int) < ((4 * c + 16 + k : Nat) : Int) := by omega
            have n2 : (0 : Int) ≤ (k : Int) ∧ (k : Int) < 4 := by omega
            have n3 : (0 : Int) ≤ (p : Int) ∧ (p : Int) < 4 * (c : Int) + 16 + (k : Int) := by omega
            go_wp2_with fail
            go_region_held3 (fun W => W.cell? ⟨g', o' + p, none⟩ = some (.int .u8 (x : Nat)) ∧ W.cell? ⟨tb, k, none⟩ = some (.int .u8 (y : Nat))) (first | assumption | exact unhide S0 | exact unhide S1 | exact unhide S2) (first | (refine step_append_run rfl (.tmp 52) (.tmp 66) 32 rfl _ _ _ w5 rfl rfl (unhide RUN) ?_))
            clear S0 S1 S2 RUN
            go_wp2
            exact ⟨⟨k + 1, by omega, by go_num, ⟨g2, o2, cap2, rfl, unhide F2, unhide F1, unhide F3⟩, unhide F4, F6, unhide F5⟩, by simp [intOf]; omega⟩
          · have e : k = 4 := by omega
            subst e
            have F3 := hide hsg'
            have F5 := hide hbx
            clear hsg' hT hbx
            go_wp2
            exact ⟨⟨c + 1, by omega, by go_num, by rw [show (c + 1 + 3) / 4 = (c + 3) / 4 by omega], ⟨g', o', cap', rfl, hg', unhide F3⟩, hwx, unhide F5⟩, by simp [intOf]; omega⟩
    · have e : c = 40 := by omega
      subst e
      have HSG := hide hsg
      have HW := hide hbw
      clear hsg hbw
      go_wp2
      go_ret
      exact ⟨_, rfl, ⟨g, o, cap1, rfl, hg, unhide HSG⟩, unhide HW⟩
end Go.Proofs.Ytkpodgeinanceaa
namespace Go.Proofs.Ytkpodgeinanceaa
open Go.ChangeShapes Go.WideShapes Go.ChangeAt Go.RowKit
set_option linter.unusedVariables false
set_option maxRecDepth 100000


set_option maxRecDepth 100000 in
set_option maxHeartbeats 400000 in
theorem specTable (w : World) :
    Calls Try.prog 57 #[] w fun e w' => ∃ g, w.heap.size ≤ g ∧ e = .returned (.slice (some ⟨g, 0, none⟩) 256 256) ∧ Ar w' g 0 256 sub ∧ Below w.heap.size w w' := by
  go_enter Try.func57, Try.ntmps57
  go_wp2_with fail
  have hmk : (Instr.makeSlice 32 (.int .i64 256) (.int .i64 256)).run Try.prog w = _ := mk_bytes 256 (by omega) w
  rw [hmk]
  go_wp2_with fail
  have A0 : Ar (w.alloc (.cells (us 256 fun _ => 0).toArray 5)) w.heap.size 0 256 (fun _ => 0) := Ar.new w 256 (fun _ => 0) 5
  have B0 : Below w.heap.size w (w.alloc (.cells (us 256 fun _ => 0).toArray 5)) := (Below.refl _ _).alloc (Nat.le_refl _) _
  generalize w.alloc (.cells (us 256 fun _ => 0).toArray 5) = w0 at A0 B0 ⊢
  have HA := hide A0
  have HB := hide B0
  clear A0 B0 hmk
  go_loopw [6] (fun iv wr => ∃ i : Nat, i ≤ 256 ∧ iv = .int .i64 i ∧ Ar wr w.heap.size 0 256 (stp sub (fun _ => 0) i) ∧ Below w.heap.size w wr) (fun iv _ => 256 - (intOf iv).toNat)
  case atStart => exact ⟨0, by omega, rfl, (unhide HA).stepNone, unhide HB⟩
  case round =>
    obtain ⟨i, hi, rfl, a1, b1⟩ := hrel
    have HA1 := hide a1
    have HB1 := hide b1
    by_cases hlt : i < 256
    · have c0 := a1.c0 i hlt
      have f0 := a1.f0 i hlt
      have hS := hide (fun W => specSub i hlt W)
      have e1 := hide (show sub i = sub i from rfl)
      have w8 : IntKind.u8.wrap (i : Int) = (i : Int) := by rw [wrap_u8]; omega
      clear a1 b1
      go_wp2_with (go_at_call 72; with_reducible refine (unhide hS _).mono ?_; rintro e w1 ⟨rfl, rfl⟩)
      exact ⟨⟨i + 1, by omega, by go_num, (unhide HA1).step hlt rfl, (unhide HB1).setCell (by simp) _⟩, by simp [intOf]; omega⟩
    · have e : i = 256 := by omega
      subst e
      clear a1 b1
      go_wp2
      go_ret
      exact ⟨w.heap.size, Nat.le_refl _, rfl, (unhide HA1).stepEnd, unhide HB1⟩
set_option maxHeartbeats 400000 in
theorem specXor (ab ao acap bb bo bcap : Nat) (F G : Nat → Nat) (hF : ∀ i, F i < 256) (hG : ∀ i, G i < 256) (w : World) (h1 : Ar w ab ao 16 F) (h2 : Ar w bb bo 16 G) :
    Calls Try.prog 74 #[.slice (some ⟨ab, ao, none⟩) 16 acap, .slice (some ⟨bb, bo, none⟩) 16 bcap] w fun e w' => ∃ g, w.heap.size ≤ g ∧ e = .returned (.slice (some ⟨g, 0, none⟩) 16 16) ∧ Ar w' g 0 16 (fun i => F i ^^^ G i) ∧ Below w.heap.size w w' := by
  have HF := hide hF
  have HG := hide hG
  have H1 := hide h1
  have H2 := hide h2
  have E : ∀ i, (fun i => F i ^^^ G i) i = F i ^^^ G i := fun i => rfl
  generalize (fun i => F i ^^^ G i) = r at E ⊢
  have HE := hide E
  clear hF hG h1 h2 E
  go_enter Try.func74, Try.ntmps74
  go_wp2_with fail
  have hmk : (Instr.makeSlice 32 (.int .i64 16) (.int .i64 16)).run Try.prog w = _ := mk_bytes 16 (by omega) w
  rw [hmk]
  go_wp2_with fail
  have A0 : Ar (w.alloc (.cells (us 16 fun _ => 0).toArray 5)) w.heap.size 0 16 (fun _ => 0) := Ar.new w 16 (fun _ => 0) 5
  have B0 : Below w.heap.size w (w.alloc (.cells (us 16 fun _ => 0).toArray 5)) := (Below.refl _ _).alloc (Nat.le_refl _) _
  generalize w.alloc (.cells (us 16 fun _ => 0).toArray 5) = w0 at A0 B0 ⊢
  have HA := hide A0
  have HB := hide B0
  clear A0 B0 hmk
  go_loopw [12] (fun iv wr => ∃ i : Nat, i ≤ 16 ∧ iv = .int .i64 i ∧ Ar wr w.heap.size 0 16 (stp r (fun _ => 0) i) ∧ Below w.heap.size w wr) (fun iv _ => 16 - (intOf iv).toNat)
  case atStart => exact ⟨0, by omega, rfl, (unhide HA).stepNone, unhide HB⟩
  case round =>
    obtain ⟨i, hi, rfl, a1, b1⟩ := hrel
    have HA1 := hide a1
    have HB1 := hide b1
    by_cases hlt : i < 16
    · have c0 := a1.c0 i hlt
      have f0 := a1.f0 i hlt
      have s1 := ((unhide H1).below b1 (unhide H1).lt).c i hlt
      have s2 := ((unhide H2).below b1 (unhide H2).lt).c i hlt
      have e1 := hide (xorI (F i) (G i) (unhide HF _) (unhide HG _))
      have e2 := hide (unhide HE i)
      clear a1 b1
      generalize F i = x at *
      generalize G i = y at *
      generalize stp r (fun _ => 0) i i = z at *
      have n1 : (0 : Int) ≤ (i : Int) ∧ (i : Int) < 16 := by omega
      go_wp2_with fail
      go_region
      go_wp2
      rw [unhide e1]
      exact ⟨⟨i + 1, by omega, by go_num, ((unhide HA1).step hlt (unhide e2)).drew, ((unhide HB1).setCell (by simp) _).drew⟩, by simp [intOf]; omega⟩
    · have e : i = 16 := by omega
      subst e
      clear a1 b1
      go_wp2
      go_ret
      exact ⟨w.heap.size, Nat.le_refl _, rfl, (unhide HA1).stepEnd, unhide HB1⟩
end Go.Proofs.Ytkpodgeinanceaa
namespace Go.Proofs.Ytkpodgeinanceaa
open Go.ChangeShapes Go.WideShapes Go.ChangeAt Go.RowKit
set_option linter.unusedVariables false
set_option maxRecDepth 100000

/-- the first k products of the place i -/
def mgs (G F : Nat → Nat) (i : Nat) : Nat → Nat
  | 0 => 0
  | k + 1 => mgs G F i k ^^^ mul (G k) (F ((i + k) % 4))
def mixg (G F : Nat → Nat) (i : Nat) : Nat := mgs G F i 4
theorem mgs_lt (G F : Nat → Nat) (hG : ∀ i, G i < 256) (i : Nat) : ∀ k, mgs G F i k < 256
  | 0 => by simp [mgs]
  | k + 1 => xor_lt _ _ (mgs_lt G F hG i k) (mul_lt _ _ (hG k))

set_option maxHeartbeats 2000000 in
theorem specMix (sb so scap fb fo fcap : Nat) (F G : Nat → Nat) (hF : ∀ i, F i < 256) (hG : ∀ i, G i < 256) (w : World) (h1 : Ar w sb so 4 F) (h2 : Ar w fb fo 4 G) :
    Calls Try.prog 75 #[.slice (some ⟨sb, so, none⟩) 4 scap, .slice (some ⟨fb, fo, none⟩) 4 fcap] w fun e w' => ∃ g, w.heap.size ≤ g ∧ e = .returned (.slice (some ⟨g, 0, none⟩) 4 4) ∧ Ar w' g 0 4 (mixg G F) ∧ Below w.heap.size w w' := by
  have HF := hide hF
  have HG := hide hG
  have H1 := hide h1
  have H2 := hide h2
  clear hF hG h1 h2
  go_enter Try.func75, Try.ntmps75
  go_wp2_with fail
  have hmk : (Instr.makeSlice 32 (.int .i64 4) (.int .i64 4)).run Try.prog w = _ := mk_bytes 4 (by omega) w
  rw [hmk]
  go_wp2_with fail
  have A0 : Ar (w.alloc (.cells (us 4 fun _ => 0).toArray 5)) w.heap.size 0 4 (fun _ => 0) := Ar.new w 4 (fun _ => 0) 5
  have B0 : Below w.heap.size w (w.alloc (.cells (us 4 fun _ => 0).toArray 5)) := (Below.refl _ _).alloc (Nat.le_refl _) _
  generalize w.alloc (.cells (us 4 fun _ => 0).toArray 5) = w0 at A0 B0 ⊢
  have HA := hide A0
  have HB := hide B0
  clear A0 B0 hmk
  go_loopw [11] (fun iv wr => ∃ i : Nat, i ≤ 4 ∧ iv = .int .i64 i ∧ Ar wr w.heap.size 0 4 (stp (mixg G F) (fun _ => 0) i) ∧ Below w.heap.size w wr) (fun iv _ => 4 - (intOf iv).toNat)
  case atStart => exact ⟨0, by omega, rfl, (unhide HA).stepNone, unhide HB⟩
  case round =>
    obtain ⟨i, hi, rfl, a1, b1⟩ := hrel
    have HA1 := hide a1
    have HB1 := hide b1
    clear a1 b1
    by_cases hlt : i < 4
    · go_wp2_with fail
      rw [show decide ((i : Int) < 4) = true from decide_eq_true (by omega)]
      go_loopw [7] (fun kv wr2 => ∃ k : Nat, k ≤ 4 ∧ kv = .int .i64 k ∧ Ar wr2 w.heap.size 0 4 (fun j => if j = i then mgs G F i k else stp (mixg G F) (fun _ => 0) i j) ∧ Below w.heap.size w wr2) (fun kv _ => 4 - (intOf kv).toNat)
      case atStart => exact ⟨0, by omega, rfl, (unhide HA1).congr (fun j hj => by
        by_cases e : j = i
        · subst e; simp [mgs, stp]
        · simp [e]), unhide HB1⟩
      case round =>
        obtain ⟨k, hk, rfl, a2, b2⟩ := hrel
        by_cases hl2 : k < 4
        · have m0 := a2.c0 i hlt
          have f0 := a2.f0 i hlt
          have s1 := ((unhide H1).below b2 (unhide H1).lt).c ((i + k) % 4) (by omega)
          have s2 := ((unhide H2).below b2 (unhide H2).lt).c k hl2
          have HA2 := hide a2
          have HB2 := hide b2
          clear a2 b2
          rw [if_pos rfl] at m0
          have hM := hide (fun W => specMul (G k) (F ((i + k) % 4)) (unhide HG _) (unhide HF _) W)
          have e1 := hide (xorI (mgs G F i k) (mul (G k) (F ((i + k) % 4))) (mgs_lt G F (unhide HG) i k) (mul_lt _ _ (unhide HG _)))
          have e2 := hide (show mgs G F i (k + 1) = mgs G F i k ^^^ mul (G k) (F ((i + k) % 4)) from rfl)
          generalize mul (G k) (F ((i + k) % 4)) = y at *
          generalize mgs G F i k = x at *
          generalize G k = g1 at *
          generalize F ((i + k) % 4) = g2 at *
          have i2 : IntKind.i64.wrap ((i : Int) + (k : Int)) = (i : Int) + (k : Int) := wraps_i64 _ (by omega) (by omega)
          have j2 : Int.tmod ((i : Int) + (k : Int)) 4 = (((i + k) % 4 : Nat) : Int) := by rw [Int.tmod_eq_emod_of_nonneg (by omega)]; omega
          have l2 : (i + k) % 4 < 4 := by omega
          generalize (i + k) % 4 = p2 at *
          have n2 : (0 : Int) ≤ (p2 : Int) ∧ (p2 : Int) < 4 := by omega
          have n3 : (0 : Int) ≤ (k : Int) ∧ (k : Int) < 4 := by omega
          have n4 : (0 : Int) ≤ (i : Int) ∧ (i : Int) < 4 := by omega
          have m2 : IntKind.i64.wrap (p2 : Int) = (p2 : Int) := wraps_i64 _ (by omega) (by omega)
          go_wp2_with fail
          go_region_with (go_at_call 73; with_reducible refine (unhide hM _).mono ?_; rintro e w1 ⟨rfl, rfl⟩)
          all_goals
            go_wp2
            rw [unhide e1]
            refine ⟨⟨k + 1, by omega, by go_num, ((unhide HA2).put0 hlt ?_ ?_).drew, ((unhide HB2).setCell (by simp) _).drew⟩, by simp [intOf]; omega⟩
            · rw [if_pos rfl]; exact unhide e2
            · intro j hj hne; rw [if_neg hne, if_neg hne]
        · have e : k = 4 := by omega
          subst e
          have HA2 := hide a2
          have HB2 := hide b2
          clear a2 b2
          go_wp2
          refine ⟨⟨i + 1, by omega, by go_num, (unhide HA2).congr ?_, unhide HB2⟩, by simp [intOf]; omega⟩
          intro j hj
          unfold stp
          by_cases e : j = i
          · subst e; rw [if_pos rfl, if_pos (by omega)]; rfl
          · rw [if_neg e]
            by_cases e2 : j < i
            · rw [if_pos e2, if_pos (by omega)]
            · rw [if_neg e2, if_neg (by omega)]
    · have e : i = 4 := by omega
      subst e
      go_wp2
      go_ret
      exact ⟨w.heap.size, Nat.le_refl _, rfl, (unhide HA1).stepEnd, unhide HB1⟩
theorem mixg_eq (F : Nat → Nat) (hF : ∀ i, F i < 256) (i : Nat) (hi : i < 4) : mixg (q4 2 3 1 1) F i = mixc F i := by
  have e0 : (i + 0) % 4 = i := by omega
  show 0 ^^^ mul 2 (F ((i + 0) % 4)) ^^^ mul 3 (F ((i + 1) % 4)) ^^^ mul 1 (F ((i + 2) % 4)) ^^^ mul 1 (F ((i + 3) % 4)) = _
  rw [e0, mul2 _ (hF _), mul3 _ (hF _), mul1 _ (hF _), mul1 _ (hF _), Nat.zero_xor]
  unfold mixc mx1
  simp only [Nat.xor_assoc]

/-- the literal of the four factors -/
theorem q4_new (w : World) (a b c d : Nat) (t : TypeId) : Ar (w.alloc (.cells #[.int .u8 a, .int .u8 b, .int .u8 c, .int .u8 d] t)) w.heap.size 0 4 (q4 a b c d) := by
  have h := Ar.new w 4 (q4 a b c d) t
  rw [us_def] at h
  exact h
end Go.Proofs.Ytkpodgeinanceaa
