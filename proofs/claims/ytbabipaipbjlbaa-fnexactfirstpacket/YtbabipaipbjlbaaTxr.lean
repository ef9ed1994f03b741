/-
  Rows of texts: those that came in, those of the call's own, appended to; the laws' copies of them and what they weigh.
-/
import Derived.Test.YtbabipaipbjlbaaStx
import Derived.Test.YtbabipaipbjlbaaTmmX
import Derived.Laws.ResultCell
import Derived.Deep.RegionWith
import Derived.Deep.Strs
import Derived.Deep.Slices
namespace Go.Proofs.Ytbabipaipbjlbaa
open Go.ChangeShapes Go.WideShapes Go.ChangeAt Go.RowKit Go.Deep
set_option linter.unusedVariables false
set_option maxRecDepth 100000

/-- the i-th text of a list -/
def tA (L : List ByteArray) (i : Nat) : ByteArray := L.getD i ⟨#[]⟩
/-- the cells of a list of texts -/
def tC (L : List ByteArray) : List Value := L.map .string
theorem tC_len (L : List ByteArray) : (tC L).length = L.length * 1 := by simp [tC]
theorem tC_app (L M : List ByteArray) : tC (L ++ M) = tC L ++ tC M := by simp [tC]
theorem tC_one (L : List ByteArray) : ∀ u ∈ tC L, u.oneCell' = true := by
  intro u hu
  obtain ⟨t, _, rfl⟩ := List.mem_map.1 hu
  rfl
theorem tC_get (L : List ByteArray) (i : Nat) (u : Value) (h : (tC L)[i]? = some u) : i < L.length ∧ u = .string (tA L i) := by
  unfold tC at h
  rw [List.getElem?_map] at h
  cases e : L[i]? with
  | none => rw [e] at h; cases h
  | some t =>
    rw [e] at h
    injection h with h
    have hi := (List.getElem?_eq_some_iff.1 e).1
    refine ⟨hi, ?_⟩
    unfold tA
    rw [List.getD, e, ← h]
    rfl
theorem tC_at (L : List ByteArray) (i : Nat) (h : i < L.length) : (tC L)[i]? = some (.string (tA L i)) := by
  unfold tC tA
  rw [List.getElem?_map, List.getD, List.getElem?_eq_getElem h]
  rfl
theorem take_tA (L : List ByteArray) (k : Nat) (h : k < L.length) : L.take k ++ [tA L k] = L.take (k + 1) := by
  rw [List.take_add_one, List.getElem?_eq_getElem h]
  unfold tA
  rw [List.getD, List.getElem?_eq_getElem h]
  rfl
theorem tA_app_l (L M : List ByteArray) (i : Nat) (h : i < L.length) : tA (L ++ M) i = tA L i := by
  unfold tA
  rw [List.getD, List.getD, List.getElem?_append_left h]
theorem tA_take (L : List ByteArray) (k i : Nat) (h : i < k) : tA (L.take k) i = tA L i := by
  unfold tA
  rw [List.getD, List.getD, List.getElem?_take, if_pos h]
theorem tA_drop (L : List ByteArray) (k i : Nat) : tA (L.drop k) i = tA L (k + i) := by
  unfold tA
  rw [List.getD, List.getD, List.getElem?_drop]
/-- a list out of a function -/
theorem tlist_of (n : Nat) (f : Nat → ByteArray) : ∃ L : List ByteArray, L.length = n ∧ ∀ i, i < n → tA L i = f i :=
  ⟨(List.range n).map f, by simp, fun i hi => by simp [tA, List.getD, hi]⟩
theorem Sa.congr {w : World} {a : Option Addr} {n : Nat} {F G : Nat → ByteArray} (h : Sa w a n F) (e : ∀ i, i < n → F i = G i) : Sa w a n G := by
  rcases h with h | ⟨b, o, ea, h⟩
  · exact Or.inl h
  · exact Or.inr ⟨b, o, ea, h.lt, fun i hi => by rw [h.c i hi, e i hi]⟩
theorem Sn.congr {base : Nat} {w : World} {a : Option Addr} {n : Nat} {F G : Nat → ByteArray} (h : Sn base w a n F) (e : ∀ i, i < n → F i = G i) : Sn base w a n G := by
  rcases h with h | ⟨g, ea, h⟩
  · exact Or.inl h
  · exact Or.inr ⟨g, ea, h.ge, h.lt, fun i hi => by rw [h.c i hi, e i hi], h.fz⟩
/-- a slice of texts, as a list -/
def Ta (w : World) (a : Option Addr) (L : List ByteArray) : Prop := Sa w a L.length (tA L)
theorem Ta.kept {w w' : World} {a : Option Addr} {L : List ByteArray} (h : Ta w a L) (hb : Below w.heap.size w w') : Ta w' a L := Sa.kept h hb
theorem add_non (b o j : Nat) : (⟨b, o, none⟩ : Addr).add j = ⟨b, o + j, none⟩ := by unfold Addr.add; split <;> simp_all
/-- a part of a row, as a source -/
theorem Sr.sc {w : World} {b o : Nat} {L : List ByteArray} (h : Sr w b o L.length (tA L)) (i : Nat) (M : List ByteArray) (hM : ∀ j, j < M.length → i + j < L.length ∧ tA M j = tA L (i + j)) : Sc w (some ⟨b, o + i, none⟩) M.length (tC M) := by
  refine Or.inr ⟨_, rfl, fun j u hu => ?_⟩
  obtain ⟨hj, rfl⟩ := tC_get M j u hu
  rw [add_non, Nat.add_assoc, h.c (i + j) (hM j hj).1, (hM j hj).2]
theorem sc_txt (w : World) (t : ByteArray) (T : TypeId) : Sc (w.alloc (.cells #[.string t] T)) (some ⟨w.heap.size, 0, none⟩) [t].length (tC [t]) := by
  refine Or.inr ⟨_, rfl, fun j u hu => ?_⟩
  obtain ⟨hj, rfl⟩ := tC_get [t] j u hu
  obtain rfl : j = 0 := by simpa using hj
  rw [add_non]
  simp [tA]
/-- texts of the call's own, in one row -/
def Ost (base : Nat) (w : World) (v : Value) (L : List ByteArray) : Prop := w.ownsRow base 9 1 v L.length (tC L)
theorem Ost.nil (base : Nat) (w : World) : Ost base w (.slice none 0 0) [] := World.ownsRow_nil _ _ _ _
theorem Ost.kept {base : Nat} {w w' : World} {v : Value} {L : List ByteArray} (h : Ost base w v L) (hb : Below w.heap.size w w') : Ost base w' v L := by
  refine ⟨h.1, ?_⟩
  rcases h.2 with hn | ⟨g, cap, cur, rfl, hg, hgg, rest⟩
  · exact .inl hn
  · refine .inr ⟨g, cap, cur, rfl, hg, ?_, rest⟩
    rw [hb.block g (Array.getElem?_eq_some_iff.1 hgg).1]
    exact hgg
theorem Ost.blk {base : Nat} {w : World} {v : Value} {L : List ByteArray} (h : Ost base w v L) : ∀ k, v.ownBlock = some k → base ≤ k := fun k e => (World.ownsRow.lt h k e).1
theorem Ost.form {base : Nat} {w : World} {v : Value} {L : List ByteArray} (h : Ost base w v L) : ∃ a cap, v = .slice a L.length cap ∧ L.length ≤ cap ∧ cap ≤ maxLen ∧ Sn base w a L.length (tA L) := by
  rcases h.2 with ⟨rfl, e⟩ | ⟨g, cap, cur, rfl, hb, hg, hnc, hcm, _⟩
  · exact ⟨none, 0, by rw [e], by omega, Nat.zero_le _, Or.inl e⟩
  · refine ⟨_, _, rfl, hnc, hcm, Or.inr ⟨g, rfl, hb, (Array.getElem?_eq_some_iff.1 hg).1, fun k hk => ?_, fun o _ => World.ownsRow.frozenAt h o⟩⟩
    exact (World.ownsRow.cellAt h k (by omega)).trans (tC_at L k hk)
theorem gr_below {base : Nat} {w w' : World} {v : Value} (hg : w.grownBy w' v.ownBlock) (hb : base ≤ w.heap.size) (hv : ∀ k, v.ownBlock = some k → base ≤ k) : Below base w w' :=
  ⟨hg.os, hg.tape, hg.output, hg.size, fun k hk => hg.block k (by omega) (fun e => by have := hv k e.symm; omega)⟩
theorem infoTx : (Try.prog.info? 9).map (fun i => (i.zero, i.size, i.bytes)) = some (some (.string ⟨#[]⟩), 1, 16) := by kernel_rfl
theorem infoTx_parts : ∃ i0, Try.prog.info? 9 = some i0 ∧ i0.zero = some (.string ⟨#[]⟩) ∧ i0.size = 1 ∧ i0.bytes = 16 := by
  have h := infoTx
  cases e : Try.prog.info? 9 with
  | none => rw [e] at h; cases h
  | some i0 => rw [e] at h; simp at h; exact ⟨i0, rfl, h.1, h.2.1, h.2.2⟩
theorem appS (w : World) (ty : TypeId) (base : Nat) (v : Value) (L : List ByteArray) (hown : Ost base w v L) (sa : Option Addr) (c : Nat) (M : List ByteArray) (hs : Sc w sa M.length (tC M)) (hb : L.length + M.length ≤ 1048576) (hbase : base ≤ w.heap.size) :
    ∃ v' w', (Builtin.append_ #[25, 25] ty #[v, .slice sa M.length c]).run Try.prog w = .ok v' w' ∧ Ost base w' v' (L ++ M) ∧ Below base w w' ∧ (v'.ownBlock = v.ownBlock ∨ v'.ownBlock = some w.heap.size) := by
  obtain ⟨i0, hi, hz0, hz1, hz2⟩ := infoTx_parts
  obtain ⟨v', w', h1, h2, h3, h4⟩ := app_any w 25 ty base 9 i0 _ 1 16 Try.underlying25 hi hz0 hz1 hz2 rfl (by decide) v L.length (tC L) hown sa M.length c (tC M) (tC_len M) hs (tC_one M) (by unfold maxLen; omega) (by omega) hbase
  refine ⟨v', w', h1, ?_, gr_below h3 hbase (Ost.blk hown), h4⟩
  unfold Ost
  rw [List.length_append, tC_app]
  exact h2

/-! ### the laws' copies -/
/-- a slice of texts in the making: k of n are laid -/
structure Mtx (w wr : World) (n k : Nat) (F : Nat → ByteArray) : Prop where
  bel : Below w.heap.size w wr
  lt : w.heap.size < wr.heap.size
  cf : ∀ j, j < k → wr.cell? ⟨w.heap.size, j, none⟩ = some (.string (F j))
  rf : ∀ j, j < n → (wr.cell? ⟨w.heap.size, j, none⟩).isSome = true
  fz : ∀ o, wr.frozen? ⟨w.heap.size, o, none⟩ = false
theorem Mtx.step {w wr : World} {n k : Nat} {F : Nat → ByteArray} (h : Mtx w wr n k F) (hk : k < n) : Mtx w (wr.setCell ⟨w.heap.size, k, none⟩ (.string (F k))) n (k + 1) F := by
  obtain ⟨v0, e0⟩ := Option.isSome_iff_exists.1 (h.rf k hk)
  refine ⟨h.bel.setCell (Nat.le_refl _) _, by simpa using h.lt, ?_, ?_, ?_⟩
  · intro j hj
    by_cases e : j = k
    · subst e; exact World.cell?_setCell_same _ _ _ e0
    · rw [World.cell?_setCell_other _ _ _ _ (by intro e; simp at e <;> omega)]; exact h.cf j (by omega)
  · intro j hj
    by_cases e : j = k
    · subst e; rw [World.cell?_setCell_same _ _ _ e0]; rfl
    · rw [World.cell?_setCell_other _ _ _ _ (by intro e; simp at e <;> omega)]; exact h.rf j hj
  · intro o; rw [World.frozen?_setCell]; exact h.fz o
set_option maxHeartbeats 1000000 in
theorem toS_any (a : Option Addr) (n cap : Nat) (F : Nat → ByteArray) (w : World) (hn : n ≤ 1048576) (h : Sa w a n F) :
    Calls Try.prog 29 #[.slice a n cap] w fun e w' => e = .returned (.slice (some ⟨w.heap.size, 0, none⟩) n n) ∧ Sn w.heap.size w' (some ⟨w.heap.size, 0, none⟩) n F ∧ w.heap.size < w'.heap.size ∧ Below w.heap.size w w' := by
  obtain ⟨i0, hi, hz0, hz1, hz2⟩ := infoTx_parts
  obtain ⟨w1, hmk, hown, hgr⟩ := run_make_full (P := Try.prog) w w.heap.size 25 9 i0 _ 1 Try.underlying25 hi hz0 hz1 .i64 .i64 n (by rw [hz2]; omega) (by unfold maxLen; omega) (Nat.le_refl _)
  have HM : Hid (Mtx w w1 n 0 F) := by
    refine ⟨(Below.refl _ _).grown hgr (Nat.le_refl _) (fun k hk => by cases hk), (hown.lt w.heap.size rfl).2, fun j hj => by omega, fun j hj => ?_, fun o => hown.frozenAt o⟩
    rw [hown.cellAt j (by omega)]; simp [madeCells]; omega
  clear hown hgr hi hz0 hz1 hz2
  have HR := hide h
  clear h
  go_enter Try.func29, Try.ntmps29
  go_wp2
  go_loopw [4] (fun i wr => ∃ k : Nat, k ≤ n ∧ i = .int .i64 k ∧ Mtx w wr n k F) (fun i _ => n - (intOf i).toNat)
  case atStart => exact ⟨0, Nat.zero_le _, rfl, unhide HM⟩
  case round =>
    obtain ⟨k, hk, rfl, hmr⟩ := hrel
    by_cases hlt : k < n
    · rcases (unhide HR).kept hmr.bel with h0 | ⟨b, o, rfl, h1⟩
      · omega
      have hcf := h1.c k hlt
      obtain ⟨v0, e0⟩ := Option.isSome_iff_exists.1 (hmr.rf k hlt)
      have f0 := hmr.fz k
      have hnk : (k : Int) < (n : Int) := by omega
      have HM2 := hide (hmr.step hlt)
      clear h1 hmr
      generalize F k = t at *
      go_wp2
      exact ⟨⟨k + 1, by omega, by go_num, unhide HM2⟩, by simp [intOf]; omega⟩
    · obtain rfl : k = n := by omega
      have HM2 := hide hmr
      clear hmr
      go_wp2
      go_ret
      exact ⟨rfl, Or.inr ⟨_, rfl, Nat.le_refl _, (unhide HM2).lt, (unhide HM2).cf, fun i _ => (unhide HM2).fz i⟩, (unhide HM2).lt, (unhide HM2).bel⟩
set_option maxHeartbeats 1000000 in
theorem szS_any (a : Option Addr) (n cap : Nat) (F : Nat → ByteArray) (left : Nat) (w : World) (h1 : left ≤ 1048576) (hn : n ≤ maxLen) (hs : ∀ i, i < n → (F i).size ≤ maxLen) (h : Sa w a n F) :
    Calls Try.prog 25 #[.slice a n cap, .int .i64 left] w fun e w' => (e = .returned (.int .i64 (-1)) ∨ ∃ r : Nat, e = .returned (.int .i64 r) ∧ r ≤ left ∧ n ≤ left ∧ ∀ i, i < n → (F i).size ≤ left) ∧ w' = w := by
  unfold maxLen at hn hs
  have HS := hide hs
  clear hs
  by_cases hl : (left : Int) < n
  · go_enter Try.func25, Try.ntmps25
    go_wp2
    go_ret
    exact ⟨Or.inl rfl, rfl⟩
  have HR := hide h
  clear h
  go_enter Try.func25, Try.ntmps25
  go_wp2
  go_loopw [1, 5] (fun lv i wr => ∃ k l : Nat, k ≤ n ∧ i = .int .i64 k ∧ lv = .int .i64 l ∧ l ≤ left ∧ Hid (∀ j, j < k → (F j).size ≤ left) ∧ wr = w) (fun _ i _ => n - (intOf i).toNat)
  case atStart => exact ⟨0, left - n, Nat.zero_le _, rfl, by congr 1; omega, by omega, fun j hj => absurd hj (Nat.not_lt_zero _), rfl⟩
  case round =>
    obtain ⟨k, l, hk, rfl, rfl, hll, hA, rfl⟩ := hrel
    by_cases hlt : k < n
    · rcases unhide HR with h0 | ⟨b, o, e, h1⟩
      · omega
      subst e
      have hcf := h1.c k hlt
      have hsz := unhide HS k hlt
      have hnk : (k : Int) < (n : Int) := by omega
      have HA2 : Hid ((F k).size ≤ left → ∀ j, j < k + 1 → (F j).size ≤ left) := fun h j hj => by
        by_cases e : j = k
        · rw [e]; exact h
        · exact unhide hA j (by omega)
      clear h1 hA
      generalize F k = t at *
      by_cases c : (l : Int) < t.size
      · go_wp2
        go_ret
        exact ⟨Or.inl rfl, rfl⟩
      · have e9 : ((l - t.size : Nat) : Int) = (l : Int) - (t.size : Int) := by omega
        go_wp2
        exact ⟨⟨k + 1, l - t.size, by omega, by go_num, by rw [e9], by omega, unhide HA2 (by omega), by trivial⟩, by simp [intOf]; omega⟩
    · obtain rfl : k = n := by omega
      go_wp2
      go_ret
      exact ⟨Or.inr ⟨l, rfl, hll, by omega, unhide hA⟩, rfl⟩
theorem cTx : Try.prog.cellsOf 9 = 1 := by kernel_rfl
theorem open_texts {H : Type} {enc : TypeId × Value → H} {W : World} {spare : Nat → Bool} {held : Bool} {fuel : Nat} {v : Value} {x : DataW H × List MemPlace}
    (h : DataW.trod enc Try.prog W 0 spare held fuel 25 [v] = some x) :
    ∃ (a : Option Addr) (cap : Nat) (L : List ByteArray), v = .slice a L.length cap ∧ L.length ≤ maxLen ∧ (∀ i, i < L.length → (tA L i).size ≤ maxLen) ∧ Ta W a L := by
  rcases open_strs Try.underlying25 Try.underlying9 cTx h with ⟨hc, _⟩ | ⟨a, len, cap, m, Sx, hc, _, hl, hm, hmm, _, hx⟩
  · exact ⟨none, 0, [], by simpa using hc, Nat.zero_le _, fun i hi => absurd hi (Nat.not_lt_zero _), Or.inl rfl⟩
  · have hlm : len ≤ m := by rw [hmm]; split <;> omega
    obtain ⟨L, hL, hF⟩ := tlist_of len Sx
    subst hL
    refine ⟨some a, cap, L, by simpa using hc, by omega, fun i hi => by rw [hF i hi]; exact (hx i (by omega)).2, ?_⟩
    by_cases h0 : L.length = 0
    · exact Or.inl h0
    · right
      obtain ⟨b, off, spot⟩ := a
      have hs : spot = none := by
        have h1 := (hx 0 (by omega)).1
        have := World.cell?_spot h1
        simpa [Addr.add] using this
      subst hs
      refine ⟨b, off, rfl, ?_, fun i hi => ?_⟩
      · have h1 := (hx 0 (by omega)).1
        rw [add_non] at h1
        exact World.block_lt_of_cell? W _ h1
      · have h1 := (hx i (by omega)).1
        rw [add_non] at h1
        rw [h1, hF i hi]
end Go.Proofs.Ytbabipaipbjlbaa
