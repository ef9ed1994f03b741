/-
  Rows of texts: those that came in, those of the call's own, appended to; the laws' copies of them and what they weigh. Live sets: which lists of texts are one, and where a text lies in one. Contracts: GoodLive of both sides; the model's place of a text.
-/
import Derived.Test.YtpjmnnaiegdjmaaDoorStx
import Derived.Test.YtpjmnnaiegdjmaaDoorApr
import Derived.Laws.ResultCell
import Derived.Deep.RegionWith
import Derived.Deep.Strs
import Derived.Deep.Slices
import Derived.Test.YtpjmnnaiegdjmaaDoorBkd
import Derived.Laws.Cover1
namespace Go.Proofs.YtpjmnnaiegdjmaaDoor
open Go.ChangeShapes Go.WideShapes Go.ChangeAt Go.RowKit Go.Deep
set_option linter.unusedVariables false
set_option maxRecDepth 100000

/-- the i-th text of a list -/
def tA (L : List ByteArray) (i : Nat) : ByteArray := L.getD i ⟨#[]⟩
/-- the cells of a list of texts -/
def tC (L : List ByteArray) : List Value := L.map .string
theorem tC_len (L : List ByteArray) : (tC L).length = L.length * 1 := by simp [tC]
theorem tC_app (L M : List ByteArray) : tC (L ++ M) = tC L ++ tC M := by simp [tC]
theorem tC_one (L : List ByteArray) : ∀ u ∈ tC L, u.oneCell' = true := by
  intro u hu
  obtain ⟨t, _, rfl⟩ := List.mem_map.1 hu
  rfl
theorem tC_get (L : List ByteArray) (i : Nat) (u : Value) (h : (tC L)[i]? = some u) : i < L.length ∧ u = .string (tA L i) := by
  unfold tC at h
  rw [List.getElem?_map] at h
  cases e : L[i]? with
  | none => rw [e] at h; cases h
  | some t =>
    rw [e] at h
    injection h with h
    have hi := (List.getElem?_eq_some_iff.1 e).1
    refine ⟨hi, ?_⟩
    unfold tA
    rw [List.getD, e, ← h]
    rfl
theorem tC_at (L : List ByteArray) (i : Nat) (h : i < L.length) : (tC L)[i]? = some (.string (tA L i)) := by
  unfold tC tA
  rw [List.getElem?_map, List.getD, List.getElem?_eq_getElem h]
  rfl
theorem take_tA (L : List ByteArray) (k : Nat) (h : k < L.length) : L.take k ++ [tA L k] = L.take (k + 1) := by
  rw [List.take_add_one, List.getElem?_eq_getElem h]
  unfold tA
  rw [List.getD, List.getElem?_eq_getElem h]
  rfl
theorem tA_app_l (L M : List ByteArray) (i : Nat) (h : i < L.length) : tA (L ++ M) i = tA L i := by
  unfold tA
  rw [List.getD, List.getD, List.getElem?_append_left h]
theorem tA_take (L : List ByteArray) (k i : Nat) (h : i < k) : tA (L.take k) i = tA L i := by
  unfold tA
  rw [List.getD, List.getD, List.getElem?_take, if_pos h]
theorem tA_drop (L : List ByteArray) (k i : Nat) : tA (L.drop k) i = tA L (k + i) := by
  unfold tA
  rw [List.getD, List.getD, List.getElem?_drop]
/-- a list out of a function -/
theorem tlist_of (n : Nat) (f : Nat → ByteArray) : ∃ L : List ByteArray, L.length = n ∧ ∀ i, i < n → tA L i = f i :=
  ⟨(List.range n).map f, by simp, fun i hi => by simp [tA, List.getD, hi]⟩
theorem Sa.congr {w : World} {a : Option Addr} {n : Nat} {F G : Nat → ByteArray} (h : Sa w a n F) (e : ∀ i, i < n → F i = G i) : Sa w a n G := by
  rcases h with h | ⟨b, o, ea, h⟩
  · exact Or.inl h
  · exact Or.inr ⟨b, o, ea, h.lt, fun i hi => by rw [h.c i hi, e i hi]⟩
theorem Sn.congr {base : Nat} {w : World} {a : Option Addr} {n : Nat} {F G : Nat → ByteArray} (h : Sn base w a n F) (e : ∀ i, i < n → F i = G i) : Sn base w a n G := by
  rcases h with h | ⟨g, ea, h⟩
  · exact Or.inl h
  · exact Or.inr ⟨g, ea, h.ge, h.lt, fun i hi => by rw [h.c i hi, e i hi], h.fz⟩
/-- a slice of texts, as a list -/
def Ta (w : World) (a : Option Addr) (L : List ByteArray) : Prop := Sa w a L.length (tA L)
theorem Ta.kept {w w' : World} {a : Option Addr} {L : List ByteArray} (h : Ta w a L) (hb : Below w.heap.size w w') : Ta w' a L := Sa.kept h hb
theorem add_non (b o j : Nat) : (⟨b, o, none⟩ : Addr).add j = ⟨b, o + j, none⟩ := by unfold Addr.add; split <;> simp_all
/-- a part of a row, as a source -/
theorem Sr.sc {w : World} {b o : Nat} {L : List ByteArray} (h : Sr w b o L.length (tA L)) (i : Nat) (M : List ByteArray) (hM : ∀ j, j < M.length → i + j < L.length ∧ tA M j = tA L (i + j)) : Sc w (some ⟨b, o + i, none⟩) M.length (tC M) := by
  refine Or.inr ⟨_, rfl, fun j u hu => ?_⟩
  obtain ⟨hj, rfl⟩ := tC_get M j u hu
  rw [add_non, Nat.add_assoc, h.c (i + j) (hM j hj).1, (hM j hj).2]
theorem sc_txt (w : World) (t : ByteArray) (T : TypeId) : Sc (w.alloc (.cells #[.string t] T)) (some ⟨w.heap.size, 0, none⟩) [t].length (tC [t]) := by
  refine Or.inr ⟨_, rfl, fun j u hu => ?_⟩
  obtain ⟨hj, rfl⟩ := tC_get [t] j u hu
  obtain rfl : j = 0 := by simpa using hj
  rw [add_non]
  simp [tA]
/-- texts of the call's own, in one row -/
def Ost (base : Nat) (w : World) (v : Value) (L : List ByteArray) : Prop := w.ownsRow base 9 1 v L.length (tC L)
theorem Ost.nil (base : Nat) (w : World) : Ost base w (.slice none 0 0) [] := World.ownsRow_nil _ _ _ _
theorem Ost.kept {base : Nat} {w w' : World} {v : Value} {L : List ByteArray} (h : Ost base w v L) (hb : Below w.heap.size w w') : Ost base w' v L := by
  refine ⟨h.1, ?_⟩
  rcases h.2 with hn | ⟨g, cap, cur, rfl, hg, hgg, rest⟩
  · exact .inl hn
  · refine .inr ⟨g, cap, cur, rfl, hg, ?_, rest⟩
    rw [hb.block g (Array.getElem?_eq_some_iff.1 hgg).1]
    exact hgg
theorem Ost.blk {base : Nat} {w : World} {v : Value} {L : List ByteArray} (h : Ost base w v L) : ∀ k, v.ownBlock = some k → base ≤ k := fun k e => (World.ownsRow.lt h k e).1
theorem Ost.form {base : Nat} {w : World} {v : Value} {L : List ByteArray} (h : Ost base w v L) : ∃ a cap, v = .slice a L.length cap ∧ L.length ≤ cap ∧ cap ≤ maxLen ∧ Sn base w a L.length (tA L) := by
  rcases h.2 with ⟨rfl, e⟩ | ⟨g, cap, cur, rfl, hb, hg, hnc, hcm, _⟩
  · exact ⟨none, 0, by rw [e], by omega, Nat.zero_le _, Or.inl e⟩
  · refine ⟨_, _, rfl, hnc, hcm, Or.inr ⟨g, rfl, hb, (Array.getElem?_eq_some_iff.1 hg).1, fun k hk => ?_, fun o _ => World.ownsRow.frozenAt h o⟩⟩
    exact (World.ownsRow.cellAt h k (by omega)).trans (tC_at L k hk)
theorem gr_below {base : Nat} {w w' : World} {v : Value} (hg : w.grownBy w' v.ownBlock) (hb : base ≤ w.heap.size) (hv : ∀ k, v.ownBlock = some k → base ≤ k) : Below base w w' :=
  ⟨hg.os, hg.tape, hg.output, hg.size, fun k hk => hg.block k (by omega) (fun e => by have := hv k e.symm; omega)⟩
theorem infoTx : (Tryd.prog.info? 9).map (fun i => (i.zero, i.size, i.bytes)) = some (some (.string ⟨#[]⟩), 1, 16) := by kernel_rfl
theorem infoTx_parts : ∃ i0, Tryd.prog.info? 9 = some i0 ∧ i0.zero = some (.string ⟨#[]⟩) ∧ i0.size = 1 ∧ i0.bytes = 16 := by
  have h := infoTx
  cases e : Tryd.prog.info? 9 with
  | none => rw [e] at h; cases h
  | some i0 => rw [e] at h; simp at h; exact ⟨i0, rfl, h.1, h.2.1, h.2.2⟩
theorem appS (w : World) (ty : TypeId) (base : Nat) (v : Value) (L : List ByteArray) (hown : Ost base w v L) (sa : Option Addr) (c : Nat) (M : List ByteArray) (hs : Sc w sa M.length (tC M)) (hb : L.length + M.length ≤ 1048576) (hbase : base ≤ w.heap.size) :
    ∃ v' w', (Builtin.append_ #[25, 25] ty #[v, .slice sa M.length c]).run Tryd.prog w = .ok v' w' ∧ Ost base w' v' (L ++ M) ∧ Below base w w' ∧ (v'.ownBlock = v.ownBlock ∨ v'.ownBlock = some w.heap.size) := by
  obtain ⟨i0, hi, hz0, hz1, hz2⟩ := infoTx_parts
  obtain ⟨v', w', h1, h2, h3, h4⟩ := app_any w 25 ty base 9 i0 _ 1 16 Tryd.underlying25 hi hz0 hz1 hz2 rfl (by decide) v L.length (tC L) hown sa M.length c (tC M) (tC_len M) hs (tC_one M) (by unfold maxLen; omega) (by omega) hbase
  refine ⟨v', w', h1, ?_, gr_below h3 hbase (Ost.blk hown), h4⟩
  unfold Ost
  rw [List.length_append, tC_app]
  exact h2

/-! ### the laws' copies -/
/-- a slice of texts in the making: k of n are laid -/
structure Ms (w wr : World) (n k : Nat) (F : Nat → ByteArray) : Prop where
  bel : Below w.heap.size w wr
  lt : w.heap.size < wr.heap.size
  cf : ∀ j, j < k → wr.cell? ⟨w.heap.size, j, none⟩ = some (.string (F j))
  rf : ∀ j, j < n → (wr.cell? ⟨w.heap.size, j, none⟩).isSome = true
  fz : ∀ o, wr.frozen? ⟨w.heap.size, o, none⟩ = false
theorem Ms.step {w wr : World} {n k : Nat} {F : Nat → ByteArray} (h : Ms w wr n k F) (hk : k < n) : Ms w (wr.setCell ⟨w.heap.size, k, none⟩ (.string (F k))) n (k + 1) F := by
  obtain ⟨v0, e0⟩ := Option.isSome_iff_exists.1 (h.rf k hk)
  refine ⟨h.bel.setCell (Nat.le_refl _) _, by simpa using h.lt, ?_, ?_, ?_⟩
  · intro j hj
    by_cases e : j = k
    · subst e; exact World.cell?_setCell_same _ _ _ e0
    · rw [World.cell?_setCell_other _ _ _ _ (by intro e; simp at e <;> omega)]; exact h.cf j (by omega)
  · intro j hj
    by_cases e : j = k
    · subst e; rw [World.cell?_setCell_same _ _ _ e0]; rfl
    · rw [World.cell?_setCell_other _ _ _ _ (by intro e; simp at e <;> omega)]; exact h.rf j hj
  · intro o; rw [World.frozen?_setCell]; exact h.fz o
set_option maxHeartbeats 1000000 in
theorem toS_any (a : Option Addr) (n cap : Nat) (F : Nat → ByteArray) (w : World) (hn : n ≤ 1048576) (h : Sa w a n F) :
    Calls Tryd.prog 13 #[.slice a n cap] w fun e w' => e = .returned (.slice (some ⟨w.heap.size, 0, none⟩) n n) ∧ Sn w.heap.size w' (some ⟨w.heap.size, 0, none⟩) n F ∧ w.heap.size < w'.heap.size ∧ Below w.heap.size w w' := by
  obtain ⟨i0, hi, hz0, hz1, hz2⟩ := infoTx_parts
  obtain ⟨w1, hmk, hown, hgr⟩ := run_make_full (P := Tryd.prog) w w.heap.size 25 9 i0 _ 1 Tryd.underlying25 hi hz0 hz1 .i64 .i64 n (by rw [hz2]; omega) (by unfold maxLen; omega) (Nat.le_refl _)
  have HM : Hid (Ms w w1 n 0 F) := by
    refine ⟨(Below.refl _ _).grown hgr (Nat.le_refl _) (fun k hk => by cases hk), (hown.lt w.heap.size rfl).2, fun j hj => by omega, fun j hj => ?_, fun o => hown.frozenAt o⟩
    rw [hown.cellAt j (by omega)]; simp [madeCells]; omega
  clear hown hgr hi hz0 hz1 hz2
  have HR := hide h
  clear h
  go_enter Tryd.func13, Tryd.ntmps13
  go_wp2
  go_loopw [4] (fun i wr => ∃ k : Nat, k ≤ n ∧ i = .int .i64 k ∧ Ms w wr n k F) (fun i _ => n - (intOf i).toNat)
  case atStart => exact ⟨0, Nat.zero_le _, rfl, unhide HM⟩
  case round =>
    obtain ⟨k, hk, rfl, hmr⟩ := hrel
    by_cases hlt : k < n
    · rcases (unhide HR).kept hmr.bel with h0 | ⟨b, o, rfl, h1⟩
      · omega
      have hcf := h1.c k hlt
      obtain ⟨v0, e0⟩ := Option.isSome_iff_exists.1 (hmr.rf k hlt)
      have f0 := hmr.fz k
      have hnk : (k : Int) < (n : Int) := by omega
      have HM2 := hide (hmr.step hlt)
      clear h1 hmr
      generalize F k = t at *
      go_wp2
      exact ⟨⟨k + 1, by omega, by go_num, unhide HM2⟩, by simp [intOf]; omega⟩
    · obtain rfl : k = n := by omega
      have HM2 := hide hmr
      clear hmr
      go_wp2
      go_ret
      exact ⟨rfl, Or.inr ⟨_, rfl, Nat.le_refl _, (unhide HM2).lt, (unhide HM2).cf, fun i _ => (unhide HM2).fz i⟩, (unhide HM2).lt, (unhide HM2).bel⟩
set_option maxHeartbeats 1000000 in
theorem szS_any (a : Option Addr) (n cap : Nat) (F : Nat → ByteArray) (left : Nat) (w : World) (h1 : left ≤ 1048576) (hn : n ≤ maxLen) (hs : ∀ i, i < n → (F i).size ≤ maxLen) (h : Sa w a n F) :
    Calls Tryd.prog 11 #[.slice a n cap, .int .i64 left] w fun e w' => (e = .returned (.int .i64 (-1)) ∨ ∃ r : Nat, e = .returned (.int .i64 r) ∧ r ≤ left ∧ n ≤ left ∧ ∀ i, i < n → (F i).size ≤ left) ∧ w' = w := by
  unfold maxLen at hn hs
  have HS := hide hs
  clear hs
  by_cases hl : (left : Int) < n
  · go_enter Tryd.func11, Tryd.ntmps11
    go_wp2
    go_ret
    exact ⟨Or.inl rfl, rfl⟩
  have HR := hide h
  clear h
  go_enter Tryd.func11, Tryd.ntmps11
  go_wp2
  go_loopw [1, 5] (fun lv i wr => ∃ k l : Nat, k ≤ n ∧ i = .int .i64 k ∧ lv = .int .i64 l ∧ l ≤ left ∧ Hid (∀ j, j < k → (F j).size ≤ left) ∧ wr = w) (fun _ i _ => n - (intOf i).toNat)
  case atStart => exact ⟨0, left - n, Nat.zero_le _, rfl, by congr 1; omega, by omega, fun j hj => absurd hj (Nat.not_lt_zero _), rfl⟩
  case round =>
    obtain ⟨k, l, hk, rfl, rfl, hll, hA, rfl⟩ := hrel
    by_cases hlt : k < n
    · rcases unhide HR with h0 | ⟨b, o, e, h1⟩
      · omega
      subst e
      have hcf := h1.c k hlt
      have hsz := unhide HS k hlt
      have hnk : (k : Int) < (n : Int) := by omega
      have HA2 : Hid ((F k).size ≤ left → ∀ j, j < k + 1 → (F j).size ≤ left) := fun h j hj => by
        by_cases e : j = k
        · rw [e]; exact h
        · exact unhide hA j (by omega)
      clear h1 hA
      generalize F k = t at *
      by_cases c : (l : Int) < t.size
      · go_wp2
        go_ret
        exact ⟨Or.inl rfl, rfl⟩
      · have e9 : ((l - t.size : Nat) : Int) = (l : Int) - (t.size : Int) := by omega
        go_wp2
        exact ⟨⟨k + 1, l - t.size, by omega, by go_num, by rw [e9], by omega, unhide HA2 (by omega), by trivial⟩, by simp [intOf]; omega⟩
    · obtain rfl : k = n := by omega
      go_wp2
      go_ret
      exact ⟨Or.inr ⟨l, rfl, hll, by omega, unhide hA⟩, rfl⟩
theorem cTx : Tryd.prog.cellsOf 9 = 1 := by kernel_rfl
theorem open_texts {H : Type} {enc : TypeId × Value → H} {W : World} {spare : Nat → Bool} {held : Bool} {fuel : Nat} {v : Value} {x : DataW H × List MemPlace}
    (h : DataW.trod enc Tryd.prog W 0 spare held fuel 25 [v] = some x) :
    ∃ (a : Option Addr) (cap : Nat) (L : List ByteArray), v = .slice a L.length cap ∧ L.length ≤ maxLen ∧ (∀ i, i < L.length → (tA L i).size ≤ maxLen) ∧ Ta W a L := by
  rcases open_strs Tryd.underlying25 Tryd.underlying9 cTx h with ⟨hc, _⟩ | ⟨a, len, cap, m, Sx, hc, _, hl, hm, hmm, _, hx⟩
  · exact ⟨none, 0, [], by simpa using hc, Nat.zero_le _, fun i hi => absurd hi (Nat.not_lt_zero _), Or.inl rfl⟩
  · have hlm : len ≤ m := by rw [hmm]; split <;> omega
    obtain ⟨L, hL, hF⟩ := tlist_of len Sx
    subst hL
    refine ⟨some a, cap, L, by simpa using hc, by omega, fun i hi => by rw [hF i hi]; exact (hx i (by omega)).2, ?_⟩
    by_cases h0 : L.length = 0
    · exact Or.inl h0
    · right
      obtain ⟨b, off, spot⟩ := a
      have hs : spot = none := by
        have h1 := (hx 0 (by omega)).1
        have := World.cell?_spot h1
        simpa [Addr.add] using this
      subst hs
      refine ⟨b, off, rfl, ?_, fun i hi => ?_⟩
      · have h1 := (hx 0 (by omega)).1
        rw [add_non] at h1
        exact World.block_lt_of_cell? W _ h1
      · have h1 := (hx i (by omega)).1
        rw [add_non] at h1
        rw [h1, hF i hi]
end Go.Proofs.YtpjmnnaiegdjmaaDoor
namespace Go.Proofs.YtpjmnnaiegdjmaaDoor
open Go.ChangeShapes Go.WideShapes Go.ChangeAt Go.RowKit
set_option linter.unusedVariables false

/-- a text lies ahead of another -/
def lsT (x y : ByteArray) : Bool := Go.Op.bytesLess x.toList y.toList
theorem tl_inj {x y : ByteArray} (h : x.toList = y.toList) : x = y := by
  rw [Lib.toList_data, Lib.toList_data] at h
  exact ByteArray.ext (Array.toList_inj.mp h)
theorem bl_irr : ∀ x : List UInt8, Go.Op.bytesLess x x = false
  | [] => rfl
  | a :: x => by rw [Go.Op.bytesLess, bl_irr x, Bool.and_false, Bool.or_false]; exact decide_eq_false (UInt8.lt_irrefl a)
theorem bl_tr : ∀ x y z : List UInt8, Go.Op.bytesLess x y = true → Go.Op.bytesLess y z = true → Go.Op.bytesLess x z = true
  | _, [], _, h, _ => by simp [Go.Op.bytesLess] at h
  | _, _ :: _, [], _, h => by simp [Go.Op.bytesLess] at h
  | [], _ :: _, _ :: _, _, _ => by simp [Go.Op.bytesLess]
  | a :: x, b :: y, c :: z, h1, h2 => by
    rw [Go.Op.bytesLess, Bool.or_eq_true, Bool.and_eq_true] at h1 h2 ⊢
    rcases h1 with h1 | ⟨e1, h1⟩
    · rcases h2 with h2 | ⟨e2, h2⟩
      · exact Or.inl (decide_eq_true (UInt8.lt_trans (of_decide_eq_true h1) (of_decide_eq_true h2)))
      · rw [eq_of_beq e2] at h1; exact Or.inl h1
    · rcases h2 with h2 | ⟨e2, h2⟩
      · rw [← eq_of_beq e1] at h2; exact Or.inl h2
      · exact Or.inr ⟨by rw [eq_of_beq e1]; exact e2, bl_tr x y z h1 h2⟩
theorem lsT_irr (x : ByteArray) : lsT x x = false := by
  exact bl_irr _
theorem lsT_tr {x y z : ByteArray} (h1 : lsT x y = true) (h2 : lsT y z = true) : lsT x z = true := by
  exact bl_tr _ _ _ h1 h2
/-- text k is as it must be in a live set -/
def okB (F : Nat → ByteArray) (k : Nat) : Bool := bkB (F k) && (decide (k = 0) || lsT (F (k - 1)) (F k))
def okV (F : Nat → ByteArray) : Nat → Bool
  | 0 => true
  | k + 1 => okV F k && okB F k
theorem okV_no (F : Nat → ByteArray) : ∀ {k m : Nat}, k < m → okB F k = false → okV F m = false
  | k, 0, h, _ => absurd h (by omega)
  | k, m + 1, h, e => by
    unfold okV
    by_cases hk : k = m
    · subst hk; rw [e, Bool.and_false]
    · rw [okV_no F (show k < m by omega) e, Bool.false_and]
theorem okV_at (F : Nat → ByteArray) : ∀ {k m : Nat}, k < m → okV F m = true → okB F k = true
  | k, 0, h, _ => absurd h (by omega)
  | k, m + 1, h, e => by
    unfold okV at e
    rw [Bool.and_eq_true] at e
    by_cases hk : k = m
    · subst hk; exact e.2
    · exact okV_at F (show k < m by omega) e.1
/-- a live set -/
def glB (F : Nat → ByteArray) (n : Nat) : Bool := decide (n ≤ 12) && okV F n
theorem gl_12 {F : Nat → ByteArray} {n : Nat} (h : glB F n = true) : n ≤ 12 := by
  unfold glB at h
  rw [Bool.and_eq_true] at h
  exact of_decide_eq_true h.1
theorem gl_bk {F : Nat → ByteArray} {n : Nat} (h : glB F n = true) {k : Nat} (hk : k < n) : bkB (F k) = true := by
  unfold glB at h
  rw [Bool.and_eq_true] at h
  have := okV_at F hk h.2
  unfold okB at this
  rw [Bool.and_eq_true] at this
  exact this.1
theorem gl_nx {F : Nat → ByteArray} {n : Nat} (h : glB F n = true) {k : Nat} (hk : k + 1 < n) : lsT (F k) (F (k + 1)) = true := by
  unfold glB at h
  rw [Bool.and_eq_true] at h
  have := okV_at F hk h.2
  unfold okB at this
  rw [Bool.and_eq_true, decide_eq_false (show ¬ k + 1 = 0 by omega), Bool.false_or, Nat.add_sub_cancel] at this
  exact this.2
theorem gl_lt {F : Nat → ByteArray} {n : Nat} (h : glB F n = true) : ∀ {j k : Nat}, j < k → k < n → lsT (F j) (F k) = true
  | j, 0, h1, _ => absurd h1 (by omega)
  | j, k + 1, h1, h2 => by
    by_cases e : j = k
    · subst e; exact gl_nx h h2
    · exact lsT_tr (gl_lt h (show j < k by omega) (by omega)) (gl_nx h h2)
theorem bk_size {s : ByteArray} (h : bkB s = true) : s.size ≤ 12 := by
  unfold bkB at h
  rw [Bool.and_eq_true, Bool.and_eq_true] at h
  exact of_decide_eq_true h.1.2
/-- the place of a text: the first that does not lie ahead of it -/
def IsP (F : Nat → ByteArray) (x : ByteArray) (n k : Nat) : Prop := k ≤ n ∧ (∀ t, t < k → lsT (F t) x = true) ∧ (k < n → lsT (F k) x = false)
theorem IsP.uniq {F : Nat → ByteArray} {x : ByteArray} {n k k' : Nat} (h : IsP F x n k) (h' : IsP F x n k') : k = k' := by
  obtain ⟨a, b, c⟩ := h
  obtain ⟨a', b', c'⟩ := h'
  by_cases h1 : k < k'
  · have := b' k h1
    rw [c (by omega)] at this
    cases this
  by_cases h2 : k' < k
  · have := b k' h2
    rw [c' (by omega)] at this
    cases this
  omega
/-- how many lie ahead -/
def lnP (F : Nat → ByteArray) (x : ByteArray) : Nat → Nat
  | 0 => 0
  | n + 1 => if lnP F x n = n ∧ lsT (F n) x = true then n + 1 else lnP F x n
theorem lnP_is (F : Nat → ByteArray) (x : ByteArray) : ∀ n, IsP F x n (lnP F x n)
  | 0 => ⟨Nat.le_refl _, fun t h => absurd h (Nat.not_lt_zero _), fun h => absurd h (Nat.lt_irrefl _)⟩
  | n + 1 => by
    obtain ⟨a, b, c⟩ := lnP_is F x n
    rw [lnP]
    by_cases h : lnP F x n = n ∧ lsT (F n) x = true
    · rw [if_pos h]
      refine ⟨Nat.le_refl _, fun t ht => ?_, fun h => absurd h (Nat.lt_irrefl _)⟩
      by_cases e : t = n
      · subst e; exact h.2
      · exact b t (by rw [h.1]; omega)
    · rw [if_neg h]
      refine ⟨by omega, b, fun _ => ?_⟩
      by_cases e : lnP F x n = n
      · rw [e]
        exact Bool.eq_false_iff.2 fun z => h ⟨e, z⟩
      · exact c (by omega)
theorem IsP.eq {F : Nat → ByteArray} {x : ByteArray} {n k : Nat} (h : IsP F x n k) : lnP F x n = k := (lnP_is F x n).uniq h
/-- whether it is there -/
def hsP (F : Nat → ByteArray) (x : ByteArray) (n : Nat) : Bool := decide (lnP F x n < n) && decide (F (lnP F x n) = x)
/-- of a live set, what lies behind the place does not lie ahead of the text -/
theorem gl_behind {F : Nat → ByteArray} {n : Nat} (h : glB F n = true) {x : ByteArray} {k : Nat} (hp : IsP F x n k) {t : Nat} (h1 : k ≤ t) (h2 : t < n) : lsT (F t) x = false := by
  obtain ⟨a, b, c⟩ := hp
  by_cases e : t = k
  · rw [e]; exact c (by omega)
  · refine Bool.eq_false_iff.2 fun z => ?_
    have := lsT_tr (gl_lt h (show k < t by omega) h2) z
    rw [c (by omega)] at this
    cases this
theorem beq_txt (x y : ByteArray) : (x.toList == y.toList) = decide (x = y) := by
  by_cases h : x = y
  · subst h; rw [decide_eq_true rfl]; exact beq_self_eq_true _
  · rw [decide_eq_false h]
    exact Bool.eq_false_iff.2 fun z => h (tl_inj (eq_of_beq z))
end Go.Proofs.YtpjmnnaiegdjmaaDoor
namespace Go.Proofs.YtpjmnnaiegdjmaaDoor
open Go.ChangeShapes Go.WideShapes Go.ChangeAt Go.RowKit
set_option linter.unusedVariables false
set_option maxRecDepth 100000

theorem okB_n {F : Nat → ByteArray} {k : Nat} (h : bkB (F k) = false) : okB F k = false := by unfold okB; rw [h]; rfl
theorem okB_0 {F : Nat → ByteArray} (h : bkB (F 0) = true) : okB F 0 = true := by unfold okB; rw [h]; rfl
theorem okB_s {F : Nat → ByteArray} {k : Nat} (h : bkB (F k) = true) (hk : 0 < k) : okB F k = lsT (F (k - 1)) (F k) := by
  unfold okB
  rw [h, decide_eq_false (show ¬ k = 0 by omega), Bool.false_or, Bool.true_and]
set_option maxHeartbeats 1000000 in
theorem implGL (a : Option Addr) (n cap : Nat) (F : Nat → ByteArray) (w : World) (hn : n ≤ 1048576) (hs : ∀ i, i < n → (F i).size ≤ 1048576) (h : Sa w a n F) :
    Calls Tryd.prog 41 #[.slice a n cap] w fun e w' => e = .returned (.bool (glB F n)) ∧ w' = w := by
  unfold glB
  by_cases h12 : n ≤ 12
  case neg =>
    rw [decide_eq_false h12, Bool.false_and]
    go_enter Tryd.func41, Tryd.ntmps41
    go_wp2
    go_ret
    exact ⟨rfl, rfl⟩
  rw [decide_eq_true h12, Bool.true_and]
  have HR := hide h
  have HS := hide hs
  clear h hs
  go_enter Tryd.func41, Tryd.ntmps41
  go_wp2
  go_loopw [10] (fun i wr => ∃ k : Nat, k ≤ n ∧ i = .int .i64 k ∧ okV F k = true ∧ wr = w) (fun i _ => n - (intOf i).toNat)
  case atStart => exact ⟨0, Nat.zero_le _, rfl, rfl, rfl⟩
  case round =>
    obtain ⟨k, hk, rfl, hA, rfl⟩ := hrel
    by_cases hlt : k < n
    · rcases unhide HR with h0 | ⟨b, o, e, h1⟩
      · omega
      subst e
      have hcf := h1.c k hlt
      have hnk : (k : Int) < (n : Int) := by omega
      have HC := hide (fun W => implGB (F k) W (by have := unhide HS k hlt; unfold maxLen; omega))
      by_cases c : bkB (F k) = true
      case neg =>
        have c' := Bool.eq_false_iff.2 c
        have hE := hide (okV_no F hlt (okB_n c'))
        rw [c'] at HC
        clear h1 hA c c'
        generalize F k = t at *
        go_wp2_with fail
        refine (unhide HC _).mono ?_
        rintro e w1 ⟨rfl, z1⟩
        subst w1
        go_wp2
        go_ret
        exact ⟨by rw [unhide hE]; rfl, rfl⟩
      rw [c] at HC
      by_cases k0 : k = 0
      · subst k0
        have hA2 : Hid (okV F 1 = true) := by show _ = _; rw [okV, hA, okB_0 c]; rfl
        clear h1 hA c
        rw [Nat.add_zero] at hcf
        generalize F 0 = t at *
        go_wp2_with fail
        refine (unhide HC _).mono ?_
        rintro e w1 ⟨rfl, z1⟩
        subst w1
        go_wp2
        exact ⟨⟨1, by omega, by go_num, unhide hA2, by trivial⟩, by simp [intOf]; omega⟩
      have hk0 : (0 : Int) < (k : Int) := by omega
      have hkn : ¬ ((k : Int) = 0) := by omega
      have hcp := h1.c (k - 1) (by omega)
      have eB := okB_s c (show 0 < k by omega)
      by_cases d : lsT (F (k - 1)) (F k) = true
      · have hA2 : Hid (okV F (k + 1) = true) := by show _ = _; rw [okV, hA, eB, d]; rfl
        clear h1 hA c eB
        unfold lsT at d
        generalize F k = t at *
        generalize F (k - 1) = t1 at *
        obtain ⟨m, rfl⟩ : ∃ m, k = m + 1 := ⟨k - 1, by omega⟩
        rw [Nat.add_sub_cancel] at hcp
        go_wp2_with fail
        refine (unhide HC _).mono ?_
        rintro e w1 ⟨rfl, z1⟩
        subst w1
        go_wp2
        exact ⟨⟨m + 1 + 1, by omega, by go_num, unhide hA2, by trivial⟩, by simp [intOf]; omega⟩
      · have d' := Bool.eq_false_iff.2 d
        have hE := hide (okV_no F hlt (eB.trans d'))
        clear h1 hA c eB d
        unfold lsT at d'
        generalize F k = t at *
        generalize F (k - 1) = t1 at *
        obtain ⟨m, rfl⟩ : ∃ m, k = m + 1 := ⟨k - 1, by omega⟩
        rw [Nat.add_sub_cancel] at hcp
        go_wp2_with fail
        refine (unhide HC _).mono ?_
        rintro e w1 ⟨rfl, z1⟩
        subst w1
        go_wp2
        go_ret
        exact ⟨by rw [unhide hE]; rfl, rfl⟩
    · obtain rfl : k = n := by omega
      have HA := hide hA
      clear hA
      go_wp2
      go_ret
      exact ⟨by rw [unhide HA]; rfl, rfl⟩
set_option maxHeartbeats 1000000 in
theorem specGL (a : Option Addr) (n cap : Nat) (F : Nat → ByteArray) (w : World) (hn : n ≤ 1048576) (hs : ∀ i, i < n → (F i).size ≤ 1048576) (h : Sa w a n F) :
    Calls Tryd.prog 36 #[.slice a n cap] w fun e w' => e = .returned (.bool (glB F n)) ∧ w' = w := by
  unfold glB
  have HR := hide h
  have HS := hide hs
  clear h hs
  go_enter Tryd.func36, Tryd.ntmps36
  go_wp2
  go_loopw [7] (fun i wr => ∃ k : Nat, k ≤ n ∧ i = .int .i64 k ∧ okV F k = true ∧ wr = w) (fun i _ => n - (intOf i).toNat)
  case atStart => exact ⟨0, Nat.zero_le _, rfl, rfl, rfl⟩
  case round =>
    obtain ⟨k, hk, rfl, hA, rfl⟩ := hrel
    by_cases hlt : k < n
    · rcases unhide HR with h0 | ⟨b, o, e, h1⟩
      · omega
      subst e
      have hcf := h1.c k hlt
      have hnk : (k : Int) < (n : Int) := by omega
      have HC := hide (fun W => specBk (F k) W (by have := unhide HS k hlt; unfold maxLen; omega))
      by_cases c : bkB (F k) = true
      case neg =>
        have c' := Bool.eq_false_iff.2 c
        have hE := hide (okV_no F hlt (okB_n c'))
        rw [c'] at HC
        clear h1 hA c c'
        generalize F k = t at *
        go_wp2_with fail
        refine (unhide HC _).mono ?_
        rintro e w1 ⟨rfl, z1⟩
        subst w1
        go_wp2
        go_ret
        exact ⟨by rw [unhide hE, Bool.and_false]; rfl, rfl⟩
      rw [c] at HC
      by_cases k0 : k = 0
      · subst k0
        have hA2 : Hid (okV F 1 = true) := by show _ = _; rw [okV, hA, okB_0 c]; rfl
        clear h1 hA c
        rw [Nat.add_zero] at hcf
        generalize F 0 = t at *
        go_wp2_with fail
        refine (unhide HC _).mono ?_
        rintro e w1 ⟨rfl, z1⟩
        subst w1
        go_wp2
        exact ⟨⟨1, by omega, by go_num, unhide hA2, by trivial⟩, by simp [intOf]; omega⟩
      have hk0 : (0 : Int) < (k : Int) := by omega
      have hkn : ¬ ((k : Int) = 0) := by omega
      have hcp := h1.c (k - 1) (by omega)
      have eB := okB_s c (show 0 < k by omega)
      by_cases d : lsT (F (k - 1)) (F k) = true
      · have hA2 : Hid (okV F (k + 1) = true) := by show _ = _; rw [okV, hA, eB, d]; rfl
        clear h1 hA c eB
        unfold lsT at d
        generalize F k = t at *
        generalize F (k - 1) = t1 at *
        obtain ⟨m, rfl⟩ : ∃ m, k = m + 1 := ⟨k - 1, by omega⟩
        rw [Nat.add_sub_cancel] at hcp
        go_wp2_with fail
        refine (unhide HC _).mono ?_
        rintro e w1 ⟨rfl, z1⟩
        subst w1
        go_wp2
        exact ⟨⟨m + 1 + 1, by omega, by go_num, unhide hA2, by trivial⟩, by simp [intOf]; omega⟩
      · have d' := Bool.eq_false_iff.2 d
        have hE := hide (okV_no F hlt (eB.trans d'))
        clear h1 hA c eB d
        unfold lsT at d'
        generalize F k = t at *
        generalize F (k - 1) = t1 at *
        obtain ⟨m, rfl⟩ : ∃ m, k = m + 1 := ⟨k - 1, by omega⟩
        rw [Nat.add_sub_cancel] at hcp
        go_wp2_with fail
        refine (unhide HC _).mono ?_
        rintro e w1 ⟨rfl, z1⟩
        subst w1
        go_wp2
        go_ret
        exact ⟨by rw [unhide hE, Bool.and_false]; rfl, rfl⟩
    · obtain rfl : k = n := by omega
      have HA := hide hA
      clear hA
      go_wp2
      go_ret
      refine ⟨?_, rfl⟩
      rw [unhide HA, Bool.and_true, show decide ((k : Int) ≤ 12) = decide (k ≤ 12) from decide_eq_decide.2 (by omega)]
      rfl
set_option maxHeartbeats 1000000 in
theorem specAt (a : Option Addr) (n cap : Nat) (F : Nat → ByteArray) (x : ByteArray) (w : World) (hn : n ≤ 1048576) (h : Sa w a n F) :
    Calls Tryd.prog 55 #[.slice a n cap, .string x] w fun e w' => e = .returned (.tuple #[.int .i64 (lnP F x n : Nat), .bool (hsP F x n)]) ∧ Below w.heap.size w w' := by
  have HR := hide h
  clear h
  go_enter Tryd.func55, Tryd.ntmps55
  go_wp2
  go_loopw [6] (fun i wr => ∃ k : Nat, k ≤ n ∧ i = .int .i64 k ∧ Hid (∀ t, t < k → lsT (F t) x = true) ∧ wr = w) (fun i _ => n - (intOf i).toNat)
  case atStart => exact ⟨0, Nat.zero_le _, rfl, fun t h => absurd h (Nat.not_lt_zero _), rfl⟩
  case round =>
    obtain ⟨k, hk, rfl, hA, rfl⟩ := hrel
    by_cases hlt : k < n
    · rcases unhide HR with h0 | ⟨b, o, e, h1⟩
      · omega
      subst e
      have hcf := h1.c k hlt
      have hnk : (k : Int) < (n : Int) := by omega
      by_cases d : lsT (F k) x = true
      · have hA2 : Hid (∀ t, t < k + 1 → lsT (F t) x = true) := fun t ht => by
          by_cases e : t = k
          · rw [e]; exact d
          · exact unhide hA t (by omega)
        clear h1 hA
        unfold lsT at d
        generalize F k = t at *
        go_wp2
        exact ⟨⟨k + 1, by omega, by go_num, hA2, by trivial⟩, by simp [intOf]; omega⟩
      · have d' := Bool.eq_false_iff.2 d
        have hL : lnP F x n = k := IsP.eq ⟨hk, unhide hA, fun _ => d'⟩
        have hE : Hid (lnP F x n = k ∧ hsP F x n = ((F k).toList == x.toList)) := by
          refine ⟨hL, ?_⟩
          unfold hsP
          rw [hL, decide_eq_true hlt, Bool.true_and, beq_txt]
        clear h1 hA hL d
        unfold lsT at d'
        have hd : decide ((k : Int) < (n : Int)) = true := decide_eq_true hnk
        generalize F k = t at *
        go_wp2_with fail
        go_quiet (fail)
        all_goals
          go_wp2
          go_ret2
          exact ⟨by rw [(unhide hE).1, (unhide hE).2]; rfl, below_drewN (Below.refl _ _) _⟩
    · obtain rfl : k = n := by omega
      have hL : lnP F x k = k := IsP.eq ⟨hk, unhide hA, fun h => absurd h (Nat.lt_irrefl _)⟩
      have hE : Hid (lnP F x k = k ∧ hsP F x k = false) := by
        refine ⟨hL, ?_⟩
        unfold hsP
        rw [hL, decide_eq_false (Nat.lt_irrefl _), Bool.false_and]
      have hd : decide ((k : Int) < (k : Int)) = false := decide_eq_false (by omega)
      clear hL hA
      go_wp2_with fail
      go_quiet (fail)
      all_goals
        go_wp2
        go_ret2
        exact ⟨by rw [(unhide hE).1, (unhide hE).2]; rfl, below_drewN (Below.refl _ _) _⟩
end Go.Proofs.YtpjmnnaiegdjmaaDoor
