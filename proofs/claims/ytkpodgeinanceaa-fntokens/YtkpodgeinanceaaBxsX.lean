/-
  Blocks that hold just these cells, and may be written. Contracts: openToken of the program. The law on CheckToken, walked, out of what openToken tells. Pure: the keys' order; openToken's contract.
-/
import Derived.Test.YtkpodgeinanceaaBase
import Derived.Test.YtkpodgeinanceaaBwdX
import Derived.Test.YtkpodgeinanceaaCklX
import Derived.Sort.CutIn
import Derived.RegionIn
import Derived.Shelf.RegionOpen
namespace Go.Proofs.Ytkpodgeinanceaa
open Go.ChangeShapes Go.WideShapes Go.ChangeAt Go.RowKit
set_option linter.unusedVariables false

/-- block b holds these cells, and they may be written -/
structure Bx (w : World) (b : Nat) (xs : List Value) : Prop where
  lt : b < w.heap.size
  cv : ∀ o, w.cell? ⟨b, o, none⟩ = xs[o]?
  fz : ∀ o, w.frozen? ⟨b, o, none⟩ = false
theorem Bx.below {w w' : World} {b : Nat} {xs : List Value} (h : Bx w b xs) (hb : Below w.heap.size w w') : Bx w' b xs :=
  ⟨Nat.lt_of_lt_of_le h.lt hb.size, fun o => (hb.cell (p := ⟨b, o, none⟩) h.lt).trans (h.cv o), fun o => (hb.frozen (p := ⟨b, o, none⟩) h.lt).trans (h.fz o)⟩
theorem Bx.alloc {w : World} {b : Nat} {xs : List Value} (h : Bx w b xs) (o : Obj) : Bx (w.alloc o) b xs := h.below ((Below.refl _ _).alloc (Nat.le_refl _) _)
theorem Bx.drew {w : World} {b : Nat} {xs : List Value} (h : Bx w b xs) : Bx w.drew b xs := h.below (Below.refl _ _).drew
theorem Bx.new (w : World) (xs : List Value) (T : TypeId) : Bx (w.alloc (.cells xs.toArray T)) w.heap.size xs :=
  ⟨by simp, fun o => by simp, fun o => (frozen?_alloc_cells w _ T _).trans (by simp [World.frozen?])⟩
theorem Bx.newAt (w : World) (b : Nat) (xs : List Value) (T : TypeId) (h : w.heap.size = b) : Bx (w.alloc (.cells xs.toArray T)) b xs := h ▸ Bx.new w xs T
theorem Bx.kept {w w' : World} {b : Nat} {xs : List Value} (h : Bx w b xs) (hs : w.heap.size ≤ w'.heap.size) (e : w'.heap[b]? = w.heap[b]?) : Bx w' b xs :=
  ⟨Nat.lt_of_lt_of_le h.lt hs, fun o => (World.cell?_of_block (a := ⟨b, o, none⟩) e).trans (h.cv o), fun o => (World.frozen?_of_block (a := ⟨b, o, none⟩) e).trans (h.fz o)⟩
theorem Bx.other {w : World} {b c i : Nat} {u : Value} {xs : List Value} (h : Bx w b xs) (hne : c ≠ b) : Bx (w.setCell ⟨c, i, none⟩ u) b xs :=
  h.kept (by simp) (Below.heap_setCell w ⟨c, i, none⟩ u b (by simpa using fun e => hne e.symm))
theorem Bx.set {w : World} {b i : Nat} {u : Value} {xs : List Value} (h : Bx w b xs) (hi : i < xs.length) : Bx (w.setCell ⟨b, i, none⟩ u) b (xs.set i u) := by
  refine ⟨by simpa using h.lt, fun o => ?_, fun o => by simpa using h.fz o⟩
  by_cases e : o = i
  · subst e
    rw [World.cell?_setCell_same _ _ _ ((h.cv o).trans (List.getElem?_eq_getElem hi))]
    simp [hi]
  · rw [World.cell?_setCell_other _ _ _ _ (by intro e'; injection e' with _ e'' _; exact e e''.symm), h.cv o, List.getElem?_set_ne (fun q => e q.symm)]
end Go.Proofs.Ytkpodgeinanceaa
namespace Go.Proofs.Ytkpodgeinanceaa
open Go.ChangeShapes Go.WideShapes Go.ChangeAt Go.RowKit Go.Shelf Go.Maps
set_option linter.unusedVariables false
set_option maxRecDepth 100000
attribute [local go_sem] Oper.semAt_some

/-- the boxes of the call's own -/
def Ox (W : World) (h p q m : Nat) (ad tk : ByteArray) : Prop :=
  Bx W h [.string ad] ∧ Bx W (h + 1) [.string ⟨#[]⟩, .int .i64 0, .bool false] ∧ Bx W (h + 1 + 1) [.bool false] ∧ Bx W (h + 1 + 1 + 1) [.string (tk.extract 0 1)] ∧
  Bx W p [.string (noC tk)] ∧ Bx W q [.string (seC tk)] ∧ h + 1 + 1 + 1 < p ∧ h + 1 + 1 + 1 < q ∧ p < m ∧ q < m
theorem Ox.below {W W' : World} {h p q m : Nat} {ad tk : ByteArray} (o : Ox W h p q m ad tk) (b : Below m W W') : Ox W' h p q m ad tk := by
  obtain ⟨o1, o2, o3, o4, o5, o6, a1, a2, a3, a4⟩ := o
  exact ⟨o1.kept b.size (b.block _ (by omega)), o2.kept b.size (b.block _ (by omega)), o3.kept b.size (b.block _ (by omega)), o4.kept b.size (b.block _ (by omega)), o5.kept b.size (b.block _ a3), o6.kept b.size (b.block _ a4), a1, a2, a3, a4⟩
theorem no_cut {tk : ByteArray} (h : tsB tk = true) : (tk.extract 1 tk.size).extract 0 12 = noC tk := by
  have := of_decide_eq_true h
  unfold noC
  apply ByteArray.ext
  simp only [ByteArray.data_extract, Array.extract_extract]
  rw [show min (1 + 12) tk.size = 13 by omega]
theorem se_cut {tk : ByteArray} (h : tsB tk = true) : (tk.extract 1 tk.size).extract 12 (tk.size - 1) = seC tk := by
  have := of_decide_eq_true h
  unfold seC
  apply ByteArray.ext
  simp only [ByteArray.data_extract, Array.extract_extract]
  rw [show min (1 + (tk.size - 1)) tk.size = tk.size by omega]
theorem opH_iff {k tk ad : ByteArray} (h : tsB tk = true) (hk : k.size = 16) (ha : ad.size ≤ 18) : opH k (noC tk) (tk.extract 0 1 ++ ad) (seC tk) ↔ opK k tk ad := by
  have hts := of_decide_eq_true h
  have h1 := seC_size h
  have e1 : (seC tk).size - 16 = tk.size - 29 := by omega
  unfold opH opK
  rw [e1, h1]
  have hb : (tk.extract 0 1 ++ ad).size = 1 + ad.size := beC_size ad h
  exact ⟨fun x => x.2.2.2.2.2, fun x => ⟨hk, noC_size h, by omega, by omega, by omega, x⟩⟩
/-- what trying these keys gives -/
def opT (T : List ByteArray) (a tk : ByteArray) (d : ByteArray) (t : Int) (b ok : Bool) : Prop :=
  ((∀ k ∈ T, ¬ opK k tk a) ∧ ok = false) ∨
  ∃ pre k post, T = pre ++ k :: post ∧ (∀ j ∈ pre, ¬ opK j tk a) ∧ opK k tk a ∧ d = idC k tk ∧ t = tiC k tk ∧ b = decide (at8 tk 0 = 1) ∧ ok = true
/-- a key has opened it -/
def oxX (h : Nat) (ad tk : ByteArray) (w : World) (s : List ByteArray) (W : World) : Prop :=
  ∃ pre k, s = pre ++ [k] ∧ (∀ j ∈ pre, ¬ opK j tk ad) ∧ opK k tk ad ∧ Bx W (h + 1) [.string (idC k tk), .int .i64 (tiC k tk), .bool (decide (at8 tk 0 = 1))] ∧ Bx W (h + 1 + 1) [.bool true] ∧ Below w.heap.size w W
theorem newest1 (n : Nat) (mb : Nat) (w : World) :
    CallsIn Fence.wide n Try.prog 41 #[.map (some mb)] w fun e w' => e = .returned (.func (.func 62) #[] #[.pointer (some ⟨w.heap.size, 0, none⟩)]) ∧ w' = w.alloc (.cells #[.map (some mb)] 68) := by
  refine callsIn_of_wp Try.func41 rfl trivial ?_ rfl
  simp only [Try.ntmps41, List.size_toArray, List.length_cons, List.length_nil, Nat.reduceAdd, Nat.reduceSub, Array.replicate_succ, Array.replicate_zero, List.push_toArray, List.append_toArray, List.nil_append, List.cons_append]
  gi_wp2
  go_ret
  exact ⟨rfl, rfl⟩

theorem first_one (tk : ByteArray) (h : 1 ≤ tk.size) : ((tk.extract 0 1).toList == [1]) = decide (at8 tk 0 = 1) := by
  rw [first_list tk h, at8_in tk 0 h]
  generalize tk[0] = b
  have he : b = 1 ↔ b.toNat = 1 := ⟨fun e => by rw [e]; rfl, fun e => UInt8.toNat_inj.1 (by rw [e]; rfl)⟩
  rw [Bool.eq_iff_iff]
  simp [he]
theorem ox_end {W w3 w : World} {mb : Nat} {d : ByteArray} {t : Int} {bb : Bool} (hmb : w.heap.size + 1 + 1 < mb) (b3 : Below W.heap.size W w3)
    (p2 : Bx w3 (w.heap.size + 1) [.string ⟨#[]⟩, .int .i64 0, .bool false]) (p3 : Bx w3 (w.heap.size + 1 + 1) [.bool false]) (hB : Below w.heap.size w W) :
    W.heap.size ≤ ((((w3.setCell ⟨w.heap.size + 1, 0, none⟩ (.string d)).setCell ⟨w.heap.size + 1, 1, none⟩ (.int .i64 t)).setCell ⟨w.heap.size + 1, 2, none⟩ (.bool bb)).setCell ⟨w.heap.size + 1 + 1, 0, none⟩ (.bool true)).drew.heap.size ∧
    (∀ k, mb ≤ k → k < W.heap.size → ((((w3.setCell ⟨w.heap.size + 1, 0, none⟩ (.string d)).setCell ⟨w.heap.size + 1, 1, none⟩ (.int .i64 t)).setCell ⟨w.heap.size + 1, 2, none⟩ (.bool bb)).setCell ⟨w.heap.size + 1 + 1, 0, none⟩ (.bool true)).drew.heap[k]? = W.heap[k]?) ∧
    Bx ((((w3.setCell ⟨w.heap.size + 1, 0, none⟩ (.string d)).setCell ⟨w.heap.size + 1, 1, none⟩ (.int .i64 t)).setCell ⟨w.heap.size + 1, 2, none⟩ (.bool bb)).setCell ⟨w.heap.size + 1 + 1, 0, none⟩ (.bool true)).drew (w.heap.size + 1) [.string d, .int .i64 t, .bool bb] ∧
    Bx ((((w3.setCell ⟨w.heap.size + 1, 0, none⟩ (.string d)).setCell ⟨w.heap.size + 1, 1, none⟩ (.int .i64 t)).setCell ⟨w.heap.size + 1, 2, none⟩ (.bool bb)).setCell ⟨w.heap.size + 1 + 1, 0, none⟩ (.bool true)).drew (w.heap.size + 1 + 1) [.bool true] ∧
    Below w.heap.size w ((((w3.setCell ⟨w.heap.size + 1, 0, none⟩ (.string d)).setCell ⟨w.heap.size + 1, 1, none⟩ (.int .i64 t)).setCell ⟨w.heap.size + 1, 2, none⟩ (.bool bb)).setCell ⟨w.heap.size + 1 + 1, 0, none⟩ (.bool true)).drew := by
  have q2 : Bx _ (w.heap.size + 1) [.string d, .int .i64 t, .bool bb] := (((p2.set (i := 0) (u := .string d) (by simp)).set (i := 1) (u := .int .i64 t) (by simp)).set (i := 2) (u := .bool bb) (by simp)).other (c := w.heap.size + 1 + 1) (i := 0) (u := .bool true) (by omega)
  have q3 : Bx _ (w.heap.size + 1 + 1) [.bool true] := (((p3.other (c := w.heap.size + 1) (i := 0) (u := .string d) (by omega)).other (c := w.heap.size + 1) (i := 1) (u := .int .i64 t) (by omega)).other (c := w.heap.size + 1) (i := 2) (u := .bool bb) (by omega)).set (i := 0) (u := .bool true) (by simp)
  have hK : ∀ k, mb ≤ k → k < W.heap.size → _ = W.heap[k]? := fun k h1 h2 => (Below.heap_setCell _ ⟨w.heap.size + 1 + 1, 0, none⟩ (.bool true) k (by show k ≠ w.heap.size + 1 + 1; omega)).trans ((Below.heap_setCell _ ⟨w.heap.size + 1, 2, none⟩ (.bool bb) k (by show k ≠ w.heap.size + 1; omega)).trans ((Below.heap_setCell _ ⟨w.heap.size + 1, 1, none⟩ (.int .i64 t) k (by show k ≠ w.heap.size + 1; omega)).trans ((Below.heap_setCell w3 ⟨w.heap.size + 1, 0, none⟩ (.string d) k (by show k ≠ w.heap.size + 1; omega)).trans (b3.block k h2))))
  have hB' := ((((hB.trans (b3.mono hB.size)).setCell (p := ⟨w.heap.size + 1, 0, none⟩) (by show _ ≤ w.heap.size + 1; omega) (.string d)).setCell (p := ⟨w.heap.size + 1, 1, none⟩) (by show _ ≤ w.heap.size + 1; omega) (.int .i64 t)).setCell (p := ⟨w.heap.size + 1, 2, none⟩) (by show _ ≤ w.heap.size + 1; omega) (.bool bb)).setCell (p := ⟨w.heap.size + 1 + 1, 0, none⟩) (by show _ ≤ w.heap.size + 1 + 1; omega) (.bool true)
  have hz := ((((b3.mono (Nat.zero_le _)).setCell (p := ⟨w.heap.size + 1, 0, none⟩) (Nat.zero_le _) (.string d)).setCell (p := ⟨w.heap.size + 1, 1, none⟩) (Nat.zero_le _) (.int .i64 t)).setCell (p := ⟨w.heap.size + 1, 2, none⟩) (Nat.zero_le _) (.bool bb)).setCell (p := ⟨w.heap.size + 1 + 1, 0, none⟩) (Nat.zero_le _) (.bool true)
  exact ⟨hz.size, hK, q2.drew, q3.drew, hB'.drew⟩
theorem ot_end {Q : Ending → World → Prop} (a : Act) (V : World) (h E : Nat) {d : ByteArray} {t : Int} {b ok : Bool}
    (h6 : a.eval (.tmp 6) = .pointer (some ⟨h + 1, 0, none⟩)) (h7 : a.eval (.tmp 7) = .pointer (some ⟨h + 1 + 1, 0, none⟩)) (hd : a.defers = [{ target := .collected E, args := #[] }])
    (b1 : Bx V (h + 1) [.string d, .int .i64 t, .bool b]) (b2 : Bx V (h + 1 + 1) [.bool ok]) (hK : V.heap[E]? = some (.deferred (some []))) (hE : h + 1 + 1 < E)
    (hQ : Q (.returned (.tuple #[mnV d t b, .bool ok])) (V.putObj E (.deferred none))) : bodyPostM Fence.wide 6 Try.prog Try.f25 Q .ret a V := by
  have k1 : Bx (V.putObj E (.deferred none)) (h + 1) [.string d, .int .i64 t, .bool b] := b1.kept (by simp) (World.putObj_heap_other (by omega))
  have k2 : Bx (V.putObj E (.deferred none)) (h + 1 + 1) [.bool ok] := b2.kept (by simp) (World.putObj_heap_other (by omega))
  have c0 : (V.putObj E (.deferred none)).cell? ⟨h + 1, 0, none⟩ = some (.string d) := k1.cv 0
  have c1 : (V.putObj E (.deferred none)).cell? ⟨h + 1, 1, none⟩ = some (.int .i64 t) := k1.cv 1
  have c2 : (V.putObj E (.deferred none)).cell? ⟨h + 1, 2, none⟩ = some (.bool b) := k1.cv 2
  have c3 : (V.putObj E (.deferred none)).cell? ⟨h + 1 + 1, 0, none⟩ = some (.bool ok) := k2.cv 0
  obtain ⟨tm, df⟩ := a
  simp only at hd
  subst hd
  refine ⟨by simp, .inl ⟨_, _, rfl, run_takeDeferred hK, ?_⟩⟩
  refine ⟨_, ?_, hQ⟩
  have e6 : tm[6]?.getD undef = .pointer (some ⟨h + 1, 0, none⟩) := by simpa [Act.eval] using h6
  have e7 : tm[7]?.getD undef = .pointer (some ⟨h + 1 + 1, 0, none⟩) := by simpa [Act.eval] using h7
  simp [results, Try.results25, go_sem, e6, e7, c0, c1, c2, c3, mnV]

set_option maxHeartbeats 4000000 in
theorem openT (b off n cap : Nat) (F : Nat → ByteArray) (ad tk : ByteArray) (w : World) (hn : 1 ≤ n ∧ n ≤ 2) (hk : k16 F n = true) (had : 1 ≤ ad.size ∧ ad.size ≤ 18) (hT : tsB tk = true) (hs : ∀ i, i < n → w.cell? ⟨b, off + i, none⟩ = some (.string (F i)))
    (T : List ByteArray) (hT2 : T.length ≤ 2) (h16 : ∀ k ∈ T, k.size = 16) (hCh : ∀ G : Nat → PK, (∀ j, j < n → (G j).1 = (j, F j)) → Ch (H := Nat) T (unD (bwL G n n))) :
    Calls Try.prog 25 #[.slice (some ⟨b, off, none⟩) n cap, .string ad, .string tk] w fun e w' => ∃ d t b ok, e = .returned (.tuple #[mnV d t b, .bool ok]) ∧ opT T ad tk d t b ok ∧ Below w.heap.size w w' := by
  refine (callsIn_wide (n := 6)).1 ?_
  have hts := of_decide_eq_true hT
  have q1 : (1 : Int) ≤ (tk.size : Int) := by omega
  have r1 : 1 ≤ tk.size := by omega
  have hrs : (tk.extract 1 tk.size).size = tk.size - 1 := by rw [ByteArray.size_extract]; omega
  have q12 : (12 : Int) ≤ ((tk.extract 1 tk.size).size : Int) := by omega
  have r12 : 12 ≤ (tk.extract 1 tk.size).size := by omega
  clear hrs
  have hbw : b < w.heap.size := World.block_lt_of_cell? _ _ (hs 0 (by omega))
  refine callsIn_of_wp_marks Try.func25 rfl trivial ?_ rfl
  simp only [Try.ntmps25, List.size_toArray, List.length_cons, List.length_nil, Nat.reduceAdd, Nat.reduceSub, Array.replicate_succ, Array.replicate_zero, List.push_toArray, List.append_toArray, List.nil_append, List.cons_append]
  gi_wp2
  gi_region
  gi_wp2
  gi_cut [10, 11] from 15 (fun s10 s11 wx => ∃ p q : Nat, s10 = .pointer (some ⟨p, 0, none⟩) ∧ s11 = .pointer (some ⟨q, 0, none⟩) ∧ Ox wx w.heap.size p q wx.heap.size ad tk ∧ Below w.heap.size w wx)
  case first =>
    gi_region
    all_goals gi_wp2_with fail
    · gi_meet
      case rel =>
        refine ⟨_, _, rfl, rfl, ⟨?_, ?_, ?_, ?_, ?_, ?_, ?_, ?_, ?_, ?_⟩, ?_⟩
        · exact ((((((Bx.new w [.string ad] 9).alloc _).alloc _).alloc _).alloc _).alloc _).drew.drew
        · exact (((((Bx.newAt _ _ [.string ⟨#[]⟩, .int .i64 0, .bool false] 25 (by simp)).alloc _).alloc _).alloc _).alloc _).drew.drew
        · exact ((((Bx.newAt _ _ [.bool false] 4 (by simp)).alloc _).alloc _).alloc _).drew.drew
        · exact (((Bx.newAt _ _ [.string (tk.extract 0 1)] 9 (by simp)).alloc _).alloc _).drew.drew
        · rw [← no_cut hT]; exact ((Bx.newAt _ _ [.string ((tk.extract 1 tk.size).extract 0 12)] 9 (by simp)).alloc _).drew.drew
        · rw [← se_cut hT]; exact (Bx.newAt _ _ [.string ((tk.extract 1 tk.size).extract 12 (tk.size - 1))] 9 (by simp)).drew.drew
        · omega
        · omega
        · simp
        · simp
        · exact ((((((((Below.refl _ w).alloc (Nat.le_refl _) _).alloc (by simp) _).alloc (by simp; omega) _).alloc (by simp; omega) _).alloc (by simp; omega) _).alloc (by simp; omega) _).drew).drew
    · gi_meet
      case rel =>
        refine ⟨_, _, rfl, rfl, ⟨?_, ?_, ?_, ?_, ?_, ?_, ?_, ?_, ?_, ?_⟩, ?_⟩
        · exact ((((((Bx.new w [.string ad] 9).alloc _).alloc _).alloc _).alloc _).alloc _).drew.drew
        · exact (((((Bx.newAt _ _ [.string ⟨#[]⟩, .int .i64 0, .bool false] 25 (by simp)).alloc _).alloc _).alloc _).alloc _).drew.drew
        · exact ((((Bx.newAt _ _ [.bool false] 4 (by simp)).alloc _).alloc _).alloc _).drew.drew
        · exact (((Bx.newAt _ _ [.string (tk.extract 0 1)] 9 (by simp)).alloc _).alloc _).drew.drew
        · rw [← no_cut hT]; exact (Bx.newAt _ _ [.string ((tk.extract 1 tk.size).extract 0 12)] 9 (by simp)).drew.drew
        · rw [← se_cut hT]; exact ((Bx.newAt _ _ [.string ((tk.extract 1 tk.size).extract 12 (tk.size - 1))] 9 (by simp)).alloc _).drew.drew
        · omega
        · omega
        · simp
        · simp
        · exact ((((((((Below.refl _ w).alloc (Nat.le_refl _) _).alloc (by simp) _).alloc (by simp; omega) _).alloc (by simp; omega) _).alloc (by simp; omega) _).alloc (by simp; omega) _).drew).drew
  case rest =>
    obtain ⟨p, q, rfl, rfl, ox, hB⟩ := hcut
    have hU := fun (G : Nat → PK) hG hel => unt_in (H := Nat) Fence.wide 5 trivial trivial trivial rfl (by omega) b off n cap G hG (by omega) wc (Nat.lt_of_lt_of_le hbw hB.size) hel
    have hkz : ∀ j, j < n → (F j).size ≤ 1048576 := fun j hj => by
      by_cases e : (F j).size = 16
      · omega
      · rw [k16_no F hj e] at hk; cases hk
    obtain ⟨G, hG⟩ : ∃ G : Nat → PK, ∀ j, j < n → (G j).1 = (j, F j) := ⟨fun j => if h : j < n then ⟨(j, F j), by omega, hkz j h⟩ else ⟨(0, ⟨#[]⟩), by omega, by decide⟩, fun j hj => by simp [hj]⟩
    have hU1 := hU G (fun j hj => by rw [hG j hj]) (fun j hj => by rw [hG j hj]; exact ((bcell hB).1 _ _ hbw).trans (hs j hj))
    clear hU
    gi_wp2
    refine ⟨trivial, hU1.mono ?_⟩
    rintro e w1 ⟨rfl, hm1, b1⟩
    gi_wp2
    refine ⟨trivial, (newest1 _ _ w1).mono ?_⟩
    rintro e w2 ⟨rfl, rfl⟩
    gi_wp2
    have bx1 : Below wc.heap.size wc (w1.alloc (.cells #[.map (some wc.heap.size)] 68)) := b1.alloc b1.size _
    have lt1 : wc.heap.size < w1.heap.size := by obtain ⟨es, ck, hh, _⟩ := hm1; exact (Array.getElem?_eq_some_iff.1 hh).1
    refine rangeNF wc.heap.size w1.heap.size n (unD (bwL G n n)) T hT2 (hCh G hG) rfl rfl (Boxed.new w1 68 (.map (some wc.heap.size))).cell (hm1.alloc _) (by omega) (by simp; omega)
      (fun pre W => Ox W w.heap.size p q wc.heap.size ad tk ∧ Below w.heap.size w W ∧ ∀ k ∈ pre, ¬ opK k tk ad)
      (oxX w.heap.size ad tk w)
      (fun s W W' hs hb => ⟨hs.1.below hb, hs.2.1.trans (hb.mono hB.size), hs.2.2⟩)
      (fun s W W' hs hb => by
        obtain ⟨pre, k, e1, e2, e3, x1, x2, x3⟩ := hs
        have := ox.2.2.2.2.2.2.1
        have := ox.2.2.2.2.2.2.2.2.1
        exact ⟨pre, k, e1, e2, e3, x1.kept hb.size (hb.block _ (by omega)), x2.kept hb.size (hb.block _ (by omega)), x3.trans (hb.mono hB.size)⟩)
      ⟨ox.below bx1, hB.trans (bx1.mono hB.size), fun k hk => by cases hk⟩
      (fun x => { tmps := #[.slice (some ⟨b, off, none⟩) n cap, .string ad, .string tk, undef, .pointer (some ⟨w.heap.size, 0, none⟩), undef, .pointer (some ⟨w.heap.size + 1, 0, none⟩), .pointer (some ⟨w.heap.size + 1 + 1, 0, none⟩), .pointer (some ⟨w.heap.size + 1 + 1 + 1, 0, none⟩), .string (tk.extract 1 tk.size), .pointer (some ⟨p, 0, none⟩), .pointer (some ⟨q, 0, none⟩), .string x, undef, undef, u15, u16, u17, u18, u19, u20, u21, u22, .slice (some ⟨b, off, none⟩) n cap, .map (some wc.heap.size), .func (.func 62) #[] #[.pointer (some ⟨w1.heap.size, 0, none⟩)], .string x, u27, u28, u29, u30, u31, u32, u33, u34, u35, u36, u37, u38, u39, u40, u41, u42, u43, u44, u45, u46], defers := [] }) ?assign ?body ?done ?stop
    case assign =>
      intro l x W K hK
      gi_wp2
      exact hK
    case body =>
      rintro l pre x W hx ⟨⟨o1, o2, o3, o4, o5, o6, a1, a2, a3, a4⟩, hBW, hno⟩
      clear hm1 hU1 bx1 ox hCh hG
      have c1 : W.cell? ⟨w.heap.size, 0, none⟩ = some (.string ad) := o1.cv 0
      have c4 : W.cell? ⟨w.heap.size + 1 + 1 + 1, 0, none⟩ = some (.string (tk.extract 0 1)) := o4.cv 0
      have c5 : W.cell? ⟨p, 0, none⟩ = some (.string (noC tk)) := o5.cv 0
      have c6 : W.cell? ⟨q, 0, none⟩ = some (.string (seC tk)) := o6.cv 0
      have hz1 : (tk.extract 0 1).size = 1 := by rw [ByteArray.size_extract]; omega
      have adq := fun W : World => run_string_add_sum (P := Try.prog) (w := W) (tk.extract 0 1) ad (by omega)
      by_cases hO : opK x tk ad
      · have HO := implOT_ok x (noC tk) (tk.extract 0 1 ++ ad) (seC tk) ((opH_iff hT (h16 x hx) had.2).2 hO) W
        rw [show (seC tk).size - 16 = tk.size - 29 by rw [seC_size hT]; omega, show cnW x (noC tk) ((seC tk).extract 0 (tk.size - 29)) = teC x tk from rfl] at HO
        gi_wp2
        refine ⟨trivial, (CallsIn.inRound l (callsIn_wide.2 HO)).mono ?_⟩
        rintro e w3 ⟨rfl, b3⟩
        clear HO adq c1 c4 c5 c6
        have p2 := o2.below b3
        have p3 := o3.below b3
        have p4 := o4.below b3
        have d20 : w3.cell? ⟨w.heap.size + 1, 0, none⟩ = some (.string ⟨#[]⟩) := p2.cv 0
        have d21 : w3.cell? ⟨w.heap.size + 1, 1, none⟩ = some (.int .i64 0) := p2.cv 1
        have d22 : w3.cell? ⟨w.heap.size + 1, 2, none⟩ = some (.bool false) := p2.cv 2
        have d30 : w3.cell? ⟨w.heap.size + 1 + 1, 0, none⟩ = some (.bool false) := p3.cv 0
        have d40 : w3.cell? ⟨w.heap.size + 1 + 1 + 1, 0, none⟩ = some (.string (tk.extract 0 1)) := p4.cv 0
        have g20 := p2.fz 0
        have g21 := p2.fz 1
        have g22 := p2.fz 2
        have g30 := p3.fz 0
        have hte : (teC x tk).size = tk.size - 29 := teC_size hT
        have eI : Hid (idC x tk = (teC x tk).extract 8 (teC x tk).size) := rfl
        have eT : Hid (tiC x tk = IntKind.i64.wrap (nbW ((teC x tk).extract 0 8) 8 : Nat)) := rfl
        generalize teC x tk = te at *
        have s8 : (8 : Int) ≤ (te.size : Int) := by omega
        have t8 : 8 ≤ te.size := by omega
        have z8 : (te.extract 0 8).size = 8 := by rw [ByteArray.size_extract]; omega
        have HN := fun W => implNum8 (te.extract 0 8) z8 W
        have h26 : Fence.wide.fn 43 := trivial
        have h26' : (Fence.wide.inRound l).fn 43 := trivial
        clear hte
        gi_wp2
        refine reg_round l rfl (by kernel_rfl) (noDef_spec (by kernel_rfl)) ?_
        refine wpAnyIn_take (i := 0) (v := ?_) rfl rfl (by kernel_rfl) (by kernel_rfl) (by kernel_rfl) (fun _ _ _ h => h) ⟨Or.inl ⟨by rfl, ?_⟩, fun _ => rfl⟩ ?_
        rotate_left
        · intro V; go_simp; try with_reducible rfl
        try simp only [Act.put, List.getElem_toArray, List.getElem_cons_zero, List.setIfInBounds_toArray, List.set_cons_zero, List.set_cons_succ]
        refine wpAnyIn_take (i := 1) (v := ?_) rfl rfl (by kernel_rfl) (by kernel_rfl) (by kernel_rfl) (fun _ _ _ h => h) ⟨Or.inl ⟨by rfl, ?_⟩, fun _ => rfl⟩ ?_
        rotate_left
        · intro V; go_simp; try with_reducible rfl
        try simp only [Act.put, List.getElem_toArray, List.getElem_cons_succ, List.getElem_cons_zero, List.setIfInBounds_toArray, List.set_cons_zero, List.set_cons_succ]
        refine wpAnyIn_take (i := 2) (v := ?_) rfl rfl (by kernel_rfl) (by kernel_rfl) (by kernel_rfl) (fun _ _ _ h => h) ⟨Or.inl ⟨by rfl, ?_⟩, fun _ => rfl⟩ ?_
        rotate_left
        · intro V; go_simp; try with_reducible rfl
        try simp only [Act.put, List.getElem_toArray, List.getElem_cons_succ, List.getElem_cons_zero, List.setIfInBounds_toArray, List.set_cons_zero, List.set_cons_succ]
        refine wpAnyIn_take (i := 3) (v := ?_) rfl rfl (by kernel_rfl) (by kernel_rfl) (by kernel_rfl) (fun _ _ _ h => h) ⟨Or.inl ⟨by rfl, ?_⟩, fun _ => rfl⟩ ?_
        rotate_left
        · intro V; go_simp; try with_reducible rfl
        try simp only [Act.put, List.getElem_toArray, List.getElem_cons_succ, List.getElem_cons_zero, List.setIfInBounds_toArray, List.set_cons_zero, List.set_cons_succ]
        refine wpAnyIn_ready (rs := [4, 5]) (by kernel_rfl) (by simp) (AllReadyIn.cons rfl (fun K hK => ?_) (AllReadyIn.cons rfl (fun K hK => ?_) AllReadyIn.nil))
        · go_simp
          refine (callsIn_wide.2 (HN _)).mono ?_
          rintro e w4 ⟨rfl, rfl⟩
          refine hK _ _ ?_
          clear hK K
          try simp only [Act.put, List.getElem_toArray, List.getElem_cons_succ, List.getElem_cons_zero, List.setIfInBounds_toArray, List.set_cons_zero, List.set_cons_succ]
          refine wpAnyIn_ready (rs := [5]) (by kernel_rfl) (by simp) (AllReadyIn.cons rfl (fun K hK => ?_) AllReadyIn.nil)
          go_simp
          refine hK _ _ ?_
          clear hK K
          try simp only [Act.put, List.getElem_toArray, List.getElem_cons_succ, List.getElem_cons_zero, List.setIfInBounds_toArray, List.set_cons_zero, List.set_cons_succ]
          refine wpAnyIn_take (i := 6) (v := ?_) rfl rfl (by kernel_rfl) (by kernel_rfl) (by kernel_rfl) (fun _ _ _ h => h) ⟨Or.inl ⟨by rfl, ?_⟩, fun _ => rfl⟩ ?_
          rotate_left
          · intro V; go_simp; try with_reducible rfl
          try simp only [Act.put, List.getElem_toArray, List.getElem_cons_succ, List.getElem_cons_zero, List.setIfInBounds_toArray, List.set_cons_zero, List.set_cons_succ]
          refine wpAnyIn_take (i := 7) (v := ?_) rfl rfl (by kernel_rfl) (by kernel_rfl) (by kernel_rfl) (fun _ _ _ h => h) ⟨Or.inl ⟨by rfl, ?_⟩, fun _ => rfl⟩ ?_
          rotate_left
          · intro V; go_simp; try with_reducible rfl
          try simp only [Act.put, List.getElem_toArray, List.getElem_cons_succ, List.getElem_cons_zero, List.setIfInBounds_toArray, List.set_cons_zero, List.set_cons_succ]
          refine wpAnyIn_ready (rs := [8]) (by kernel_rfl) (by simp) (AllReadyIn.cons rfl (fun K hK => ?_) AllReadyIn.nil)
          go_simp
          refine hK _ _ ?_
          clear hK K
          try simp only [Act.put, List.getElem_toArray, List.getElem_cons_succ, List.getElem_cons_zero, List.setIfInBounds_toArray, List.set_cons_zero, List.set_cons_succ]
          refine wpAnyIn_ready (rs := [9]) (by kernel_rfl) (by simp) (AllReadyIn.cons rfl (fun K hK => ?_) AllReadyIn.nil)
          go_simp
          refine hK _ _ ?_
          clear hK K
          try simp only [Act.put, List.getElem_toArray, List.getElem_cons_succ, List.getElem_cons_zero, List.setIfInBounds_toArray, List.set_cons_zero, List.set_cons_succ]
          refine wpAnyIn_done (by kernel_rfl) ?_ _
          gi_wp2
          obtain ⟨v1, v2, v3, v4, v5⟩ := ox_end (W := W) (w := w) (mb := wc.heap.size) (d := te.extract 8 te.size) (t := IntKind.i64.wrap (nbW (te.extract 0 8) 8 : Nat)) (bb := (tk.extract 0 1).toList == [1]) (by omega) b3 p2 p3 hBW
          refine ⟨v1, v2, pre, x, rfl, hno, hO, ?_, v4, v5⟩
          rw [unhide eI, unhide eT, ← first_one tk r1]
          exact v3
        · go_simp
          refine hK _ _ ?_
          clear hK K
          try simp only [Act.put, List.getElem_toArray, List.getElem_cons_succ, List.getElem_cons_zero, List.setIfInBounds_toArray, List.set_cons_zero, List.set_cons_succ]
          refine wpAnyIn_take (i := 6) (v := ?_) rfl rfl (by kernel_rfl) (by kernel_rfl) (by kernel_rfl) (fun _ _ _ h => h) ⟨Or.inl ⟨by rfl, ?_⟩, fun _ => rfl⟩ ?_
          rotate_left
          · intro V; go_simp; try with_reducible rfl
          try simp only [Act.put, List.getElem_toArray, List.getElem_cons_succ, List.getElem_cons_zero, List.setIfInBounds_toArray, List.set_cons_zero, List.set_cons_succ]
          refine wpAnyIn_ready (rs := [4]) (by kernel_rfl) (by simp) (AllReadyIn.cons rfl (fun K hK => ?_) AllReadyIn.nil)
          go_simp
          refine (callsIn_wide.2 (HN _)).mono ?_
          rintro e w4 ⟨rfl, rfl⟩
          refine hK _ _ ?_
          clear hK K
          try simp only [Act.put, List.getElem_toArray, List.getElem_cons_succ, List.getElem_cons_zero, List.setIfInBounds_toArray, List.set_cons_zero, List.set_cons_succ]
          refine wpAnyIn_take (i := 7) (v := ?_) rfl rfl (by kernel_rfl) (by kernel_rfl) (by kernel_rfl) (fun _ _ _ h => h) ⟨Or.inl ⟨by rfl, ?_⟩, fun _ => rfl⟩ ?_
          rotate_left
          · intro V; go_simp; try with_reducible rfl
          try simp only [Act.put, List.getElem_toArray, List.getElem_cons_succ, List.getElem_cons_zero, List.setIfInBounds_toArray, List.set_cons_zero, List.set_cons_succ]
          refine wpAnyIn_ready (rs := [8]) (by kernel_rfl) (by simp) (AllReadyIn.cons rfl (fun K hK => ?_) AllReadyIn.nil)
          go_simp
          refine hK _ _ ?_
          clear hK K
          try simp only [Act.put, List.getElem_toArray, List.getElem_cons_succ, List.getElem_cons_zero, List.setIfInBounds_toArray, List.set_cons_zero, List.set_cons_succ]
          refine wpAnyIn_ready (rs := [9]) (by kernel_rfl) (by simp) (AllReadyIn.cons rfl (fun K hK => ?_) AllReadyIn.nil)
          go_simp
          refine hK _ _ ?_
          clear hK K
          try simp only [Act.put, List.getElem_toArray, List.getElem_cons_succ, List.getElem_cons_zero, List.setIfInBounds_toArray, List.set_cons_zero, List.set_cons_succ]
          refine wpAnyIn_done (by kernel_rfl) ?_ _
          gi_wp2
          obtain ⟨v1, v2, v3, v4, v5⟩ := ox_end (W := W) (w := w) (mb := wc.heap.size) (d := te.extract 8 te.size) (t := IntKind.i64.wrap (nbW (te.extract 0 8) 8 : Nat)) (bb := (tk.extract 0 1).toList == [1]) (by omega) b3 p2 p3 hBW
          refine ⟨v1, v2, pre, x, rfl, hno, hO, ?_, v4, v5⟩
          rw [unhide eI, unhide eT, ← first_one tk r1]
          exact v3
      · have HO := implOT_no x (noC tk) (tk.extract 0 1 ++ ad) (seC tk) (fun y => hO ((opH_iff hT (h16 x hx) had.2).1 y)) (by rw [h16 x hx]; omega) (by rw [noC_size hT]; omega) (by rw [show (tk.extract 0 1 ++ ad).size = 1 + ad.size from beC_size ad hT]; omega) (by rw [seC_size hT]; omega) W
        gi_wp2
        refine ⟨trivial, (CallsIn.inRound l (callsIn_wide.2 HO)).mono ?_⟩
        rintro e w3 ⟨rfl, b3⟩
        gi_wp2
        refine ⟨b3, ⟨o1.below b3, o2.below b3, o3.below b3, o4.below b3, o5.below b3, o6.below b3, a1, a2, a3, a4⟩, hBW.trans (b3.mono hBW.size), fun k hk => ?_⟩
        rcases List.mem_append.1 hk with h | h
        · exact hno k h
        · rw [List.mem_singleton.1 h]; exact hO
    case done =>
      rintro E W hE ⟨⟨o1, o2, o3, o4, o5, o6, a1, a2, a3, a4⟩, hBW, hno⟩ hK
      clear hm1 hU1 bx1 ox hCh hG
      have c20 : W.cell? ⟨w.heap.size + 1, 0, none⟩ = some (.string ⟨#[]⟩) := o2.cv 0
      have c21 : W.cell? ⟨w.heap.size + 1, 1, none⟩ = some (.int .i64 0) := o2.cv 1
      have c22 : W.cell? ⟨w.heap.size + 1, 2, none⟩ = some (.bool false) := o2.cv 2
      have c30 : W.cell? ⟨w.heap.size + 1 + 1, 0, none⟩ = some (.bool false) := o3.cv 0
      have f20 := o2.fz 0
      have f21 := o2.fz 1
      have f22 := o2.fz 2
      have f30 := o3.fz 0
      gi_wp2
      have q2 : Bx _ (w.heap.size + 1) [.string ⟨#[]⟩, .int .i64 0, .bool false] := (((o2.set (i := 0) (u := .string ⟨#[]⟩) (by simp)).set (i := 1) (u := .int .i64 0) (by simp)).set (i := 2) (u := .bool false) (by simp)).other (c := w.heap.size + 1 + 1) (i := 0) (u := .bool false) (by omega)
      have q3 : Bx _ (w.heap.size + 1 + 1) [.bool false] := (((o3.other (c := w.heap.size + 1) (i := 0) (u := .string ⟨#[]⟩) (by omega)).other (c := w.heap.size + 1) (i := 1) (u := .int .i64 0) (by omega)).other (c := w.heap.size + 1) (i := 2) (u := .bool false) (by omega)).set (i := 0) (u := .bool false) (by simp)
      have hK' := (Below.heap_setCell _ ⟨w.heap.size + 1 + 1, 0, none⟩ (.bool false) E (by show E ≠ w.heap.size + 1 + 1; omega)).trans ((Below.heap_setCell _ ⟨w.heap.size + 1, 2, none⟩ (.bool false) E (by show E ≠ w.heap.size + 1; omega)).trans ((Below.heap_setCell _ ⟨w.heap.size + 1, 1, none⟩ (.int .i64 0) E (by show E ≠ w.heap.size + 1; omega)).trans ((Below.heap_setCell W ⟨w.heap.size + 1, 0, none⟩ (.string ⟨#[]⟩) E (by show E ≠ w.heap.size + 1; omega)).trans hK)))
      have hB' := (((hBW.setCell (p := ⟨w.heap.size + 1, 0, none⟩) (by show _ ≤ w.heap.size + 1; omega) (.string ⟨#[]⟩)).setCell (p := ⟨w.heap.size + 1, 1, none⟩) (by show _ ≤ w.heap.size + 1; omega) (.int .i64 0)).setCell (p := ⟨w.heap.size + 1, 2, none⟩) (by show _ ≤ w.heap.size + 1; omega) (.bool false)).setCell (p := ⟨w.heap.size + 1 + 1, 0, none⟩) (by show _ ≤ w.heap.size + 1 + 1; omega) (.bool false)
      refine ot_end _ _ w.heap.size E rfl rfl rfl q2 q3 hK' (by omega) ?_
      exact ⟨_, _, _, _, rfl, .inl ⟨hno, rfl⟩, hB'.trans (below_put _ (by omega))⟩
    case stop =>
      rintro E k W hE hk1 hk2 ⟨pre, x, e1, e2, e3, x1, x2, x3⟩ hK
      have := ox.2.2.2.2.2.2.1
      have := ox.2.2.2.2.2.2.2.2.1
      clear hm1 hU1 bx1 ox hCh hG
      gi_wp2
      refine ot_end _ _ w.heap.size E rfl rfl rfl x1 x2 hK (by omega) ?_
      refine ⟨_, _, _, _, rfl, .inr ⟨pre, x, T.drop k, ?_, e2, e3, rfl, rfl, rfl, rfl⟩, x3.trans (below_put _ (by omega))⟩
      exact (List.take_append_drop k T).symm.trans (by rw [e1, List.append_assoc]; rfl)
end Go.Proofs.Ytkpodgeinanceaa
namespace Go.Proofs.Ytkpodgeinanceaa.fnExactCheckToken
open Go.ChangeShapes Go.WideShapes Go.ChangeAt Go.RowKit
set_option linter.unusedVariables false
set_option maxRecDepth 100000

/-- openToken's contract -/
def OTK : Prop := ∀ (a : Option Addr) (n cap : Nat) (F : Nat → ByteArray) (ad tk : ByteArray) (W : World), (1 ≤ n ∧ n ≤ 2) → k16 F n = true → (1 ≤ ad.size ∧ ad.size ≤ 18) → tsB tk = true → Sa W a n F → Calls Try.prog 25 #[.slice a n cap, .string ad, .string tk] W (OTP F n ad tk W)

set_option maxHeartbeats 2000000 in
theorem walk_small (HOT : OTK) (a : Option Addr) (cap : Nat) (L : List ByteArray) (ad tk : ByteArray) (now life : Int) (hm : L.length ≤ maxLen) (hz : ∀ i, i < L.length → (tA L i).size ≤ maxLen) (l1 : ad.size ≤ 1048576) (l2 : tk.size ≤ 1048576) (w : World) (hT : Ta w a L) :
    Calls Try.prog 3 #[.slice a L.length cap, .string ad, .string tk, .int .i64 now, .int .i64 life] w fun e w' => e = .returned (.bool true) ∧ Below w.heap.size w w' := by
  have HS : Hid (Sa w a L.length (tA L)) := hT
  have HZ := hide (szS_any a L.length cap (tA L) 1048576 w (by omega) hm hz hT)
  have HOT1 := hide HOT
  have g1 : ¬ (1048576 : Int) < ad.size := by omega
  have g2 : ¬ (1048576 : Int) < tk.size := by omega
  clear hT hm hz HOT
  generalize tA L = F at *
  generalize L.length = n at *
  go_enter Try.func3, Try.ntmps3
  go_wp2_with fail
  refine (unhide HZ).mono ?_
  rintro e w1 ⟨hr, h9⟩
  rw [h9]
  clear h9 w1
  rcases hr with rfl | ⟨r, rfl, _, hn, hs⟩
  · go_wp2
    go_ret
    exact ⟨rfl, Below.refl _ _⟩
  have hr0 : ¬ (r : Int) < 0 := by omega
  go_wp2_with fail
  refine (toS_any a n cap F _ hn (unhide HS)).mono ?_
  rintro e w2 ⟨rfl, s2, z2, b2⟩
  have HSP := hide (specCT (some ⟨w.heap.size, 0, none⟩) n n F ad tk now life w2 hn hs l2 l1 s2.sa)
  have B2 := hide b2
  clear b2 s2 z2
  go_wp2_with fail
  refine (unhide HSP).mono ?_
  rintro e w3 ⟨d, t, bb, cc, rfl, hck, b3⟩
  have HCK := hide hck
  have B3 := hide ((unhide B2).trans (b3.mono (unhide B2).size))
  have W3 : Hid (∀ V, Below (w3.alloc (.cells #[.string d, .int .i64 t, .bool bb] 25)).heap.size (w3.alloc (.cells #[.string d, .int .i64 t, .bool bb] 25)) V → ∀ o, V.cell? ⟨w3.heap.size, o, none⟩ = (#[.string d, .int .i64 t, .bool bb] : Array Value)[o]?) := fun V hV o => ((bcell hV).1 _ o (by simp)).trans (by simp)
  have B3x := hide ((unhide B3).alloc (unhide B3).size (.cells #[.string d, .int .i64 t, .bool bb] 25))
  clear hck b3 B2 HSP B3
  go_wp2_with fail
  generalize hW : w3.alloc (.cells #[.string d, .int .i64 t, .bool bb] 25) = W3x at *
  have lw3 : w3.heap.size < W3x.heap.size := by rw [← hW]; simp
  clear hW
  refine (toS_any a n cap F _ hn ((unhide HS).kept (unhide B3x))).mono ?_
  rintro e w4 ⟨rfl, s4, z4, b4⟩
  have S4 := hide s4.sa
  have D4 := hide b4
  have B4 := hide ((unhide B3x).trans (b4.mono (unhide B3x).size))
  have HI := hide (implCT (some ⟨W3x.heap.size, 0, none⟩) n n F ad tk now life w4 hn hs l2 l1 (unhide S4) (fun W hc ht hS => unhide HOT1 _ n n F ad tk W hc.1 hc.2.2.2.2 hc.2.1 ht hS))
  clear s4 b4 z4
  go_wp2_with fail
  refine (unhide HI).mono ?_
  rintro e w5 ⟨d', t', bb', cc', rfl, hck', b5⟩
  obtain ⟨rfl, rfl, rfl, rfl⟩ := ckW_uniq (unhide HCK) hck'
  have D5 := hide ((unhide D4).trans (b5.mono (unhide D4).size))
  have B5 := hide ((unhide B4).trans (b5.mono (unhide B4).size))
  have S5 := hide ((unhide S4).kept b5)
  clear hck' HCK HI b5 S4 B4 D4
  have D5x := hide ((unhide D5).alloc (unhide D5).size (.cells #[.string d, .int .i64 t, .bool bb] 25))
  have B5x := hide ((unhide B5).alloc (unhide B5).size (.cells #[.string d, .int .i64 t, .bool bb] 25))
  have S5x := hide ((unhide S5).kept ((Below.refl _ _).alloc (Nat.le_refl _) (.cells #[.string d, .int .i64 t, .bool bb] 25)))
  have c3 := unhide W3 _ (unhide D5x)
  have HE := hide (eqMn d t bb)
  clear D5 B5 S5 W3
  go_wp2_with fail
  refine (unhide HE _).mono ?_
  rintro e w6 ⟨rfl, b6⟩
  have B6 := hide ((unhide B5x).trans (b6.mono (unhide B5x).size))
  have S6 := hide ((unhide S5x).kept b6)
  clear b6 c3 D5x B5x S5x
  go_wp2_with fail
  refine (toS_any a n cap F _ hn ((unhide HS).kept (unhide B6))).mono ?_
  rintro e w7 ⟨rfl, s7, z7, b7⟩
  have S7 := hide s7.sa
  have B7 := hide ((unhide B6).trans (b7.mono (unhide B6).size))
  have S6k := hide ((unhide S6).kept b7)
  clear s7 b7 z7 S6 B6
  go_wp2_with fail
  refine (eqS_same _ _ n n n F _ hn (unhide S6k) (unhide S7)).mono ?_
  rintro e w8 ⟨rfl, b8⟩
  have B8 := hide ((unhide B7).trans (b8.mono (unhide B7).size))
  clear b8 B7 S6k S7
  go_wp2
  go_ret
  exact ⟨rfl, unhide B8⟩
theorem walk_given (HOT : OTK) (a0 : Option Addr) (c0 : Nat) (L0 : List ByteArray) (hm0 : L0.length ≤ maxLen) (hz0 : ∀ i, i < L0.length → (tA L0 i).size ≤ maxLen) (a1 : ByteArray) (k1 : a1.size ≤ maxLen) (a2 : ByteArray) (k2 : a2.size ≤ maxLen) (a3 : Int) (k3 : (Lit.int .i64 a3).wf = true) (a4 : Int) (k4 : (Lit.int .i64 a4).wf = true) (w : World) (hT : Ta w a0 L0) :
    Calls Try.prog 3 #[.slice a0 L0.length c0, .string a1, .string a2, .int .i64 a3, .int .i64 a4] w fun e w' => e = .returned (.bool true) ∧ Below w.heap.size w w' := by
  have j1 := k1
  have j2 := k2
  unfold maxLen at j1 j2
  by_cases l1 : (1048576 : Int) < a1.size
  · go_enter Try.func3, Try.ntmps3
    go_wp2
    go_ret
    exact ⟨rfl, Below.refl _ _⟩
  by_cases l2 : (1048576 : Int) < a2.size
  · go_enter Try.func3, Try.ntmps3
    go_wp2
    go_ret
    exact ⟨rfl, Below.refl _ _⟩
  exact walk_small HOT a0 c0 L0 a1 a2 a3 a4 hm0 hz0 (by omega) (by omega) w hT
end Go.Proofs.Ytkpodgeinanceaa.fnExactCheckToken
namespace Go.Proofs.Ytkpodgeinanceaa
open Go.ChangeShapes Go.WideShapes Go.ChangeAt Go.RowKit Go.Shelf Go.Maps
set_option linter.unusedVariables false
set_option maxRecDepth 100000

theorem tx_back (k : ByteArray) : tx k.data.toList = k := by unfold tx; apply ByteArray.ext; simp
theorem ch_one {H : Type} (k : ByteArray) (c : Int) (hk : k.size = 16) : Ch (H := H) [k] (.map [(.string k.data.toList, .lit (.int .i64 c))]) := by
  refine ⟨⟨?_, ?_, ?_, ?_, ?_⟩, ?_⟩
  · simp [Maps.size]
  · simp [Maps.size]
  · intro l hl
    simp [strKeys, strOf] at hl
    rw [hl]; unfold maxLen
    have : k.data.toList.length = 16 := by rw [Array.length_toList]; exact hk
    omega
  · rw [hk]; unfold maxLen; omega
  · intro l hl _
    simp [strKeys, strOf] at hl
    rw [hl]
    first | exact tx_back k | (unfold tx; apply ByteArray.ext; simp)
  · show Maps.size _ = 0
    simp [DataW.del, Maps.size, Lit.sameKey]
theorem ch_two {H : Type} (k0 k1 : ByteArray) (h0 : k0.size = 16) (h1 : k1.size = 16) (hne : k0 ≠ k1) (es : List (Lit × DataW H))
    (he : es = [(.string k0.data.toList, .lit (.int .i64 0)), (.string k1.data.toList, .lit (.int .i64 1))] ∨ es = [(.string k1.data.toList, .lit (.int .i64 1)), (.string k0.data.toList, .lit (.int .i64 0))]) : Ch (H := H) [k0, k1] (.map es) := by
  have hn1 : k0.data.toList ≠ k1.data.toList := fun e => hne (by rw [← tx_back k0, e, tx_back])
  have hn2 : k1.data.toList ≠ k0.data.toList := fun e => hn1 e.symm
  have z0 : k0.data.toList.length = 16 := by rw [Array.length_toList]; exact h0
  have z1 : k1.data.toList.length = 16 := by rw [Array.length_toList]; exact h1
  have e00 : (Lit.string k0.data.toList).sameKey (.string k0.data.toList) = true := by simp [Lit.sameKey]
  have e11 : (Lit.string k1.data.toList).sameKey (.string k1.data.toList) = true := by simp [Lit.sameKey]
  have e01 : (Lit.string k0.data.toList).sameKey (.string k1.data.toList) = false := by show (k0.data.toList == k1.data.toList) = false; exact beq_false_of_ne hn1
  have e10 : (Lit.string k1.data.toList).sameKey (.string k0.data.toList) = false := by show (k1.data.toList == k0.data.toList) = false; exact beq_false_of_ne hn2
  have hd : DataW.del (.map es) (.string k0.data.toList) = .map [(.string k1.data.toList, .lit (.int .i64 1))] := by
    rcases he with rfl | rfl <;> simp [DataW.del, e00, e10]
  have p0 : plD (.map es) k0 = 0 := by
    rcases he with rfl | rfl <;> simp [plD, DataW.atKey, List.find?, e00, e10]
  have p1 : plD (.map es) k1 = 1 := by
    rcases he with rfl | rfl <;> simp [plD, DataW.atKey, List.find?, e01, e11]
  have hk : ∀ l, l ∈ strKeys (.map es) ↔ l = k0.data.toList ∨ l = k1.data.toList := by
    intro l
    rcases he with rfl | rfl
    · simp [strKeys, strOf]
    · simp [strKeys, strOf, or_comm]
  have hz : Maps.size (.map es) = 2 := by rcases he with rfl | rfl <;> rfl
  refine ⟨⟨by omega, by omega, ?_, by rw [h0]; unfold maxLen; omega, ?_⟩, ?_⟩
  · intro l hl
    unfold maxLen
    rcases (hk l).1 hl with rfl | rfl <;> omega
  · intro l hl hmin
    rcases (hk l).1 hl with rfl | rfl
    · exact tx_back k0
    · have := hmin k0.data.toList ((hk _).2 (.inl rfl))
      rw [tx_back, tx_back, p0, p1] at this
      omega
  · rw [hd]; exact ch_one k1 1 h1
theorem sizes16 {F : Nat → ByteArray} {n : Nat} (hk : k16 F n = true) {i : Nat} (hi : i < n) : (F i).size = 16 := k16_at F hi hk
theorem ins_two {H : Type} (a b : List UInt8) (x y : DataW H) : DataW.insert (.string a, x) [(.string b, y)] = [(.string a, x), (.string b, y)] ∨ DataW.insert (.string a, x) [(.string b, y)] = [(.string b, y), (.string a, x)] := by
  unfold DataW.insert
  split
  · exact .inl rfl
  · exact .inr rfl
end Go.Proofs.Ytkpodgeinanceaa
namespace Go.Proofs.Ytkpodgeinanceaa.fnExactCheckToken
open Go.ChangeShapes Go.WideShapes Go.ChangeAt Go.RowKit Go.Shelf Go.Maps
/-- openToken's contract holds -/
theorem otk : OTK := by
  intro a n cap F ad tk W hn hk had hT hs
  rcases hs with h | ⟨b, off, rfl, hb, hc⟩
  · omega
  have s0 := sizes16 hk (show 0 < n by omega)
  by_cases h1 : n = 1
  · subst h1
    refine (openT b off 1 cap F ad tk W hn hk had hT hc [F 0] (by simp) (fun k hk => by rw [List.mem_singleton.1 hk]; exact s0) (fun G hG => ?_)).mono ?_
    · have e : unD (H := Nat) (bwL G 1 1) = .map [(.string (F 0).data.toList, .lit (.int .i64 0))] := by
        simp [unD, bwL, hG 0 (by omega), DataW.put, DataW.insert]
      rw [e]; exact ch_one _ _ s0
    · rintro e w' ⟨d, t, bb, ok, he, ho, hB⟩
      refine ⟨d, t, bb, ok, he, ?_, hB⟩
      rcases ho with ⟨h, rfl⟩ | ⟨pre, k, post, hT', hp, hk', rest⟩
      · exact .inl ⟨fun i hi => by rw [show i = 0 by omega]; exact h _ (by simp), rfl⟩
      · have hl := congrArg List.length hT'
        simp at hl
        have : pre = [] := List.length_eq_zero_iff.1 (by omega)
        subst this
        simp at hT'
        rw [← hT'.1] at hk' rest
        exact .inr ⟨0, by omega, fun j hj => by omega, hk', rest⟩
  · have h2 : n = 2 := by omega
    subst h2
    have s1 := sizes16 hk (show 1 < 2 by omega)
    by_cases hne : F 0 = F 1
    · refine (openT b off 2 cap F ad tk W hn hk had hT hc [F 0] (by simp) (fun k hk => by rw [List.mem_singleton.1 hk]; exact s0) (fun G hG => ?_)).mono ?_
      · have e : unD (H := Nat) (bwL G 2 2) = .map [(.string (F 0).data.toList, .lit (.int .i64 0))] := by
          simp [unD, bwL, List.range_succ, hG 0 (by omega), hG 1 (by omega), DataW.put, DataW.insert, ← hne, Lit.sameKey]
        rw [e]; exact ch_one _ _ s0
      · rintro e w' ⟨d, t, bb, ok, he, ho, hB⟩
        refine ⟨d, t, bb, ok, he, ?_, hB⟩
        rcases ho with ⟨h, rfl⟩ | ⟨pre, k, post, hT', hp, hk', rest⟩
        · refine .inl ⟨fun i hi => ?_, rfl⟩
          by_cases hi0 : i = 0
          · rw [hi0]; exact h _ (by simp)
          · rw [show i = 1 by omega, ← hne]; exact h _ (by simp)
        · have hl := congrArg List.length hT'
          simp at hl
          have : pre = [] := List.length_eq_zero_iff.1 (by omega)
          subst this
          simp at hT'
          rw [← hT'.1] at hk' rest
          exact .inr ⟨0, by omega, fun j hj => by omega, hk', rest⟩
    · refine (openT b off 2 cap F ad tk W hn hk had hT hc [F 0, F 1] (by simp) (fun k hk => by rcases List.mem_cons.1 hk with rfl | h; exact s0; rw [List.mem_singleton.1 h]; exact s1) (fun G hG => ?_)).mono ?_
      · have hn1 : (F 1).data.toList ≠ (F 0).data.toList := fun e => hne (by rw [← tx_back (F 0), ← e, tx_back])
        have e10 : (Lit.string (F 1).data.toList).sameKey (.string (F 0).data.toList) = false := by show ((F 1).data.toList == (F 0).data.toList) = false; exact beq_false_of_ne hn1
        have e : unD (H := Nat) (bwL G 2 2) = .map (DataW.insert (.string (F 0).data.toList, .lit (.int .i64 0)) [(.string (F 1).data.toList, .lit (.int .i64 1))]) := by
          have i1 : DataW.insert (H := Nat) (.string (F 1).data.toList, .lit (.int .i64 1)) [] = [(.string (F 1).data.toList, .lit (.int .i64 1))] := rfl
          simp [unD, bwL, List.range_succ, hG 0 (by omega), hG 1 (by omega), DataW.put, i1, e10]
        rw [e]; exact ch_two _ _ s0 s1 hne _ (ins_two _ _ _ _)
      · rintro e w' ⟨d, t, bb, ok, he, ho, hB⟩
        refine ⟨d, t, bb, ok, he, ?_, hB⟩
        rcases ho with ⟨h, rfl⟩ | ⟨pre, k, post, hT', hp, hk', rest⟩
        · refine .inl ⟨fun i hi => ?_, rfl⟩
          by_cases hi0 : i = 0
          · rw [hi0]; exact h _ (by simp)
          · rw [show i = 1 by omega]; exact h _ (by simp)
        · rcases pre with _ | ⟨p0, _ | ⟨p1, pre⟩⟩
          · simp at hT'
            rw [← hT'.1] at hk' rest
            exact .inr ⟨0, by omega, fun j hj => by omega, hk', rest⟩
          · simp at hT'
            rw [← hT'.2.1] at hk' rest
            refine .inr ⟨1, by omega, fun j hj => ?_, hk', rest⟩
            rw [show j = 0 by omega, hT'.1]; exact hp _ (by simp)
          · have hl := congrArg List.length hT'
            simp at hl
theorem walk (a0 : Option Addr) (c0 : Nat) (L0 : List ByteArray) (hm0 : L0.length ≤ maxLen) (hz0 : ∀ i, i < L0.length → (tA L0 i).size ≤ maxLen) (a1 : ByteArray) (k1 : a1.size ≤ maxLen) (a2 : ByteArray) (k2 : a2.size ≤ maxLen) (a3 : Int) (k3 : (Lit.int .i64 a3).wf = true) (a4 : Int) (k4 : (Lit.int .i64 a4).wf = true) (w : World) (hT : Ta w a0 L0) :
    Calls Try.prog 3 #[.slice a0 L0.length c0, .string a1, .string a2, .int .i64 a3, .int .i64 a4] w fun e w' => e = .returned (.bool true) ∧ Below w.heap.size w w' :=
  walk_given otk a0 c0 L0 hm0 hz0 a1 k1 a2 k2 a3 k3 a4 k4 w hT
end Go.Proofs.Ytkpodgeinanceaa.fnExactCheckToken
