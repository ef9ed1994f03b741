/-
  Contracts: a server put among the others by slices.Insert, wherever it stands.
-/
import Derived.Test.YthgogkimjhjepaaIsa
import Derived.Shelf.Spec.SlicesInsertGrow
import Derived.Laws.CopyRow
namespace Go.Proofs.Ythgogkimjhjepaa
open Go.ChangeShapes Go.WideShapes Go.ChangeAt Go.RowKit Go.Deep Go.Shelf Go.Lib
set_option linter.unusedVariables false
set_option maxRecDepth 100000

/-- copy of elements of two cells, in rows -/
theorem run_copy_two {P : Program} (w : World) (dT sT ty elem : TypeId) (g o dLen dCap : Nat) (a : Addr) (sLen sCap : Nat) (cur : Array Value) (t : TypeId) (cs : List Value)
    (hu : P.underlying dT = some (.slice elem)) (hs : (P.info? elem).map (·.size) = some 2)
    (hg : w.heap[g]? = some (.cells cur t (0, 0))) (hn : cs.length = Nat.min sLen dLen * 2)
    (hsrc : ∀ j v, cs[j]? = some v → w.cell? (a.add j) = some v) (hfit : o + cs.length ≤ cur.size) (h1 : ∀ v ∈ cs, v.oneCell' = true) :
    (Builtin.copy_ #[dT, sT] ty #[.slice (some ⟨g, o, none⟩) dLen dCap, .slice (some a) sLen sCap]).run P w =
      .ok (goInt (Nat.min sLen dLen)) (w.setRow g (cur.toList.take o ++ cs ++ cur.toList.drop (o + cs.length)).toArray) := by
  have hl := run_loadCells_list (P := P) w a cs hsrc
  have hst := run_storeCells_at P g o t cs 0 cur w hg (by simpa using hfit) h1
  cases hq : P.info? elem with
  | none => simp [hq] at hs
  | some i =>
    have hi : i.size = 2 := by simpa [hq] using hs
    simp [Builtin.copy_, run_underlying hu, Builtin.lenOf, Builtin.firstCells, sizeOf, typeInfo, hq, hi, ← hn, hl, hst]
/-- what is put in the middle, in place: the tail moved up, then what is new -/
theorem mid_in (cur x : List Value) (p q : Nat) (hp : p ≤ q) (hq : q + 2 ≤ cur.length) (hx : x.length = 2) (c1 : List Value) (h1 : c1 = cur.take (p + 2) ++ (cur.take q).drop p ++ cur.drop (p + 2 + ((cur.take q).drop p).length)) :
    c1.length = cur.length ∧ (c1.take p ++ x ++ c1.drop (p + x.length)).length = cur.length ∧ (c1.take p ++ x ++ c1.drop (p + x.length)).take (q + 2) = (cur.take q).take p ++ x ++ (cur.take q).drop p := by
  have l0 : ((cur.take q).drop p).length = q - p := by rw [List.length_drop, List.length_take]; omega
  have lt : (cur.take (p + 2)).length = p + 2 := by rw [List.length_take]; omega
  have l1 : c1.length = cur.length := by
    rw [h1]; simp only [List.length_append, l0, lt, List.length_drop]; omega
  have t1 : c1.take p = (cur.take q).take p := by
    rw [h1, List.append_assoc, List.take_append_of_le_length (by omega), List.take_take, List.take_take, Nat.min_eq_left (by omega), Nat.min_eq_left (by omega)]
  have d1 : c1.drop (p + 2) = (cur.take q).drop p ++ cur.drop (p + 2 + (q - p)) := by
    rw [h1, l0, List.append_assoc]
    exact List.drop_left' lt
  have lp : ((cur.take q).take p).length = p := by rw [List.length_take, List.length_take]; omega
  refine ⟨l1, ?_, ?_⟩
  · rw [hx, t1, d1]
    simp only [List.length_append, lp, hx, l0, List.length_drop]; omega
  · rw [hx, t1, d1, ← List.append_assoc]
    refine List.take_left' ?_
    simp only [List.length_append, lp, hx, l0]; omega
/-- .. and in a new row -/
theorem mid_new (cs z x : List Value) (p q : Nat) (hp : p ≤ q) (hc : cs.length = q) (hz : q + 2 - p ≤ z.length) (hx : x.length = 2) (c0 c1 : List Value) (h0 : c0 = cs.take p ++ z) (h1 : c1 = c0.take p ++ x ++ c0.drop (p + x.length)) :
    c1.length = c0.length ∧ (c1.take (p + 2) ++ cs.drop p ++ c1.drop (p + 2 + (cs.drop p).length)).length = c0.length ∧ (c1.take (p + 2) ++ cs.drop p ++ c1.drop (p + 2 + (cs.drop p).length)).take (q + 2) = cs.take p ++ x ++ cs.drop p := by
  have lp : (cs.take p).length = p := by rw [List.length_take]; omega
  have lc0 : c0.length = p + z.length := by rw [h0, List.length_append, lp]
  have t0 : c0.take p = cs.take p := by rw [h0]; exact List.take_left' lp
  have ld : (cs.drop p).length = q - p := by rw [List.length_drop]; omega
  have l1 : c1.length = c0.length := by
    rw [h1, t0, hx]; simp only [List.length_append, lp, hx, List.length_drop]; omega
  have t1 : c1.take (p + 2) = cs.take p ++ x := by
    rw [h1, t0]
    exact List.take_left' (by rw [List.length_append, lp, hx])
  refine ⟨l1, ?_, ?_⟩
  · rw [t1]
    simp only [List.length_append, lp, hx, ld, List.length_drop]; omega
  · rw [t1]
    refine List.take_left' ?_
    simp only [List.length_append, lp, hx, ld]; omega
theorem alC_take (L : List AlD) (i : Nat) : (alC L).take (i * 2) = alC (L.take i) := by
  induction L generalizing i with
  | nil => simp [alC]
  | cons x L ih =>
    cases i with
    | zero => simp [alC]
    | succ i =>
      rw [show (i + 1) * 2 = i * 2 + 1 + 1 by omega]
      show (Value.string x.i :: Value.string x.b :: alC L).take (i * 2 + 1 + 1) = Value.string x.i :: Value.string x.b :: alC (L.take i)
      rw [List.take_succ_cons, List.take_succ_cons, ih]
theorem alC_drop (L : List AlD) (i : Nat) : (alC L).drop (i * 2) = alC (L.drop i) := by
  induction L generalizing i with
  | nil => simp [alC]
  | cons x L ih =>
    cases i with
    | zero => simp [alC]
    | succ i =>
      rw [show (i + 1) * 2 = i * 2 + 1 + 1 by omega]
      show (Value.string x.i :: Value.string x.b :: alC L).drop (i * 2 + 1 + 1) = alC (L.drop i)
      rw [List.drop_succ_cons, List.drop_succ_cons, ih]
theorem alC_ins (L : List AlD) (D : AlD) (i : Nat) : alC (L.take i ++ D :: L.drop i) = (alC L).take (i * 2) ++ alV D ++ (alC L).drop (i * 2) := by
  rw [alC_take, alC_drop, alC_app, List.append_assoc]
  rfl
theorem sizeAl (w : World) : (Go.sizeOf 45).run Try.prog w = .ok 2 w := by
  obtain ⟨i0, hi, _, hz1, _⟩ := info_parts Try.infoAl
  simp [sizeOf, typeInfo, hi, hz1]
theorem sizeAl2 : (Try.prog.info? 45).map (·.size) = some 2 := by
  obtain ⟨i0, hi, _, hz1, _⟩ := info_parts Try.infoAl
  rw [hi]; simp [hz1]
set_option maxHeartbeats 4000000 in
theorem insA_shift (g cap vb i : Nat) (cur : Array Value) (L : List AlD) (D : AlD) (w : World) (hN : L.length ≤ 1000) (hi : i < L.length) (hroom : L.length + 1 ≤ cap) (hc63 : cap ≤ maxLen) (hcs : cur.size = cap * 2) (htk : cur.toList.take (L.length * 2) = alC L)
    (hg : w.heap[g]? = some (.cells cur 45 (0, 0))) (hv : w.heap[vb]? = some (.cells #[.string D.i, .string D.b] 45 (0, 0))) (hne : vb ≠ g) :
    Calls Try.prog 33 #[.slice (some ⟨g, 0, none⟩) L.length cap, .int .i64 i, .slice (some ⟨vb, 0, none⟩) 1 1] w fun e w' =>
      e = .returned (.slice (some ⟨g, 0, none⟩) (L.length + 1) cap) ∧ ∃ c2 : Array Value, w' = w.drew.setRow g c2 ∧ c2.size = cur.size ∧ c2.toList.take ((L.length + 1) * 2) = alC (L.take i ++ D :: L.drop i) := by
  unfold maxLen at hc63
  obtain ⟨n, hn⟩ : ∃ n, L.length = n := ⟨_, rfl⟩
  rw [hn] at hN hi hroom htk ⊢
  have hll : cur.toList.length = cur.size := by simp
  have hal : (alC L).length = n * 2 := by rw [alC_len, hn]
  have hov : ∀ lb cb, (callFunc 50 #[.slice (some ⟨vb, 0, none⟩) 1 1, .slice (some ⟨g, (i + 1) * 2, none⟩) lb cb]).run Try.prog w = .ok (.value (.bool false)) w := fun lb cb => by
    rw [run_callFunc_extern Try.func50 (by kernel_rfl) (by kernel_rfl) (by kernel_rfl) (e := Extern.SlicesOverlaps.overlaps #[41, 41] #[4]) (by kernel_rfl),
      Lib.run_overlaps_apart w 41 4 45 Try.underlying41 2 sizeAl ⟨vb, 0, none⟩ ⟨g, (i + 1) * 2, none⟩ 1 1 lb cb hne 45 45 2 (cap * 2) (by simp [World.shape?, hv]) (by simp [World.shape?, hg, hcs]) (by omega) (by simp [World.frozen?, hv]) (by simp [World.frozen?, hv])]
    rfl
  have hgd : w.drew.heap[g]? = some (.cells cur 45 (0, 0)) := hg
  have hvd : w.drew.heap[vb]? = some (.cells #[.string D.i, .string D.b] 45 (0, 0)) := hv
  obtain ⟨c1, hc1⟩ : ∃ c1 : List Value, c1 = cur.toList.take (i * 2 + 2) ++ (cur.toList.take (n * 2)).drop (i * 2) ++ cur.toList.drop (i * 2 + 2 + ((cur.toList.take (n * 2)).drop (i * 2)).length) := ⟨_, rfl⟩
  obtain ⟨l1, l2, ht2⟩ := mid_in cur.toList (alV D) (i * 2) (n * 2) (by omega) (by omega) rfl c1 hc1
  rw [htk] at hc1 ht2
  have hld : ((alC L).drop (i * 2)).length = (n - i) * 2 := by rw [List.length_drop, hal]; omega
  have hmin1 : Nat.min (n + 1 - i) (n - i) = n - i := by simp only [Nat.min_def]; split <;> omega
  have hmin2 : Nat.min 1 (n + 1 - i) = 1 := by simp only [Nat.min_def]; split <;> omega
  have hcp1 : ∀ ty dc sc, (Builtin.copy_ #[41, 41] ty #[.slice (some ⟨g, (i + 1) * 2, none⟩) (n - i) dc, .slice (some ⟨g, i * 2, none⟩) (n + 1 - i) sc]).run Try.prog w.drew = .ok (goInt (n - i : Nat)) (w.drew.setRow g c1.toArray) := fun ty dc sc => by
    have h := run_copy_two (P := Try.prog) w.drew 41 41 ty 45 g ((i + 1) * 2) (n - i) dc ⟨g, i * 2, none⟩ (n + 1 - i) sc cur 45 ((alC L).drop (i * 2)) Try.underlying41 sizeAl2 hgd (by rw [hld, hmin1])
      (fun j v hj => by
        rw [add_none]
        rw [List.getElem?_drop] at hj
        have hlt := (List.getElem?_eq_some_iff.1 hj).1
        rw [hal] at hlt
        rw [← htk, List.getElem?_take_of_lt hlt] at hj
        simpa [World.cell?, hgd] using hj)
      (by rw [hld]; omega) (fun v hv => alC_one L v (List.mem_of_mem_drop hv))
    rw [h, hmin1, hc1, show (i + 1) * 2 = i * 2 + 2 by omega]
  have hrow := setRow_heap w.drew g cur c1.toArray 45 (0, 0) hgd
  have hcp2 : ∀ ty dc, (Builtin.copy_ #[41, 41] ty #[.slice (some ⟨g, i * 2, none⟩) (n + 1 - i) dc, .slice (some ⟨vb, 0, none⟩) 1 1]).run Try.prog (w.drew.setRow g c1.toArray) = .ok (goInt 1) (w.drew.setRow g (c1.take (i * 2) ++ alV D ++ c1.drop (i * 2 + (alV D).length)).toArray) := fun ty dc => by
    have h := run_copy_two (P := Try.prog) (w.drew.setRow g c1.toArray) 41 41 ty 45 g (i * 2) (n + 1 - i) dc ⟨vb, 0, none⟩ 1 1 c1.toArray 45 (alV D) Try.underlying41 sizeAl2 hrow (by rw [hmin2]; rfl)
      (fun j v hj => by
        rw [add_none, cell_setRow_other _ _ _ _ hne]
        have hj' : [Value.string D.i, Value.string D.b][j]? = some v := hj
        simpa [World.cell?, hvd] using hj')
      (by rw [List.size_toArray, l1, hll]; show i * 2 + 2 ≤ _; omega) (fun v hv => by simp [alV] at hv; rcases hv with rfl | rfl <;> rfl)
    rw [h, hmin2, setRow_setRow]; rfl
  have mixed : Try.prog.follows Departure.mixedOrders = true := by kernel_rfl
  have hw1 : IntKind.i64.wrap ((i : Int) + 1) = (i : Int) + 1 := by rw [IntKind.wrap_i64]; omega
  have hb1 : (0 : Int) ≤ (i : Int) + 1 := by omega
  have htn : ((i : Int) + 1).toNat = i + 1 := by omega
  have hin : (i : Int) ≤ (n : Int) := by omega
  have hin2 : ¬ ((i : Int) = (n : Int)) := by omega
  have hrI : ¬ (cap : Int) < (n : Int) + 1 := by omega
  have hb2 : ¬ (cap = i + 1) := by omega
  have hb3 : (i : Int) ≤ (n : Int) + 1 := by omega
  have hb4 : ¬ (cap = i) := by omega
  have hfin : (c1.take (i * 2) ++ alV D ++ c1.drop (i * 2 + (alV D).length)).toArray.size = cur.size ∧ (c1.take (i * 2) ++ alV D ++ c1.drop (i * 2 + (alV D).length)).toArray.toList.take ((n + 1) * 2) = alC (L.take i ++ D :: L.drop i) := by
    refine ⟨by rw [List.size_toArray, l2, hll], ?_⟩
    rw [alC_ins, ← ht2, show (n + 1) * 2 = n * 2 + 2 by omega]
  generalize (c1.take (i * 2) ++ alV D ++ c1.drop (i * 2 + (alV D).length)).toArray = c2 at hcp2 hfin
  have HF := hide hfin
  clear hfin ht2 l2 l1 hc1 htk hal hld hrow hgd hvd hll hn hg hv hcs
  go_enter Try.func33, Try.ntmps33
  go_wp2_with (simp only [hov])
  go_region_law_o (refine step_copy_runI rfl _ _ 41 41 rfl _ _ (by simp [Act.eval, Act.put]) (by simp [Act.eval, Act.put]) (hcp1 _ _ _) ?_)
  go_wp2_with (at_builtin; refine wpList_copy_runI _ rfl _ _ 41 41 rfl _ _ rfl rfl (hcp2 _ _) ?_)
  go_ret
  exact ⟨rfl, _, rfl, unhide HF⟩
set_option maxHeartbeats 4000000 in
theorem insA_grow (g cap vb i : Nat) (cur : Array Value) (L : List AlD) (D : AlD) (w : World) (hN : L.length ≤ 1000) (hi : i < L.length) (hle : L.length ≤ cap) (hroom : cap < L.length + 1) (hcs : cur.size = cap * 2) (htk : cur.toList.take (L.length * 2) = alC L)
    (hg : w.heap[g]? = some (.cells cur 45 (0, 0))) (hv : w.heap[vb]? = some (.cells #[.string D.i, .string D.b] 45 (0, 0))) :
    Calls Try.prog 33 #[.slice (some ⟨g, 0, none⟩) L.length cap, .int .i64 i, .slice (some ⟨vb, 0, none⟩) 1 1] w fun e w' =>
      ∃ (G : Nat) (c0 c2 : Array Value), e = .returned (.slice (some ⟨w.heap.size, 0, none⟩) (L.length + 1) G) ∧ w' = ((w.drew.alloc (.cells c0 45)).drew).setRow w.heap.size c2 ∧ L.length + 1 ≤ G ∧ G ≤ maxLen ∧ c2.size = G * 2 ∧ c2.toList.take ((L.length + 1) * 2) = alC (L.take i ++ D :: L.drop i) := by
  obtain ⟨n, hn⟩ : ∃ n, L.length = n := ⟨_, rfl⟩
  rw [hn] at hN hi hle hroom htk ⊢
  obtain ⟨i0, hi0, hz0, hzs, hzb⟩ := info_parts Try.infoAl
  have hgw : g < w.heap.size := (Array.getElem?_eq_some_iff.1 hg).1
  have hvw : vb < w.heap.size := (Array.getElem?_eq_some_iff.1 hv).1
  have hal : (alC L).length = n * 2 := by rw [alC_len, hn]
  have hsrcL : ∀ (W : World), W.heap[g]? = some (.cells cur 45 (0, 0)) → ∀ j v, (alC L)[j]? = some v → W.cell? ⟨g, j, none⟩ = some v := fun W hW j v hj => by
    have hlt := (List.getElem?_eq_some_iff.1 hj).1
    rw [hal] at hlt
    rw [← htk, List.getElem?_take_of_lt hlt] at hj
    simpa [World.cell?, hW] using hj
  have hgd : w.drew.heap[g]? = some (.cells cur 45 (0, 0)) := hg
  have hold : (Builtin.firstCells i0.size i (.slice (some ⟨g, 0, none⟩) i cap)).run Try.prog w.drew = .ok ((alC L).take (i * 2)).toArray w.drew := by
    rw [hzs]
    exact run_firstCells_some w.drew 2 i ⟨g, 0, none⟩ i cap ((alC L).take (i * 2)) (by rw [List.length_take, hal]; omega) (fun j v hj => by
      rw [add_none, Nat.zero_add]
      rw [List.getElem?_take] at hj
      split at hj
      · exact hsrcL _ hgd j v hj
      · cases hj)
  have hik : i + (n + 1 - i) = n + 1 := by omega
  have hkk : (n : Int) + 1 - (i : Int) = ((n + 1 - i : Nat) : Int) := by omega
  have hgro := grownCap_ge w (n + 1) cap 45
  have hgmx := grownCap_le_maxLen w (n + 1) cap 45 (by unfold maxLen; omega)
  have hrz : ∀ ty, (Builtin.append_ #[41, 3] ty #[.slice (some ⟨g, 0, none⟩) i cap, .int .i64 ((n : Int) + 1 - (i : Int))]).run Try.prog w =
      .ok (.slice (some ⟨w.heap.size, 0, none⟩) (n + 1) (grownCap w (n + 1) cap 45)) (w.drew.alloc (.cells (((alC L).take (i * 2)).toArray ++ Builtin.zeroCells (Value.agg #[.string ⟨#[]⟩, .string ⟨#[]⟩]).cells (n + 1 - i) ++ Builtin.zeroCells (Value.agg #[.string ⟨#[]⟩, .string ⟨#[]⟩]).cells (grownCap w (n + 1) cap 45 - (n + 1))) 45)) := fun ty => by
    have h := Lib.run_append_grow_zeros w 41 3 ty 45 i0 _ .i64 .i64 Try.underlying41 Try.underlying3 hi0 hz0 (some ⟨g, 0, none⟩) i cap ((alC L).take (i * 2)) hold (n + 1 - i) (by omega) (by rw [hzs]; omega) (by omega) (by omega) (by rw [hzb]; omega) (by rw [hzb, hik]; exact growslice_fits (bytes := 32) hroom (by omega))
    rw [hik] at h
    rw [hkk]
    exact h
  obtain ⟨G, hG⟩ : ∃ G, G = grownCap w (n + 1) cap 45 := ⟨_, rfl⟩
  rw [← hG] at hrz hgro hgmx
  obtain ⟨z, hz⟩ : ∃ z : List Value, z = (Builtin.zeroCells (Value.agg #[.string ⟨#[]⟩, .string ⟨#[]⟩]).cells (n + 1 - i)).toList ++ (Builtin.zeroCells (Value.agg #[.string ⟨#[]⟩, .string ⟨#[]⟩]).cells (G - (n + 1))).toList := ⟨_, rfl⟩
  have hzl : z.length = (n + 1 - i) * 2 + (G - (n + 1)) * 2 := by
    rw [hz]; simp [Builtin.zeroCells, Value.cells]
  obtain ⟨c0, hc0⟩ : ∃ c0 : List Value, c0 = (alC L).take (i * 2) ++ z := ⟨_, rfl⟩
  have hrow0 : ((alC L).take (i * 2)).toArray ++ Builtin.zeroCells (Value.agg #[.string ⟨#[]⟩, .string ⟨#[]⟩]).cells (n + 1 - i) ++ Builtin.zeroCells (Value.agg #[.string ⟨#[]⟩, .string ⟨#[]⟩]).cells (G - (n + 1)) = c0.toArray := by
    rw [hc0, hz]; apply Array.toList_inj.1; simp
  rw [hrow0] at hrz
  obtain ⟨c1, hc1⟩ : ∃ c1 : List Value, c1 = c0.take (i * 2) ++ alV D ++ c0.drop (i * 2 + (alV D).length) := ⟨_, rfl⟩
  obtain ⟨l1, l2, ht2⟩ := mid_new (alC L) z (alV D) (i * 2) (n * 2) (by omega) hal (by omega) rfl c0 c1 hc0 hc1
  have lc0 : c0.length = G * 2 := by rw [hc0, List.length_append, List.length_take, hal, hzl]; omega
  have hld : ((alC L).drop (i * 2)).length = (n - i) * 2 := by rw [List.length_drop, hal]; omega
  obtain ⟨W1, hW1⟩ : ∃ W1, W1 = w.drew.alloc (.cells c0.toArray 45) := ⟨_, rfl⟩
  have hsd : w.drew.heap.size = w.heap.size := rfl
  have hn1 : W1.heap[w.heap.size]? = some (.cells c0.toArray 45 (0, 0)) := by rw [hW1]; exact Array.getElem?_push_size
  have hg1 : W1.heap[g]? = some (.cells cur 45 (0, 0)) := by rw [hW1]; exact (Below.heap_alloc w.drew _ g hgw).trans hgd
  have hv1 : W1.heap[vb]? = some (.cells #[.string D.i, .string D.b] 45 (0, 0)) := by rw [hW1]; exact (Below.heap_alloc w.drew _ vb hvw).trans hv
  have hmin1 : Nat.min 1 (n + 1 - i) = 1 := by simp only [Nat.min_def]; split <;> omega
  have hmin2 : Nat.min (n - i) (n - i) = n - i := by simp
  have hcpA : ∀ ty dc, (Builtin.copy_ #[41, 41] ty #[.slice (some ⟨w.heap.size, i * 2, none⟩) (n + 1 - i) dc, .slice (some ⟨vb, 0, none⟩) 1 1]).run Try.prog W1 = .ok (goInt 1) (W1.setRow w.heap.size c1.toArray) := fun ty dc => by
    have h := run_copy_two (P := Try.prog) W1 41 41 ty 45 w.heap.size (i * 2) (n + 1 - i) dc ⟨vb, 0, none⟩ 1 1 c0.toArray 45 (alV D) Try.underlying41 sizeAl2 hn1 (by rw [hmin1]; rfl)
      (fun j v hj => by
        rw [add_none]
        have hj' : [Value.string D.i, Value.string D.b][j]? = some v := hj
        simpa [World.cell?, hv1] using hj')
      (by rw [List.size_toArray, lc0]; show i * 2 + 2 ≤ _; omega) (fun v hv => by simp [alV] at hv; rcases hv with rfl | rfl <;> rfl)
    rw [h, hmin1, hc1]; rfl
  have hgN : g ≠ w.heap.size := by omega
  obtain ⟨W2, hW2⟩ : ∃ W2, W2 = (W1.setRow w.heap.size c1.toArray).drew := ⟨_, rfl⟩
  have hn2 : W2.heap[w.heap.size]? = some (.cells c1.toArray 45 (0, 0)) := by rw [hW2]; exact setRow_heap W1 _ _ _ _ _ hn1
  have hg2 : W2.heap[g]? = some (.cells cur 45 (0, 0)) := by rw [hW2]; exact (setRow_other W1 _ g _ hgN).trans hg1
  have hcpB : ∀ ty dc sc, (Builtin.copy_ #[41, 41] ty #[.slice (some ⟨w.heap.size, (i + 1) * 2, none⟩) (n - i) dc, .slice (some ⟨g, i * 2, none⟩) (n - i) sc]).run Try.prog W2 = .ok (goInt (n - i : Nat)) (W2.setRow w.heap.size (c1.take (i * 2 + 2) ++ (alC L).drop (i * 2) ++ c1.drop (i * 2 + 2 + ((alC L).drop (i * 2)).length)).toArray) := fun ty dc sc => by
    have h := run_copy_two (P := Try.prog) W2 41 41 ty 45 w.heap.size ((i + 1) * 2) (n - i) dc ⟨g, i * 2, none⟩ (n - i) sc c1.toArray 45 ((alC L).drop (i * 2)) Try.underlying41 sizeAl2 hn2 (by rw [hmin2, hld])
      (fun j v hj => by
        rw [add_none]
        rw [List.getElem?_drop] at hj
        exact hsrcL _ hg2 _ v hj)
      (by rw [List.size_toArray, l1, lc0, hld]; omega) (fun v hv => alC_one L v (List.mem_of_mem_drop hv))
    rw [h, hmin2, show (i + 1) * 2 = i * 2 + 2 by omega]
  have hfin : (c1.take (i * 2 + 2) ++ (alC L).drop (i * 2) ++ c1.drop (i * 2 + 2 + ((alC L).drop (i * 2)).length)).toArray.size = G * 2 ∧ (c1.take (i * 2 + 2) ++ (alC L).drop (i * 2) ++ c1.drop (i * 2 + 2 + ((alC L).drop (i * 2)).length)).toArray.toList.take ((n + 1) * 2) = alC (L.take i ++ D :: L.drop i) := by
    refine ⟨by rw [List.size_toArray, l2, lc0], ?_⟩
    rw [alC_ins, ← ht2, show (n + 1) * 2 = n * 2 + 2 by omega]
  generalize (c1.take (i * 2 + 2) ++ (alC L).drop (i * 2) ++ c1.drop (i * 2 + 2 + ((alC L).drop (i * 2)).length)).toArray = c2 at hcpB hfin
  have hgo : W2.setRow w.heap.size c2 = ((w.drew.alloc (.cells c0.toArray 45)).drew).setRow w.heap.size c2 := by
    rw [hW2, hW1]; exact setRow_setRow (w.drew.alloc (.cells c0.toArray 45)).drew w.heap.size c1.toArray c2
  have HF := hide (And.intro hgro (And.intro hgmx hfin))
  rw [← hW1] at hrz
  subst hW2
  have HGO := hide hgo
  have mixed : Try.prog.follows Departure.mixedOrders = true := by kernel_rfl
  have hw1 : IntKind.i64.wrap ((i : Int) + 1) = (i : Int) + 1 := by rw [IntKind.wrap_i64]; omega
  have hb1 : (0 : Int) ≤ (i : Int) + 1 := by omega
  have htn : ((i : Int) + 1).toNat = i + 1 := by omega
  have hin : (i : Int) ≤ (n : Int) := by omega
  have hin2 : ¬ ((i : Int) = (n : Int)) := by omega
  have hrI : (cap : Int) < (n : Int) + 1 := by omega
  have hb4 : ¬ (cap = i) := by omega
  have hGi : ¬ (G = i) := by omega
  have hGi1 : ¬ (G = i + 1) := by omega
  have hb3 : (i : Int) ≤ (n : Int) + 1 := by omega
  have hG63 : G ≤ 9223372036854775807 := by unfold maxLen at hgmx; omega
  have h63 : (i : Int) ≤ (cap : Int) := by omega
  clear hfin hgo hW1 hsd ht2 l2 l1 hc1 htk hal hld hgd hn hg hv hcs hrow0 hc0 lc0 hzl hz hG hgmx hgro hold hsrcL hn1 hg1 hv1 hn2 hg2 hmin1 hmin2 hi0 hz0 hzs hzb hkk hik
  go_enter Try.func33, Try.ntmps33
  go_wp2_with (first
    | (at_builtin; refine Lib.wpList_append_run _ rfl _ _ _ _ rfl _ _ rfl rfl _ _ (hrz _) ?_)
    | (at_builtin; refine wpList_copy_runI _ rfl _ _ 41 41 rfl _ _ rfl rfl (hcpA _ _) ?_))
  go_region_law_o (refine step_copy_runI rfl _ _ 41 41 rfl _ _ (by simp [Act.eval, Act.put]) (by simp [Act.eval, Act.put]) (hcpB _ _ _) ?_)
  go_wp2
  go_ret
  exact ⟨G, c0.toArray, c2, rfl, unhide HGO, (unhide HF).1, (unhide HF).2.1, (unhide HF).2.2.1, (unhide HF).2.2.2⟩
theorem ins_len (L : List AlD) (D : AlD) (i : Nat) (hi : i ≤ L.length) : (L.take i ++ D :: L.drop i).length = L.length + 1 := by
  rw [List.length_append, List.length_cons, List.length_take, List.length_drop]; omega
theorem insA (base : Nat) (v : Value) (L : List AlD) (D : AlD) (i : Nat) (w : World) (hN : L.length ≤ 1000) (hi : i ≤ L.length) (hO : Oa base w v L) (hb : base ≤ w.heap.size) :
    Calls Try.prog 33 #[v, .int .i64 i, .slice (some ⟨w.heap.size, 0, none⟩) 1 1] (w.alloc (.cells #[.string D.i, .string D.b] 45)) (InsP base v L D i (w.alloc (.cells #[.string D.i, .string D.b] 45))) := by
  by_cases he : i = L.length
  · subst he
    exact insA_end base v L D w hN hO hb
  · have hlt : i < L.length := by omega
    have A0 : Below w.heap.size w (w.alloc (.cells #[.string D.i, .string D.b] 45)) := (Below.refl _ _).alloc (Nat.le_refl _) _
    have hOW := hO.below A0
    have hvW : (w.alloc (.cells #[.string D.i, .string D.b] 45)).heap[w.heap.size]? = some (.cells #[.string D.i, .string D.b] 45 (0, 0)) := Array.getElem?_push_size
    have hsz : (w.alloc (.cells #[.string D.i, .string D.b] 45)).heap.size = w.heap.size + 1 := by simp
    rcases hO.2 with ⟨_, e0⟩ | ⟨g0, _, _, ev0, _, hgg0, _⟩
    · omega
    have hg0 : g0 < w.heap.size := (Array.getElem?_eq_some_iff.1 hgg0).1
    generalize w.alloc (.cells #[.string D.i, .string D.b] 45) = W at *
    rcases hOW.2 with ⟨_, e0⟩ | ⟨g, cap, cur, rfl, hbg, hgg, hnc, hcm, hcz, htk⟩
    · omega
    have hgw : g < w.heap.size := by
      injection ev0 with e1
      injection e1 with e1
      injection e1 with e1
      omega
    by_cases hroom : L.length + 1 ≤ cap
    · refine (insA_shift g cap w.heap.size i cur L D W hN hlt hroom hcm hcz htk hgg hvW (by omega)).mono ?_
      rintro e w' ⟨rfl, c2, rfl, hs2, ht2⟩
      refine InsP.mk ⟨?_, Or.inr ⟨g, cap, c2, ?_, hbg, setRow_heap W.drew g cur c2 _ _ hgg, ?_, hcm, by rw [hs2, hcz], ?_⟩⟩ ⟨rfl, rfl, rfl, by simp, fun k hk hne => setRow_other W.drew g k c2 (fun e => hne (by rw [e]; rfl))⟩ (Or.inl rfl)
      · exact alC_len _
      · rw [ins_len L D i hi]
      · rw [ins_len L D i hi]; exact hroom
      · rw [ins_len L D i hi]; exact ht2
    · refine (insA_grow g cap w.heap.size i cur L D W hN hlt hnc (by omega) hcz htk hgg hvW).mono ?_
      rintro e w' ⟨G, c0, c2, rfl, rfl, hG, hGm, hs2, ht2⟩
      have hnew : ((W.drew.alloc (.cells c0 45)).drew).heap[W.heap.size]? = some (.cells c0 45 (0, 0)) := Array.getElem?_push_size
      refine InsP.mk ⟨?_, Or.inr ⟨W.heap.size, G, c2, ?_, by omega, setRow_heap _ W.heap.size c0 c2 _ _ hnew, ?_, hGm, hs2, ?_⟩⟩ ⟨rfl, rfl, rfl, by rw [setRow_size]; show W.heap.size ≤ (W.heap.push _).size; simp, fun k hk hne => (setRow_other _ W.heap.size k c2 (by omega)).trans (Below.heap_alloc W.drew _ k hk)⟩ (Or.inr ⟨W.heap.size, rfl, Nat.le_refl _⟩)
      · exact alC_len _
      · rw [ins_len L D i hi]
      · rw [ins_len L D i hi]; exact hG
      · rw [ins_len L D i hi]; exact ht2
end Go.Proofs.Ythgogkimjhjepaa
