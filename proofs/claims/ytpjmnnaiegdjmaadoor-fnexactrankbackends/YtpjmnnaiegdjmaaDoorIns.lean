/-
  Contracts: a text put into a row of the call's own by slices.Insert.
-/
import Derived.Test.YtpjmnnaiegdjmaaDoorDba
import Derived.Test.YtpjmnnaiegdjmaaDoorBxs
namespace Go.Proofs.YtpjmnnaiegdjmaaDoor
open Go.ChangeShapes Go.WideShapes Go.ChangeAt Go.RowKit Go.Deep
set_option linter.unusedVariables false
set_option maxRecDepth 100000

/-- a list with a text put in -/
def insL (L : List ByteArray) (i : Nat) (x : ByteArray) : List ByteArray := L.take i ++ [x] ++ L.drop i
theorem insL_len (L : List ByteArray) (i : Nat) (x : ByteArray) (hi : i ≤ L.length) : (insL L i x).length = L.length + 1 := by
  unfold insL
  rw [List.length_append, List.length_append, List.length_take, List.length_drop]
  simp
  omega
theorem insL_lo (L : List ByteArray) (i j : Nat) (x : ByteArray) (hi : i ≤ L.length) (h : j < i) : tA (insL L i x) j = tA L j := by
  unfold insL
  rw [List.append_assoc, tA_app_l _ _ _ (by rw [List.length_take]; omega), tA_take _ _ _ h]
theorem insL_at (L : List ByteArray) (i : Nat) (x : ByteArray) (hi : i ≤ L.length) : tA (insL L i x) i = x := by
  unfold insL tA
  rw [List.append_assoc, List.getD, List.getElem?_append_right (by rw [List.length_take]; omega), List.length_take, show i - min i L.length = 0 by omega]
  rfl
theorem insL_hi (L : List ByteArray) (i j : Nat) (x : ByteArray) (hi : i ≤ L.length) : tA (insL L i x) (i + 1 + j) = tA L (i + j) := by
  unfold insL tA
  rw [List.append_assoc, List.getD, List.getElem?_append_right (by rw [List.length_take]; omega), List.length_take, show i + 1 + j - min i L.length = j + 1 by omega, List.singleton_append, List.getElem?_cons_succ, List.getElem?_drop, List.getD]
theorem two_a (b i : Nat) (W : World) (L : List ByteArray) (x : ByteArray) (hi : i ≤ L.length) (hs : ∀ j, j < L.length + 1 → (W.cell? ⟨b, j, none⟩).isSome = true) (hlo : ∀ j, j < i → W.cell? ⟨b, j, none⟩ = some (.string (tA L j))) :
    ∀ j, j < L.length + 1 → ((W.setCells b i [.string x]).setCells b (i + 1) (tC (L.drop i))).cell? ⟨b, j, none⟩ = some (.string (tA (insL L i x) j)) := by
  intro j hj
  have hs1 : ∀ j, j < L.length + 1 → ((W.setCells b i [.string x]).cell? ⟨b, j, none⟩).isSome = true := fun j hj => by
    by_cases e : j = i
    · subst e
      have := World.cell?_setCells_in b [.string x] j W (fun q hq => by obtain rfl : q = 0 := by simpa using hq
                                                                        exact hs j hj) 0 (by simp)
      rw [Nat.add_zero] at this
      rw [this]; rfl
    · rw [World.cell?_setCells_out b _ _ _ _ (fun _ _ => by show j < i ∨ i + 1 ≤ j; omega)]; exact hs j hj
  have hlen : (tC (L.drop i)).length = L.length - i := by rw [tC_len, List.length_drop]; omega
  by_cases h1 : i + 1 ≤ j
  · obtain ⟨q, rfl⟩ : ∃ q, j = i + 1 + q := ⟨j - (i + 1), by omega⟩
    have h9 := World.cell?_setCells_in b (tC (L.drop i)) (i + 1) (W.setCells b i [.string x]) (fun q hq => hs1 _ (by omega)) q (by omega)
    rw [h9, ← List.getElem?_eq_getElem, tC_at _ _ (by rw [List.length_drop]; omega), tA_drop, insL_hi L i q x hi]
  · rw [World.cell?_setCells_out b _ _ _ _ (fun _ _ => by show j < i + 1 ∨ _; omega)]
    by_cases e : j = i
    · subst e
      have := World.cell?_setCells_in b [.string x] j W (fun q hq => by obtain rfl : q = 0 := by simpa using hq
                                                                        exact hs j hj) 0 (by simp)
      rw [Nat.add_zero] at this
      rw [this, insL_at L j x hi]; rfl
    · rw [World.cell?_setCells_out b _ _ _ _ (fun _ _ => by show j < i ∨ i + 1 ≤ j; omega), hlo j (by omega), insL_lo L i j x hi (by omega)]
theorem two_b (b i : Nat) (W : World) (L : List ByteArray) (x : ByteArray) (hi : i ≤ L.length) (hs : ∀ j, j < L.length + 1 → (W.cell? ⟨b, j, none⟩).isSome = true) (hlo : ∀ j, j < i → W.cell? ⟨b, j, none⟩ = some (.string (tA L j))) :
    ∀ j, j < L.length + 1 → ((W.setCells b (i + 1) (tC (L.drop i))).setCells b i [.string x]).cell? ⟨b, j, none⟩ = some (.string (tA (insL L i x) j)) := by
  intro j hj
  have hlen : (tC (L.drop i)).length = L.length - i := by rw [tC_len, List.length_drop]; omega
  have hi1 : ((W.setCells b (i + 1) (tC (L.drop i))).cell? ⟨b, i, none⟩).isSome = true := by
    rw [World.cell?_setCells_out b _ _ _ _ (fun _ _ => by show i < i + 1 ∨ _; omega)]; exact hs i (by omega)
  by_cases e : j = i
  · subst e
    refine (World.cell?_setCells_in b [.string x] j (W.setCells b (j + 1) (tC (L.drop j))) (fun q hq => by obtain rfl : q = 0 := by simpa using hq
                                                                                                           exact hi1) 0 (by simp)).trans ?_
    rw [insL_at L j x hi]
    rfl
  · rw [World.cell?_setCells_out b _ _ _ _ (fun _ _ => by show j < i ∨ i + 1 ≤ j; omega)]
    by_cases h1 : i + 1 ≤ j
    · obtain ⟨q, rfl⟩ : ∃ q, j = i + 1 + q := ⟨j - (i + 1), by omega⟩
      have h9 := World.cell?_setCells_in b (tC (L.drop i)) (i + 1) W (fun q hq => hs _ (by omega)) q (by omega)
      rw [h9, ← List.getElem?_eq_getElem, tC_at _ _ (by rw [List.length_drop]; omega), tA_drop, insL_hi L i q x hi]
    · rw [World.cell?_setCells_out b _ _ _ _ (fun _ _ => by show j < i + 1 ∨ _; omega), hlo j (by omega), insL_lo L i j x hi (by omega)]
theorem tC_drop (L : List ByteArray) (i : Nat) : (tC L).drop i = tC (L.drop i) := by unfold tC; rw [List.map_drop]
theorem tC_take (L : List ByteArray) (i : Nat) : (tC L).take i = tC (L.take i) := by unfold tC; rw [List.map_take]
theorem new_frozen (w : World) (A : Array Value) (T : TypeId) (o : Nat) : (w.alloc (.cells A T)).frozen? ⟨w.heap.size, o, none⟩ = false := by
  exact (Bx.new w A.toList T).fz o
theorem implIn (base vb : Nat) (v : Value) (L : List ByteArray) (i : Nat) (x : ByteArray) (w : World) (hN : L.length ≤ 1000) (hi : i ≤ L.length) (hO : Ost base w v L) (hb : base ≤ w.heap.size) (hX : w.heap[vb]? = some (.cells #[.string x] 9 (0, 0))) (hne : ∀ g, v.ownBlock = some g → vb ≠ g) :
    Calls Tryd.prog 56 #[v, .int .i64 i, .slice (some ⟨vb, 0, none⟩) 1 1] w fun e w' => ∃ a cap, e = .returned (.slice a (insL L i x).length cap) ∧ Sn base w' a (insL L i x).length (tA (insL L i x)) ∧ Below base w w' := by
  have hlen := insL_len L i x hi
  have hxc : ∀ j u, ([.string x] : List Value)[j]? = some u → w.cell? ⟨vb, 0 + j, none⟩ = some u := fun j u hu => by
    match j, hu with
    | 0, hu => simp at hu; subst hu; simp [World.cell?, hX]
    | q + 1, hu => simp at hu
  have h1v : ∀ u ∈ ([.string x] : List Value), u.oneCell' = true := fun u hu => by simp at hu; subst hu; rfl
  have hcl : (tC L).length = L.length := by rw [tC_len]; omega
  -- a row made anew at the end
  have fresh : ∀ (W : World) (A : Array Value), base ≤ W.heap.size → (∀ j, j < L.length + 1 → A[j]? = some (.string (tA (insL L i x) j))) → Sn base (W.alloc (.cells A 9)) (some ⟨W.heap.size, 0, none⟩) (insL L i x).length (tA (insL L i x)) := fun W A hW hA =>
    Or.inr ⟨_, rfl, hW, by simp, fun j hj => by rw [World.cell?_alloc_new]; exact hA j (by omega), fun j _ => new_frozen _ _ _ _⟩
  have endA : ∀ (Z : Array Value) (j : Nat), i = L.length → j < L.length + 1 → ((tC L ++ [Value.string x]).toArray ++ Z)[j]? = some (Value.string (tA (insL L i x) j)) := fun Z j he hj => by
    rw [Array.getElem?_append_left (by simp [hcl]; omega)]
    have e9 : tC L ++ [Value.string x] = tC (insL L i x) := by
      unfold insL
      rw [he, List.take_length, List.drop_length, List.append_nil, tC_app]
      rfl
    rw [e9, List.getElem?_toArray, tC_at _ _ (by omega)]
  rcases hO.2 with ⟨rfl, e0⟩ | ⟨g, cap, cur, rfl, hg, hgg, hnc, hcm, hcs, htk⟩
  · -- the nil slice
    obtain rfl : i = L.length := by omega
    have H : Calls Tryd.prog 56 #[.slice none 0 0, .int .i64 (0 : Nat), .slice (some ⟨vb, 0, none⟩) 1 1] w fun e w' => e = .returned (.slice (some ⟨w.heap.size, 0, none⟩) (0 + 1) (grownCap w (0 + 1) 0 9)) ∧ w' = w.drew.alloc (.cells ((tC L ++ [Value.string x]).toArray ++ Builtin.zeroCells (Value.string ⟨#[]⟩).cells (grownCap w (0 + 1) 0 9 - (0 + 1))) 9) := Any2.slices_Insert_string_end_grow Tryd.laysNm222 none 0 0 vb 0 1 1 (tC L) [.string x] w (by omega) (by omega) (by omega) (by omega) (by omega) rfl (fun _ => rfl) (fun a ha => by cases ha) hxc h1v
    have e0' : (L.length : Int) = ((0 : Nat) : Int) := by omega
    rw [e0']
    refine H.mono ?_
    rintro e w' ⟨rfl, rfl⟩
    refine ⟨some ⟨w.heap.size, 0, none⟩, grownCap w (0 + 1) 0 9, by rw [hlen, e0], fresh w.drew _ hb (fun j hj => endA _ j rfl hj), ((Below.refl _ _).drew).alloc hb _⟩
  · have hcell : ∀ j, j < L.length → w.cell? ⟨g, j, none⟩ = some (.string (tA L j)) := fun j hj => (World.ownsRow.cellAt hO j (by omega)).trans (tC_at L j hj)
    have hsome : ∀ j, j < cap → (w.cell? ⟨g, j, none⟩).isSome = true := fun j hj => by
      have : w.cell? ⟨g, j, none⟩ = cur[j]? := by simp [World.cell?, hgg]
      rw [this, Array.getElem?_eq_getElem (by omega)]; rfl
    have hfz : ∀ o, w.frozen? ⟨g, o, none⟩ = false := fun o => World.ownsRow.frozenAt hO o
    have hglt : g < w.heap.size := (Array.getElem?_eq_some_iff.1 hgg).1
    have hne' := hne g rfl
    have hcs' : ∀ j u, (tC L)[j]? = some u → w.cell? ⟨g, 0 + j, none⟩ = some u := fun j u hu => by
      obtain ⟨hj, rfl⟩ := tC_get L j u hu
      rw [Nat.zero_add]; exact hcell j hj
    unfold maxLen at hcm
    by_cases hend : i = L.length
    · subst hend
      by_cases hroom : L.length + 1 ≤ cap
      · refine (Any2.slices_Insert_string_end_room Tryd.laysNm222 g 0 L.length cap vb 0 1 1 [.string x] w (by omega) hroom hcm rfl (fun j hj => by rw [Nat.zero_add]; exact hsome _ (by omega)) (fun j hj => hfz _) hxc h1v).mono ?_
        rintro e w' ⟨rfl, rfl⟩
        rw [Nat.zero_add]
        refine ⟨some ⟨g, 0, none⟩, cap, by rw [hlen], Or.inr ⟨g, rfl, hg, by rw [set_size]; exact hglt, fun j hj => ?_, fun j _ => by rw [World.frozen?_setCells]; exact hfz j⟩, set_below hg⟩
        have h9 := two_b g L.length w L x (Nat.le_refl _) (fun j hj => hsome j (by omega)) hcell j (by omega)
        rw [List.drop_length] at h9
        exact h9
      · have H : Calls Tryd.prog 56 #[.slice (some ⟨g, 0, none⟩) L.length cap, .int .i64 L.length, .slice (some ⟨vb, 0, none⟩) 1 1] w fun e w' => e = .returned (.slice (some ⟨w.heap.size, 0, none⟩) (L.length + 1) (grownCap w (L.length + 1) cap 9)) ∧ w' = w.drew.alloc (.cells ((tC L ++ [Value.string x]).toArray ++ Builtin.zeroCells (Value.string ⟨#[]⟩).cells (grownCap w (L.length + 1) cap 9 - (L.length + 1))) 9) := Any2.slices_Insert_string_end_grow Tryd.laysNm222 (some ⟨g, 0, none⟩) L.length cap vb 0 1 1 (tC L) [.string x] w (by omega) hnc (by omega) (by omega) hcl rfl (fun h => by cases h) (fun a ha j u hu => by injection ha with ha; subst ha; rw [add_non]; exact hcs' j u hu) hxc h1v
        refine H.mono ?_
        rintro e w' ⟨rfl, rfl⟩
        exact ⟨some ⟨w.heap.size, 0, none⟩, grownCap w (L.length + 1) cap 9, by rw [hlen], fresh w.drew _ hb (fun j hj => endA _ j rfl hj), ((Below.refl _ _).drew).alloc hb _⟩
    · have hlt : i < L.length := by omega
      by_cases hroom : L.length + 1 ≤ cap
      · have hvf : ∀ o, w.frozen? ⟨vb, o, none⟩ = false := fun o => by simp [World.frozen?, hX]
        refine (Any2.slices_Insert_string_shift Tryd.laysNm222 g 0 L.length cap i vb 0 1 1 (tC L) [.string x] w hlt (by omega) hroom hcm hne' hcl rfl hcs' (fun j hj => by rw [Nat.zero_add]; exact hsome j (by omega)) (fun j hj => hfz _) hxc (tC_one L) h1v 9 9 1 cur.size (by simp [World.shape?, hX]) (by simp [World.shape?, hgg]) (by omega) (hvf _) (hvf _)).mono ?_
        rintro e w' ⟨rfl, rfl⟩
        rw [Nat.zero_add, Nat.zero_add, tC_drop]
        refine ⟨some ⟨g, 0, none⟩, cap, by rw [hlen], Or.inr ⟨g, rfl, hg, by rw [set_size, set_size]; exact hglt, fun j hj => two_b g i w.drew L x hi (fun j hj => hsome j (by omega)) (fun j hj => hcell j (by omega)) j (by omega), fun j _ => by rw [World.frozen?_setCells, World.frozen?_setCells]; exact hfz j⟩, (((Below.refl base w).drew).trans (set_below hg)).trans (set_below hg)⟩
      · generalize hA : (tC (L.take i)).toArray ++ Builtin.zeroCells (Value.string ⟨#[]⟩).cells (L.length + 1 - i) ++ Builtin.zeroCells (Value.string ⟨#[]⟩).cells (grownCap w (L.length + 1) cap 9 - (L.length + 1)) = A
        have H : Calls Tryd.prog 56 #[.slice (some ⟨g, 0, none⟩) L.length cap, .int .i64 i, .slice (some ⟨vb, 0, none⟩) 1 1] w fun e w' => e = .returned (.slice (some ⟨w.heap.size, 0, none⟩) (L.length + 1) (grownCap w (L.length + 1) cap 9)) ∧ w' = (((w.alloc (.cells A 9)).drew.setCells w.heap.size i [.string x]).drew).setCells w.heap.size (i + 1) (tC (L.drop i)) := by
          rw [← hA, ← tC_drop, ← tC_take]
          exact Any2.slices_Insert_string_grow Tryd.laysNm222 g 0 L.length cap i vb 0 1 1 (tC L) [.string x] w hlt (by omega) hnc (by omega) (by omega) hcl rfl hcs' hxc (tC_one L) h1v
        refine H.mono ?_
        rintro e w' ⟨rfl, rfl⟩
        have htl : (tC (L.take i)).length = i := by rw [tC_len, List.length_take]; omega
        have hAs : ∀ j, j < L.length + 1 → ((w.alloc (.cells A 9)).drew.cell? ⟨w.heap.size, j, none⟩).isSome = true := fun j hj => by
          show ((w.alloc (.cells A 9)).cell? ⟨w.heap.size, j, none⟩).isSome = true
          rw [World.cell?_alloc_new, ← hA, Array.getElem?_eq_getElem (by simp [htl, Builtin.zeroCells, Value.cells]; omega)]
          rfl
        have hAl : ∀ j, j < i → (w.alloc (.cells A 9)).drew.cell? ⟨w.heap.size, j, none⟩ = some (.string (tA L j)) := fun j hj => by
          show (w.alloc (.cells A 9)).cell? ⟨w.heap.size, j, none⟩ = _
          rw [World.cell?_alloc_new, ← hA, Array.append_assoc, Array.getElem?_append_left (by simp [htl]; omega), List.getElem?_toArray, tC_at _ _ (by rw [List.length_take]; omega), tA_take _ _ _ hj]
        refine ⟨some ⟨w.heap.size, 0, none⟩, grownCap w (L.length + 1) cap 9, by rw [hlen], Or.inr ⟨w.heap.size, rfl, hb, by rw [set_size]; show w.heap.size < (((w.alloc (.cells A 9)).drew.setCells w.heap.size i [.string x])).heap.size; rw [set_size]; show w.heap.size < (w.alloc (.cells A 9)).heap.size; simp, fun j hj => ?_, fun j _ => ?_⟩, ?_⟩
        · rw [drew_setCells]
          exact two_a w.heap.size i (w.alloc (.cells A 9)).drew.drew L x hi hAs hAl j (by omega)
        · rw [World.frozen?_setCells]
          show ((w.alloc (.cells A 9)).drew.setCells w.heap.size i [.string x]).frozen? _ = false
          rw [World.frozen?_setCells]
          exact new_frozen _ _ _ _
        · refine Below.trans ?_ (set_below hb)
          refine Below.drew ?_
          refine Below.trans ?_ (set_below hb)
          exact ((Below.refl base w).alloc hb _).drew
end Go.Proofs.YtpjmnnaiegdjmaaDoor
