/-
  Contracts: a text put into a row of the call's own by slices.Insert. Contracts: DropBackend and AddBackend, of both sides. Contracts: AddBackend, of both sides. Live sets with one less and with one more, and who is picked of them.
-/
import Derived.Test.YtpjmnnaiegdjmaaDoorDba
import Derived.Test.YtpjmnnaiegdjmaaDoorBxs
import Derived.Test.YtpjmnnaiegdjmaaDoorFlaX
import Derived.Test.YtpjmnnaiegdjmaaDoorRsw
import Derived.Deep.RegionHeld3
import Derived.Test.YtpjmnnaiegdjmaaDoorPkb
namespace Go.Proofs.YtpjmnnaiegdjmaaDoor
open Go.ChangeShapes Go.WideShapes Go.ChangeAt Go.RowKit Go.Deep
set_option linter.unusedVariables false
set_option maxRecDepth 100000

/-- a list with a text put in -/
def insL (L : List ByteArray) (i : Nat) (x : ByteArray) : List ByteArray := L.take i ++ [x] ++ L.drop i
theorem insL_len (L : List ByteArray) (i : Nat) (x : ByteArray) (hi : i ≤ L.length) : (insL L i x).length = L.length + 1 := by
  unfold insL
  rw [List.length_append, List.length_append, List.length_take, List.length_drop]
  simp
  omega
theorem insL_lo (L : List ByteArray) (i j : Nat) (x : ByteArray) (hi : i ≤ L.length) (h : j < i) : tA (insL L i x) j = tA L j := by
  unfold insL
  rw [List.append_assoc, tA_app_l _ _ _ (by rw [List.length_take]; omega), tA_take _ _ _ h]
theorem insL_at (L : List ByteArray) (i : Nat) (x : ByteArray) (hi : i ≤ L.length) : tA (insL L i x) i = x := by
  unfold insL tA
  rw [List.append_assoc, List.getD, List.getElem?_append_right (by rw [List.length_take]; omega), List.length_take, show i - min i L.length = 0 by omega]
  rfl
theorem insL_hi (L : List ByteArray) (i j : Nat) (x : ByteArray) (hi : i ≤ L.length) : tA (insL L i x) (i + 1 + j) = tA L (i + j) := by
  unfold insL tA
  rw [List.append_assoc, List.getD, List.getElem?_append_right (by rw [List.length_take]; omega), List.length_take, show i + 1 + j - min i L.length = j + 1 by omega, List.singleton_append, List.getElem?_cons_succ, List.getElem?_drop, List.getD]
theorem two_a (b i : Nat) (W : World) (L : List ByteArray) (x : ByteArray) (hi : i ≤ L.length) (hs : ∀ j, j < L.length + 1 → (W.cell? ⟨b, j, none⟩).isSome = true) (hlo : ∀ j, j < i → W.cell? ⟨b, j, none⟩ = some (.string (tA L j))) :
    ∀ j, j < L.length + 1 → ((W.setCells b i [.string x]).setCells b (i + 1) (tC (L.drop i))).cell? ⟨b, j, none⟩ = some (.string (tA (insL L i x) j)) := by
  intro j hj
  have hs1 : ∀ j, j < L.length + 1 → ((W.setCells b i [.string x]).cell? ⟨b, j, none⟩).isSome = true := fun j hj => by
    by_cases e : j = i
    · subst e
      have := World.cell?_setCells_in b [.string x] j W (fun q hq => by obtain rfl : q = 0 := by simpa using hq
                                                                        exact hs j hj) 0 (by simp)
      rw [Nat.add_zero] at this
      rw [this]; rfl
    · rw [World.cell?_setCells_out b _ _ _ _ (fun _ _ => by show j < i ∨ i + 1 ≤ j; omega)]; exact hs j hj
  have hlen : (tC (L.drop i)).length = L.length - i := by rw [tC_len, List.length_drop]; omega
  by_cases h1 : i + 1 ≤ j
  · obtain ⟨q, rfl⟩ : ∃ q, j = i + 1 + q := ⟨j - (i + 1), by omega⟩
    have h9 := World.cell?_setCells_in b (tC (L.drop i)) (i + 1) (W.setCells b i [.string x]) (fun q hq => hs1 _ (by omega)) q (by omega)
    rw [h9, ← List.getElem?_eq_getElem, tC_at _ _ (by rw [List.length_drop]; omega), tA_drop, insL_hi L i q x hi]
  · rw [World.cell?_setCells_out b _ _ _ _ (fun _ _ => by show j < i + 1 ∨ _; omega)]
    by_cases e : j = i
    · subst e
      have := World.cell?_setCells_in b [.string x] j W (fun q hq => by obtain rfl : q = 0 := by simpa using hq
                                                                        exact hs j hj) 0 (by simp)
      rw [Nat.add_zero] at this
      rw [this, insL_at L j x hi]; rfl
    · rw [World.cell?_setCells_out b _ _ _ _ (fun _ _ => by show j < i ∨ i + 1 ≤ j; omega), hlo j (by omega), insL_lo L i j x hi (by omega)]
theorem two_b (b i : Nat) (W : World) (L : List ByteArray) (x : ByteArray) (hi : i ≤ L.length) (hs : ∀ j, j < L.length + 1 → (W.cell? ⟨b, j, none⟩).isSome = true) (hlo : ∀ j, j < i → W.cell? ⟨b, j, none⟩ = some (.string (tA L j))) :
    ∀ j, j < L.length + 1 → ((W.setCells b (i + 1) (tC (L.drop i))).setCells b i [.string x]).cell? ⟨b, j, none⟩ = some (.string (tA (insL L i x) j)) := by
  intro j hj
  have hlen : (tC (L.drop i)).length = L.length - i := by rw [tC_len, List.length_drop]; omega
  have hi1 : ((W.setCells b (i + 1) (tC (L.drop i))).cell? ⟨b, i, none⟩).isSome = true := by
    rw [World.cell?_setCells_out b _ _ _ _ (fun _ _ => by show i < i + 1 ∨ _; omega)]; exact hs i (by omega)
  by_cases e : j = i
  · subst e
    refine (World.cell?_setCells_in b [.string x] j (W.setCells b (j + 1) (tC (L.drop j))) (fun q hq => by obtain rfl : q = 0 := by simpa using hq
                                                                                                           exact hi1) 0 (by simp)).trans ?_
    rw [insL_at L j x hi]
    rfl
  · rw [World.cell?_setCells_out b _ _ _ _ (fun _ _ => by show j < i ∨ i + 1 ≤ j; omega)]
    by_cases h1 : i + 1 ≤ j
    · obtain ⟨q, rfl⟩ : ∃ q, j = i + 1 + q := ⟨j - (i + 1), by omega⟩
      have h9 := World.cell?_setCells_in b (tC (L.drop i)) (i + 1) W (fun q hq => hs _ (by omega)) q (by omega)
      rw [h9, ← List.getElem?_eq_getElem, tC_at _ _ (by rw [List.length_drop]; omega), tA_drop, insL_hi L i q x hi]
    · rw [World.cell?_setCells_out b _ _ _ _ (fun _ _ => by show j < i + 1 ∨ _; omega), hlo j (by omega), insL_lo L i j x hi (by omega)]
theorem tC_drop (L : List ByteArray) (i : Nat) : (tC L).drop i = tC (L.drop i) := by unfold tC; rw [List.map_drop]
theorem tC_take (L : List ByteArray) (i : Nat) : (tC L).take i = tC (L.take i) := by unfold tC; rw [List.map_take]
theorem new_frozen (w : World) (A : Array Value) (T : TypeId) (o : Nat) : (w.alloc (.cells A T)).frozen? ⟨w.heap.size, o, none⟩ = false := by
  exact (Bx.new w A.toList T).fz o
theorem implIn (base vb : Nat) (v : Value) (L : List ByteArray) (i : Nat) (x : ByteArray) (w : World) (hN : L.length ≤ 1000) (hi : i ≤ L.length) (hO : Ost base w v L) (hb : base ≤ w.heap.size) (hX : w.heap[vb]? = some (.cells #[.string x] 9 (0, 0))) (hne : ∀ g, v.ownBlock = some g → vb ≠ g) :
    Calls Tryd.prog 56 #[v, .int .i64 i, .slice (some ⟨vb, 0, none⟩) 1 1] w fun e w' => ∃ a cap, e = .returned (.slice a (insL L i x).length cap) ∧ Sn base w' a (insL L i x).length (tA (insL L i x)) ∧ Below base w w' := by
  have hlen := insL_len L i x hi
  have hxc : ∀ j u, ([.string x] : List Value)[j]? = some u → w.cell? ⟨vb, 0 + j, none⟩ = some u := fun j u hu => by
    match j, hu with
    | 0, hu => simp at hu; subst hu; simp [World.cell?, hX]
    | q + 1, hu => simp at hu
  have h1v : ∀ u ∈ ([.string x] : List Value), u.oneCell' = true := fun u hu => by simp at hu; subst hu; rfl
  have hcl : (tC L).length = L.length := by rw [tC_len]; omega
  -- a row made anew at the end
  have fresh : ∀ (W : World) (A : Array Value), base ≤ W.heap.size → (∀ j, j < L.length + 1 → A[j]? = some (.string (tA (insL L i x) j))) → Sn base (W.alloc (.cells A 9)) (some ⟨W.heap.size, 0, none⟩) (insL L i x).length (tA (insL L i x)) := fun W A hW hA =>
    Or.inr ⟨_, rfl, hW, by simp, fun j hj => by rw [World.cell?_alloc_new]; exact hA j (by omega), fun j _ => new_frozen _ _ _ _⟩
  have endA : ∀ (Z : Array Value) (j : Nat), i = L.length → j < L.length + 1 → ((tC L ++ [Value.string x]).toArray ++ Z)[j]? = some (Value.string (tA (insL L i x) j)) := fun Z j he hj => by
    rw [Array.getElem?_append_left (by simp [hcl]; omega)]
    have e9 : tC L ++ [Value.string x] = tC (insL L i x) := by
      unfold insL
      rw [he, List.take_length, List.drop_length, List.append_nil, tC_app]
      rfl
    rw [e9, List.getElem?_toArray, tC_at _ _ (by omega)]
  rcases hO.2 with ⟨rfl, e0⟩ | ⟨g, cap, cur, rfl, hg, hgg, hnc, hcm, hcs, htk⟩
  · -- the nil slice
    obtain rfl : i = L.length := by omega
    have H : Calls Tryd.prog 56 #[.slice none 0 0, .int .i64 (0 : Nat), .slice (some ⟨vb, 0, none⟩) 1 1] w fun e w' => e = .returned (.slice (some ⟨w.heap.size, 0, none⟩) (0 + 1) (grownCap w (0 + 1) 0 9)) ∧ w' = w.drew.alloc (.cells ((tC L ++ [Value.string x]).toArray ++ Builtin.zeroCells (Value.string ⟨#[]⟩).cells (grownCap w (0 + 1) 0 9 - (0 + 1))) 9) := Any2.slices_Insert_string_end_grow Tryd.laysNm222 none 0 0 vb 0 1 1 (tC L) [.string x] w (by omega) (by omega) (by omega) (by omega) (by omega) rfl (fun _ => rfl) (fun a ha => by cases ha) hxc h1v
    have e0' : (L.length : Int) = ((0 : Nat) : Int) := by omega
    rw [e0']
    refine H.mono ?_
    rintro e w' ⟨rfl, rfl⟩
    refine ⟨some ⟨w.heap.size, 0, none⟩, grownCap w (0 + 1) 0 9, by rw [hlen, e0], fresh w.drew _ hb (fun j hj => endA _ j rfl hj), ((Below.refl _ _).drew).alloc hb _⟩
  · have hcell : ∀ j, j < L.length → w.cell? ⟨g, j, none⟩ = some (.string (tA L j)) := fun j hj => (World.ownsRow.cellAt hO j (by omega)).trans (tC_at L j hj)
    have hsome : ∀ j, j < cap → (w.cell? ⟨g, j, none⟩).isSome = true := fun j hj => by
      have : w.cell? ⟨g, j, none⟩ = cur[j]? := by simp [World.cell?, hgg]
      rw [this, Array.getElem?_eq_getElem (by omega)]; rfl
    have hfz : ∀ o, w.frozen? ⟨g, o, none⟩ = false := fun o => World.ownsRow.frozenAt hO o
    have hglt : g < w.heap.size := (Array.getElem?_eq_some_iff.1 hgg).1
    have hne' := hne g rfl
    have hcs' : ∀ j u, (tC L)[j]? = some u → w.cell? ⟨g, 0 + j, none⟩ = some u := fun j u hu => by
      obtain ⟨hj, rfl⟩ := tC_get L j u hu
      rw [Nat.zero_add]; exact hcell j hj
    unfold maxLen at hcm
    by_cases hend : i = L.length
    · subst hend
      by_cases hroom : L.length + 1 ≤ cap
      · refine (Any2.slices_Insert_string_end_room Tryd.laysNm222 g 0 L.length cap vb 0 1 1 [.string x] w (by omega) hroom hcm rfl (fun j hj => by rw [Nat.zero_add]; exact hsome _ (by omega)) (fun j hj => hfz _) hxc h1v).mono ?_
        rintro e w' ⟨rfl, rfl⟩
        rw [Nat.zero_add]
        refine ⟨some ⟨g, 0, none⟩, cap, by rw [hlen], Or.inr ⟨g, rfl, hg, by rw [set_size]; exact hglt, fun j hj => ?_, fun j _ => by rw [World.frozen?_setCells]; exact hfz j⟩, set_below hg⟩
        have h9 := two_b g L.length w L x (Nat.le_refl _) (fun j hj => hsome j (by omega)) hcell j (by omega)
        rw [List.drop_length] at h9
        exact h9
      · have H : Calls Tryd.prog 56 #[.slice (some ⟨g, 0, none⟩) L.length cap, .int .i64 L.length, .slice (some ⟨vb, 0, none⟩) 1 1] w fun e w' => e = .returned (.slice (some ⟨w.heap.size, 0, none⟩) (L.length + 1) (grownCap w (L.length + 1) cap 9)) ∧ w' = w.drew.alloc (.cells ((tC L ++ [Value.string x]).toArray ++ Builtin.zeroCells (Value.string ⟨#[]⟩).cells (grownCap w (L.length + 1) cap 9 - (L.length + 1))) 9) := Any2.slices_Insert_string_end_grow Tryd.laysNm222 (some ⟨g, 0, none⟩) L.length cap vb 0 1 1 (tC L) [.string x] w (by omega) hnc (by omega) (by omega) hcl rfl (fun h => by cases h) (fun a ha j u hu => by injection ha with ha; subst ha; rw [add_non]; exact hcs' j u hu) hxc h1v
        refine H.mono ?_
        rintro e w' ⟨rfl, rfl⟩
        exact ⟨some ⟨w.heap.size, 0, none⟩, grownCap w (L.length + 1) cap 9, by rw [hlen], fresh w.drew _ hb (fun j hj => endA _ j rfl hj), ((Below.refl _ _).drew).alloc hb _⟩
    · have hlt : i < L.length := by omega
      by_cases hroom : L.length + 1 ≤ cap
      · have hvf : ∀ o, w.frozen? ⟨vb, o, none⟩ = false := fun o => by simp [World.frozen?, hX]
        refine (Any2.slices_Insert_string_shift Tryd.laysNm222 g 0 L.length cap i vb 0 1 1 (tC L) [.string x] w hlt (by omega) hroom hcm hne' hcl rfl hcs' (fun j hj => by rw [Nat.zero_add]; exact hsome j (by omega)) (fun j hj => hfz _) hxc (tC_one L) h1v 9 9 1 cur.size (by simp [World.shape?, hX]) (by simp [World.shape?, hgg]) (by omega) (hvf _) (hvf _)).mono ?_
        rintro e w' ⟨rfl, rfl⟩
        rw [Nat.zero_add, Nat.zero_add, tC_drop]
        refine ⟨some ⟨g, 0, none⟩, cap, by rw [hlen], Or.inr ⟨g, rfl, hg, by rw [set_size, set_size]; exact hglt, fun j hj => two_b g i w.drew L x hi (fun j hj => hsome j (by omega)) (fun j hj => hcell j (by omega)) j (by omega), fun j _ => by rw [World.frozen?_setCells, World.frozen?_setCells]; exact hfz j⟩, (((Below.refl base w).drew).trans (set_below hg)).trans (set_below hg)⟩
      · generalize hA : (tC (L.take i)).toArray ++ Builtin.zeroCells (Value.string ⟨#[]⟩).cells (L.length + 1 - i) ++ Builtin.zeroCells (Value.string ⟨#[]⟩).cells (grownCap w (L.length + 1) cap 9 - (L.length + 1)) = A
        have H : Calls Tryd.prog 56 #[.slice (some ⟨g, 0, none⟩) L.length cap, .int .i64 i, .slice (some ⟨vb, 0, none⟩) 1 1] w fun e w' => e = .returned (.slice (some ⟨w.heap.size, 0, none⟩) (L.length + 1) (grownCap w (L.length + 1) cap 9)) ∧ w' = (((w.alloc (.cells A 9)).drew.setCells w.heap.size i [.string x]).drew).setCells w.heap.size (i + 1) (tC (L.drop i)) := by
          rw [← hA, ← tC_drop, ← tC_take]
          exact Any2.slices_Insert_string_grow Tryd.laysNm222 g 0 L.length cap i vb 0 1 1 (tC L) [.string x] w hlt (by omega) hnc (by omega) (by omega) hcl rfl hcs' hxc (tC_one L) h1v
        refine H.mono ?_
        rintro e w' ⟨rfl, rfl⟩
        have htl : (tC (L.take i)).length = i := by rw [tC_len, List.length_take]; omega
        have hAs : ∀ j, j < L.length + 1 → ((w.alloc (.cells A 9)).drew.cell? ⟨w.heap.size, j, none⟩).isSome = true := fun j hj => by
          show ((w.alloc (.cells A 9)).cell? ⟨w.heap.size, j, none⟩).isSome = true
          rw [World.cell?_alloc_new, ← hA, Array.getElem?_eq_getElem (by simp [htl, Builtin.zeroCells, Value.cells]; omega)]
          rfl
        have hAl : ∀ j, j < i → (w.alloc (.cells A 9)).drew.cell? ⟨w.heap.size, j, none⟩ = some (.string (tA L j)) := fun j hj => by
          show (w.alloc (.cells A 9)).cell? ⟨w.heap.size, j, none⟩ = _
          rw [World.cell?_alloc_new, ← hA, Array.append_assoc, Array.getElem?_append_left (by simp [htl]; omega), List.getElem?_toArray, tC_at _ _ (by rw [List.length_take]; omega), tA_take _ _ _ hj]
        refine ⟨some ⟨w.heap.size, 0, none⟩, grownCap w (L.length + 1) cap 9, by rw [hlen], Or.inr ⟨w.heap.size, rfl, hb, by rw [set_size]; show w.heap.size < (((w.alloc (.cells A 9)).drew.setCells w.heap.size i [.string x])).heap.size; rw [set_size]; show w.heap.size < (w.alloc (.cells A 9)).heap.size; simp, fun j hj => ?_, fun j _ => ?_⟩, ?_⟩
        · rw [drew_setCells]
          exact two_a w.heap.size i (w.alloc (.cells A 9)).drew.drew L x hi hAs hAl j (by omega)
        · rw [World.frozen?_setCells]
          show ((w.alloc (.cells A 9)).drew.setCells w.heap.size i [.string x]).frozen? _ = false
          rw [World.frozen?_setCells]
          exact new_frozen _ _ _ _
        · refine Below.trans ?_ (set_below hb)
          refine Below.drew ?_
          refine Below.trans ?_ (set_below hb)
          exact ((Below.refl base w).alloc hb _).drew
end Go.Proofs.YtpjmnnaiegdjmaaDoor
namespace Go.Proofs.YtpjmnnaiegdjmaaDoor
open Go.ChangeShapes Go.WideShapes Go.ChangeAt Go.RowKit Go.Deep
set_option linter.unusedVariables false
set_option maxRecDepth 100000

set_option maxHeartbeats 1000000 in
theorem ownTx (a : Option Addr) (cap : Nat) (L : List ByteArray) (w : World) (hN : L.length ≤ 1000) (hz : ∀ i, i < L.length → (tA L i).size ≤ 1048576) (h : Ta w a L) :
    Calls Tryd.prog 54 #[.slice a L.length cap] w fun e w' => ∃ v, e = .returned v ∧ Ost w.heap.size w' v L ∧ Below w.heap.size w w' := by
  have HR := hide h
  have HZ := hide hz
  clear h hz
  go_enter Tryd.func54, Tryd.ntmps54
  go_wp2
  go_loopw [3, 8] (fun v i wr => ∃ k : Nat, k ≤ L.length ∧ i = .int .i64 k ∧ Ost w.heap.size wr v (L.take k) ∧ Below w.heap.size w wr) (fun _ i _ => L.length - (intOf i).toNat)
  case atStart => exact ⟨0, Nat.zero_le _, rfl, Ost.nil _ _, Below.refl _ _⟩
  case round =>
    obtain ⟨k, hkl, rfl, hO, hbel⟩ := hrel
    by_cases hlt : k < L.length
    · rcases (unhide HR).kept hbel with h0 | ⟨b, off, rfl, hel⟩
      · omega
      have c0 := hel.c k hlt
      have hnk : (k : Int) < (L.length : Int) := by omega
      have HC := hide (clnT (tA L k) (unhide HZ k hlt))
      have HO := hide hO
      have HB := hide hbel
      have TK := hide (take_tA L k hlt)
      clear hel hO hbel
      have hlen : (L.take k).length = k := by rw [List.length_take]; omega
      generalize tA L k = D at *
      go_wp2_with fail
      refine (unhide HC _).mono ?_
      rintro e w2 ⟨rfl, b2⟩
      have B2 := hide ((unhide HB).trans (b2.mono (unhide HB).size))
      obtain ⟨v', w', hrun, hO', hg, _⟩ := appS (w2.alloc (.cells #[.string D] 9)) 25 w.heap.size u3 (L.take k) (((unhide HO).kept b2).kept ((Below.refl _ _).alloc (Nat.le_refl _) _)) (some ⟨w2.heap.size, 0, none⟩) 1 [D] (sc_txt w2 D _) (by rw [hlen]; show k + 1 ≤ _; omega) (by have := (unhide B2).size; simp; omega)
      have hrun' : (Builtin.append_ #[25, 25] 25 #[u3, .slice (some ⟨w2.heap.size, 0, none⟩) 1 1]).run Tryd.prog (w2.alloc (.cells #[.string D] 9)) = .ok v' w' := hrun
      rw [unhide TK] at hO'
      have HO2 := hide hO'
      have HB2 := hide (((unhide B2).alloc (unhide B2).size (.cells #[.string D] 9)).trans hg)
      have RUN := hide hrun'
      clear hrun hrun' hO' hg b2 HO HB HC TK B2
      go_wp2_with (at_builtin; refine wpl_app rfl _ _ 25 rfl _ _ _ _ rfl rfl (unhide RUN) ?_)
      exact ⟨⟨k + 1, by omega, by go_num, unhide HO2, unhide HB2⟩, by simp [intOf]; omega⟩
    · obtain rfl : k = L.length := by omega
      rw [List.take_length] at hO
      have HO := hide hO
      have HB := hide hbel
      clear hO hbel
      go_wp2
      go_ret
      exact ⟨_, rfl, unhide HO, unhide HB⟩
/-- the list without one -/
def drL (L : List ByteArray) (k : Nat) : List ByteArray := L.take k ++ L.drop (k + 1)
/-- whether DropBackend says yes -/
def dbB (L : List ByteArray) (x : ByteArray) : Bool := glB (tA L) L.length && hsP (tA L) x L.length
/-- what it answers -/
def dbM (L : List ByteArray) (x : ByteArray) : List ByteArray := if dbB L x = true then drL L (lnP (tA L) x L.length) else []
theorem hs_lt {F : Nat → ByteArray} {x : ByteArray} {n : Nat} (h : hsP F x n = true) : lnP F x n < n ∧ F (lnP F x n) = x := by
  unfold hsP at h
  rw [Bool.and_eq_true] at h
  exact ⟨of_decide_eq_true h.1, of_decide_eq_true h.2⟩
set_option maxHeartbeats 1000000 in
theorem implDb (a : Option Addr) (cap : Nat) (L : List ByteArray) (x : ByteArray) (w : World) (hN : L.length ≤ 1048576) (hz : ∀ i, i < L.length → (tA L i).size ≤ 1048576) (h : Ta w a L) :
    Calls Tryd.prog 24 #[.slice a L.length cap, .string x] w (Rs (dbM L x) (dbB L x) w) := by
  have HG := hide (implGL a L.length cap (tA L) w hN hz h)
  unfold dbM dbB
  cases hgl : glB (tA L) L.length with
  | false =>
    rw [hgl] at HG
    rw [Bool.false_and, if_neg Bool.false_ne_true]
    clear h hz hgl
    go_enter Tryd.func24, Tryd.ntmps24
    go_wp2_with fail
    refine (unhide HG).mono ?_
    rintro e w1 ⟨rfl, e1⟩
    subst w1
    go_wp2
    go_ret2
    exact Rs.none (Below.refl _ _)
  | true =>
    rw [hgl] at HG
    rw [Bool.true_and]
    have h12 := gl_12 hgl
    have HB := hide (implBS a L.length cap (tA L) x w hN hgl h)
    cases hhs : hsP (tA L) x L.length with
    | false =>
      rw [hhs] at HB
      rw [if_neg Bool.false_ne_true]
      clear h hz hgl hhs
      generalize lnP (tA L) x L.length = k at *
      go_enter Tryd.func24, Tryd.ntmps24
      go_wp2_with fail
      refine (unhide HG).mono ?_
      rintro e w1 ⟨rfl, e1⟩
      subst w1
      go_wp2_with fail
      refine (unhide HB).mono ?_
      rintro e w2 ⟨rfl, b2⟩
      have B2 := hide b2
      clear b2
      go_wp2
      go_ret2
      exact Rs.none (unhide B2)
    | true =>
      rw [hhs] at HB
      rw [if_pos rfl]
      have hk := (hs_lt hhs).1
      have HO := hide (fun W (q : Below w.heap.size w W) => ownTx a cap L W (by omega) hz (h.kept q))
      clear h hz hgl hhs
      unfold drL
      generalize lnP (tA L) x L.length = k at *
      have hl : Hid ((L.take k ++ L.drop (k + 1)).length ≤ L.length) := by show _ ≤ _; rw [List.length_append, List.length_take, List.length_drop]; omega
      have HD := hide (fun base v W hO => implDl base v L k W hk hO)
      generalize L.take k ++ L.drop (k + 1) = M at *
      have ek : IntKind.i64.wrap ((k : Int) + 1) = ((k + 1 : Nat) : Int) := by rw [wraps_i64 _ (by omega) (by omega)]; omega
      go_enter Tryd.func24, Tryd.ntmps24
      go_wp2_with fail
      refine (unhide HG).mono ?_
      rintro e w1 ⟨rfl, e1⟩
      subst w1
      go_wp2_with fail
      refine (unhide HB).mono ?_
      rintro e w2 ⟨rfl, b2⟩
      have B2 := hide b2
      clear b2
      go_wp2_with fail
      refine (unhide HO _ (unhide B2)).mono ?_
      rintro e w3 ⟨v, rfl, hO, b3⟩
      have HO3 := hide hO
      have B3 := hide ((unhide B2).trans (b3.mono (unhide B2).size))
      clear hO b3
      go_wp2_with fail
      refine (unhide HD _ _ _ (unhide HO3)).mono ?_
      rintro e w4 ⟨a4, c4, rfl, s4, b4⟩
      have S4 := hide (s4.from (unhide B2).size)
      have B4 := hide ((unhide B3).trans (b4.mono (unhide B2).size))
      clear s4 b4
      go_wp2
      go_ret2
      exact ⟨a4, c4, rfl, unhide S4, unhide B4⟩
theorem ost_lit0 (w : World) (base : Nat) (h : base ≤ w.heap.size) : Ost base (w.alloc (.cells #[] 9)) (.slice (some ⟨w.heap.size, 0, none⟩) 0 0) [] :=
  World.ownsRow_lit (base := base) (e := 9) (size := 1) w #[] 0 h (by unfold maxLen; omega) rfl
set_option maxHeartbeats 2000000 in
theorem specDb (a : Option Addr) (cap : Nat) (L : List ByteArray) (x : ByteArray) (w : World) (hN : L.length ≤ 1048576) (hcap : L.length ≤ cap) (hc63 : cap ≤ 9223372036854775807) (hz : ∀ i, i < L.length → (tA L i).size ≤ 1048576) (h : Ta w a L) :
    Calls Tryd.prog 25 #[.slice a L.length cap, .string x] w (Rs (dbM L x) (dbB L x) w) := by
  have HA := hide (specAt a L.length cap (tA L) x w hN h)
  have HG := hide (fun W (q : Below w.heap.size w W) => specGL a L.length cap (tA L) W hN hz (h.kept q))
  unfold dbM dbB
  cases hgl : glB (tA L) L.length with
  | false =>
    rw [hgl] at HG
    rw [Bool.false_and, if_neg Bool.false_ne_true]
    clear h hz hgl
    generalize lnP (tA L) x L.length = k at *
    generalize hsP (tA L) x L.length = b at *
    go_enter Tryd.func25, Tryd.ntmps25
    go_wp2_with fail
    refine (unhide HA).mono ?_
    rintro e w1 ⟨rfl, b1⟩
    have B1 := hide b1
    clear b1
    go_wp2_with fail
    refine (unhide HG _ (unhide B1)).mono ?_
    rintro e w2 ⟨rfl, e2⟩
    subst w2
    go_wp2
    go_ret2
    exact Rs.none (unhide B1)
  | true =>
    rw [hgl] at HG
    rw [Bool.true_and]
    have h12 := gl_12 hgl
    cases hhs : hsP (tA L) x L.length with
    | false =>
      rw [hhs] at HA
      rw [if_neg Bool.false_ne_true]
      clear h hz hgl hhs
      generalize lnP (tA L) x L.length = k at *
      go_enter Tryd.func25, Tryd.ntmps25
      go_wp2_with fail
      refine (unhide HA).mono ?_
      rintro e w1 ⟨rfl, b1⟩
      have B1 := hide b1
      clear b1
      go_wp2_with fail
      refine (unhide HG _ (unhide B1)).mono ?_
      rintro e w2 ⟨rfl, e2⟩
      subst w2
      go_wp2
      go_ret2
      exact Rs.none (unhide B1)
    | true =>
    rw [hhs] at HA
    rw [if_pos rfl]
    have hk := (hs_lt hhs).1
    have HH := hide h
    clear h hz hgl hhs
    unfold drL
    generalize lnP (tA L) x L.length = k at *
    have hw : IntKind.i64.wrap ((k : Int) + 1) = ((k + 1 : Nat) : Int) := by rw [wraps_i64 _ (by omega) (by omega)]; omega
    have hw2 : ((k + 1 : Nat) : Int) ≤ (L.length : Int) := by omega
    have hq1 : (0 : Int) ≤ (k : Int) + 1 := by omega
    have hq2 : (k : Int) + 1 ≤ (L.length : Int) := by omega
    have hic : (k : Int) ≤ (cap : Int) := by omega
    have hkI : (k : Int) ≤ (L.length : Int) := by omega
    go_enter Tryd.func25, Tryd.ntmps25
    go_wp2_with fail
    refine (unhide HA).mono ?_
    rintro e w1 ⟨rfl, b1⟩
    have B1 := hide b1
    clear b1
    go_wp2_with fail
    refine (unhide HG _ (unhide B1)).mono ?_
    rintro e w2 ⟨rfl, e2⟩
    subst w2
    rcases (unhide HH).kept (unhide B1) with h0 | ⟨b, o, rfl, hr⟩
    · omega
    obtain ⟨sa, hsa⟩ : ∃ sa, sa = (if cap = k + 1 then some (⟨b, o, none⟩ : Addr) else some ⟨b, o + (k + 1), none⟩) := ⟨_, rfl⟩
    have A0 : Below w1.heap.size w1 (w1.drew.alloc (.cells #[] 9)) := ((Below.refl w1.heap.size w1).drew).alloc (Nat.le_refl _) _
    have hl5 : (L.take k).length = k := by rw [List.length_take]; omega
    have hl6 : (L.drop (k + 1)).length = L.length - (k + 1) := by rw [List.length_drop]
    obtain ⟨v5, w5, hrun5, hO5, b5, hv5⟩ := appS (w1.drew.alloc (.cells #[] 9)) 25 w1.heap.size (.slice (some ⟨w1.heap.size, 0, none⟩) 0 0) [] (ost_lit0 w1.drew w1.heap.size (Nat.le_refl _)) (some ⟨b, o, none⟩) cap (L.take k) (by
      have h9 := (hr.kept A0).sc 0 (L.take k) (fun j hj => by rw [hl5] at hj; exact ⟨by omega, by rw [tA_take _ _ _ hj, Nat.zero_add]⟩)
      exact h9) (by rw [hl5]; show 0 + k ≤ _; omega) (by show w1.heap.size ≤ (w1.drew.alloc _).heap.size; simp)
    rw [List.nil_append] at hO5
    have A5 := A0.trans b5
    obtain ⟨v6, w6, hrun6, hO6, b6, hv6⟩ := appS w5 25 w1.heap.size v5 (L.take k) hO5 sa (cap - (k + 1)) (L.drop (k + 1)) (by
      rw [hsa]
      by_cases c9 : cap = k + 1
      · refine Or.inl ⟨by rw [hl6]; omega, ?_⟩
        rw [List.drop_eq_nil_of_le (by omega)]
        rfl
      · rw [if_neg c9]
        exact (hr.kept A5).sc (k + 1) (L.drop (k + 1)) (fun j hj => by rw [hl6] at hj; exact ⟨by omega, by rw [tA_drop]⟩)) (by rw [hl5, hl6]; omega) A5.size
    rw [hl5] at hrun5
    rw [hl6] at hrun6
    obtain ⟨a6, c6, e6, hc6, _, s6⟩ := hO6.form
    have FIN : Hid (L.take k ++ L.drop (k + 1) = L.take k ++ L.drop (k + 1) ∧ Sn w.heap.size w6 a6 (L.take k ++ L.drop (k + 1)).length (tA (L.take k ++ L.drop (k + 1))) ∧ Below w.heap.size w w6) := ⟨rfl, s6.from (unhide B1).size, (unhide B1).trans ((A5.trans b6).mono (unhide B1).size)⟩
    subst e6
    have RUN5 := hide hrun5
    have RUN6 := hide hrun6
    rw [hsa] at RUN6
    clear hrun5 hrun6 hO5 hO6 A0 A5 b5 b6 hr hc6 s6 hsa hv5 hv6 hl5 hl6
    generalize L.take k ++ L.drop (k + 1) = M at *
    go_upto_region 4 with fail
    -- REGION
    refine wp_region_noPanic ?_
    refine wp_region_held_drew (S := fun _ => True) (by kernel_rfl) trivial (fun hHeld => ?_)
    refine wpAnyH_take (i := 1) (v := ?_) rfl (by kernel_rfl) (by kernel_rfl) (by kernel_rfl) (fun _ _ _ h => h) (Or.inl ⟨by rfl, ?_⟩) hHeld ?_
    rotate_left
    · intro V hSw; go_simp; rfl
    simp only [Act.put, List.getElem_toArray, List.getElem_cons_succ, List.getElem_cons_zero, List.setIfInBounds_toArray, List.set_cons_zero, List.set_cons_succ]
    refine wpAnyH_take (i := 2) (v := ?_) rfl (by kernel_rfl) (by kernel_rfl) (by kernel_rfl) (fun _ _ _ h => h) (Or.inl ⟨by rfl, ?_⟩) hHeld ?_
    rotate_left
    · intro V hSw; go_simp; rfl
    simp only [Act.put, List.getElem_toArray, List.getElem_cons_succ, List.getElem_cons_zero, List.setIfInBounds_toArray, List.set_cons_zero, List.set_cons_succ]
    refine wpAnyH_take (i := 3) (v := ?_) rfl (by kernel_rfl) (by kernel_rfl) (by kernel_rfl) (fun _ _ _ h => h) (Or.inl ⟨by rfl, ?_⟩) hHeld ?_
    rotate_left
    · intro V hSw; go_simp; rfl
    simp only [Act.put, List.getElem_toArray, List.getElem_cons_succ, List.getElem_cons_zero, List.setIfInBounds_toArray, List.set_cons_zero, List.set_cons_succ]
    refine wpAnyH_take (i := 5) (v := ?_) rfl (by kernel_rfl) (by kernel_rfl) (by kernel_rfl) (fun _ _ _ h => h) (Or.inl ⟨by rfl, ?_⟩) hHeld ?_
    rotate_left
    · intro V hSw; go_simp; rfl
    simp only [Act.put, List.getElem_toArray, List.getElem_cons_succ, List.getElem_cons_zero, List.setIfInBounds_toArray, List.set_cons_zero, List.set_cons_succ]
    refine wpAnyH_take (i := 6) (v := ?_) rfl (by kernel_rfl) (by kernel_rfl) (by kernel_rfl) (fun _ _ _ h => h) (Or.inl ⟨by rfl, ?_⟩) hHeld ?_
    rotate_left
    · intro V hSw; go_simp; rfl
    simp only [Act.put, List.getElem_toArray, List.getElem_cons_succ, List.getElem_cons_zero, List.setIfInBounds_toArray, List.set_cons_zero, List.set_cons_succ]
    refine wpAnyH_take (i := 7) (v := ?_) rfl (by kernel_rfl) (by kernel_rfl) (by kernel_rfl) (fun _ _ _ h => h) (Or.inl ⟨by rfl, ?_⟩) hHeld ?_
    rotate_left
    · intro V hSw; go_simp; rfl
    simp only [Act.put, List.getElem_toArray, List.getElem_cons_succ, List.getElem_cons_zero, List.setIfInBounds_toArray, List.set_cons_zero, List.set_cons_succ]
    refine wpAnyH_take (i := 8) (v := ?_) rfl (by kernel_rfl) (by kernel_rfl) (by kernel_rfl) (fun _ _ _ h => h) (Or.inl ⟨by rfl, ?_⟩) hHeld ?_
    rotate_left
    · intro V hSw; go_simp; rfl
    simp only [Act.put, List.getElem_toArray, List.getElem_cons_succ, List.getElem_cons_zero, List.setIfInBounds_toArray, List.set_cons_zero, List.set_cons_succ]
    refine wpAnyH_ready (rs := [0]) (by kernel_rfl) (by simp) ?_
    refine AllReadyH.cons rfl (fun K hK => ?_) AllReadyH.nil
    go_simp
    refine hK.out _ _ (trivial) (fun hHeld => ?_)
    clear hK K
    try simp only [Act.put, List.getElem_toArray, List.getElem_cons_succ, List.getElem_cons_zero, List.setIfInBounds_toArray, List.set_cons_zero, List.set_cons_succ]
    refine wpAnyH_ready (rs := [4]) (by kernel_rfl) (by simp) ?_
    refine AllReadyH.cons rfl (fun K hK => ?_) AllReadyH.nil
    refine stp_app rfl _ _ 25 rfl _ _ _ _ rfl rfl (unhide RUN5) ?_
    refine hK.out _ _ (trivial) (fun hHeld => ?_)
    clear hK K
    try simp only [Act.put, List.getElem_toArray, List.getElem_cons_succ, List.getElem_cons_zero, List.setIfInBounds_toArray, List.set_cons_zero, List.set_cons_succ]
    refine wpAnyH_ready (rs := [9]) (by kernel_rfl) (by simp) ?_
    refine AllReadyH.cons rfl (fun K hK => ?_) AllReadyH.nil
    refine stp_app rfl _ _ 25 rfl _ _ _ _ rfl rfl (unhide RUN6) ?_
    refine hK.out _ _ (trivial) (fun hHeld => ?_)
    clear hK K
    try simp only [Act.put, List.getElem_toArray, List.getElem_cons_succ, List.getElem_cons_zero, List.setIfInBounds_toArray, List.set_cons_zero, List.set_cons_succ]
    refine wpAnyH_take (i := 10) (v := ?_) rfl (by kernel_rfl) (by kernel_rfl) (by kernel_rfl) (fun _ _ _ h => h) (Or.inl ⟨by rfl, ?_⟩) hHeld ?_
    rotate_left
    · intro V hSw; go_simp; rfl
    simp only [Act.put, List.getElem_toArray, List.getElem_cons_succ, List.getElem_cons_zero, List.setIfInBounds_toArray, List.set_cons_zero, List.set_cons_succ]
    refine wpAnyH_take (i := 11) (v := ?_) rfl (by kernel_rfl) (by kernel_rfl) (by kernel_rfl) (fun _ _ _ h => h) (Or.inl ⟨by rfl, ?_⟩) hHeld ?_
    rotate_left
    · intro V hSw; go_simp; rfl
    simp only [Act.put, List.getElem_toArray, List.getElem_cons_succ, List.getElem_cons_zero, List.setIfInBounds_toArray, List.set_cons_zero, List.set_cons_succ]
    refine wpAnyH_done (by kernel_rfl) ?_ _
    refine NoPanic.normal ?_
    clear hHeld
    -- END
    go_wp2
    all_goals
      go_ret2
      exact ⟨a6, c6, rfl, (unhide FIN).2⟩
end Go.Proofs.YtpjmnnaiegdjmaaDoor
namespace Go.Proofs.YtpjmnnaiegdjmaaDoor
open Go.ChangeShapes Go.WideShapes Go.ChangeAt Go.RowKit Go.Deep
set_option linter.unusedVariables false
set_option maxRecDepth 100000

theorem heap_new (w : World) (o : Obj) : (w.alloc o).heap[w.heap.size]? = some o := by
  unfold World.alloc
  exact Array.getElem?_push_size
/-- whether AddBackend says yes -/
def abB (L : List ByteArray) (x : ByteArray) : Bool := glB (tA L) L.length && !decide (L.length = 12) && bkB x && !hsP (tA L) x L.length
/-- what it answers -/
def abM (L : List ByteArray) (x : ByteArray) : List ByteArray := if abB L x = true then insL L (lnP (tA L) x L.length) x else []
theorem ab_no {L : List ByteArray} {x : ByteArray} (h : abB L x = false) : abM L x = [] := by unfold abM; rw [h]; rfl
theorem ab_yes {L : List ByteArray} {x : ByteArray} (h : abB L x = true) : abM L x = insL L (lnP (tA L) x L.length) x := by unfold abM; rw [h]; rfl
theorem ab_0 {L : List ByteArray} {x : ByteArray} (h : glB (tA L) L.length = false) : abB L x = false := by unfold abB; rw [h]; rfl
theorem ab_1 {L : List ByteArray} {x : ByteArray} (h : L.length = 12) : abB L x = false := by unfold abB; rw [decide_eq_true h]; simp
theorem ab_2 {L : List ByteArray} {x : ByteArray} (h : bkB x = false) : abB L x = false := by unfold abB; rw [h]; simp
theorem ab_3 {L : List ByteArray} {x : ByteArray} (h : hsP (tA L) x L.length = true) : abB L x = false := by unfold abB; rw [h]; simp
theorem ab_y {L : List ByteArray} {x : ByteArray} (h0 : glB (tA L) L.length = true) (h1 : ¬ L.length = 12) (h2 : bkB x = true) (h3 : hsP (tA L) x L.length = false) : abB L x = true := by
  unfold abB; rw [h0, decide_eq_false h1, h2, h3]; rfl
set_option maxHeartbeats 1000000 in
theorem implAb (a : Option Addr) (cap : Nat) (L : List ByteArray) (x : ByteArray) (w : World) (hN : L.length ≤ 1048576) (hz : ∀ i, i < L.length → (tA L i).size ≤ 1048576) (hx : x.size ≤ 1048576) (h : Ta w a L) :
    Calls Tryd.prog 27 #[.slice a L.length cap, .string x] w (Rs (abM L x) (abB L x) w) := by
  have HG := hide (implGL a L.length cap (tA L) w hN hz h)
  have HX := hide (fun W => implGB x W (by unfold maxLen; omega))
  cases hgl : glB (tA L) L.length with
  | false =>
    rw [ab_no (ab_0 hgl), ab_0 hgl]
    rw [hgl] at HG
    clear h hz hgl
    go_enter Tryd.func27, Tryd.ntmps27
    go_wp2_with fail
    refine (unhide HG).mono ?_
    rintro e w1 ⟨rfl, e1⟩
    subst w1
    go_wp2
    go_ret2
    exact Rs.none (Below.refl _ _)
  | true =>
    rw [hgl] at HG
    have h12 := gl_12 hgl
    by_cases hl : L.length = 12
    · rw [ab_no (ab_1 hl), ab_1 hl]
      clear h hz hgl
      have hb : ((L.length : Int) == 12) = true := beq_iff_eq.2 (by omega)
      clear hl
      go_enter Tryd.func27, Tryd.ntmps27
      go_wp2_with fail
      refine (unhide HG).mono ?_
      rintro e w1 ⟨rfl, e1⟩
      subst w1
      go_wp2
      go_ret2
      exact Rs.none (Below.refl _ _)
    have hb : ((L.length : Int) == 12) = false := beq_eq_false_iff_ne.2 (by omega)
    cases hbk : bkB x with
    | false =>
      rw [ab_no (ab_2 hbk), ab_2 hbk]
      rw [hbk] at HX
      clear h hz hgl hbk
      go_enter Tryd.func27, Tryd.ntmps27
      go_wp2_with fail
      refine (unhide HG).mono ?_
      rintro e w1 ⟨rfl, e1⟩
      subst w1
      go_wp2_with fail
      refine (unhide HX _).mono ?_
      rintro e w1 ⟨rfl, e1⟩
      subst w1
      go_wp2
      go_ret2
      exact Rs.none (Below.refl _ _)
    | true =>
    rw [hbk] at HX
    have HB := hide (implBS a L.length cap (tA L) x w hN hgl h)
    cases hhs : hsP (tA L) x L.length with
    | true =>
      rw [ab_no (ab_3 hhs), ab_3 hhs]
      rw [hhs] at HB
      clear h hz hgl hbk hhs
      generalize lnP (tA L) x L.length = k at *
      go_enter Tryd.func27, Tryd.ntmps27
      go_wp2_with fail
      refine (unhide HG).mono ?_
      rintro e w1 ⟨rfl, e1⟩
      subst w1
      go_wp2_with fail
      refine (unhide HX _).mono ?_
      rintro e w1 ⟨rfl, e1⟩
      subst w1
      go_wp2_with fail
      refine (unhide HB).mono ?_
      rintro e w2 ⟨rfl, b2⟩
      have B2 := hide b2
      clear b2
      go_wp2
      go_ret2
      exact Rs.none (unhide B2)
    | false =>
    have hy := ab_y hgl hl hbk hhs
    rw [ab_yes hy, hy]
    rw [hhs] at HB
    have hk := (lnP_is (tA L) x L.length).1
    have HO := hide (fun W (q : Below w.heap.size w W) => ownTx a cap L W (by omega) hz (h.kept q))
    have HC := hide (clnT x hx)
    clear h hz hgl hbk hhs hy
    generalize lnP (tA L) x L.length = k at *
    have HI := hide (fun base vb v W hO hb hX hne => implIn base vb v L k x W (by omega) hk hO hb hX hne)
    generalize insL L k x = M at *
    go_enter Tryd.func27, Tryd.ntmps27
    go_wp2_with fail
    refine (unhide HG).mono ?_
    rintro e w1 ⟨rfl, e1⟩
    subst w1
    go_wp2_with fail
    refine (unhide HX _).mono ?_
    rintro e w1 ⟨rfl, e1⟩
    subst w1
    go_wp2_with fail
    refine (unhide HB).mono ?_
    rintro e w2 ⟨rfl, b2⟩
    have B2 := hide b2
    clear b2
    go_wp2_with fail
    refine (unhide HO _ (unhide B2)).mono ?_
    rintro e w3 ⟨v, rfl, hO, b3⟩
    have HO3 := hide hO
    have B3 := hide ((unhide B2).trans (b3.mono (unhide B2).size))
    have hz23 := b3.size
    clear hO b3
    go_wp2_with fail
    refine (unhide HC _).mono ?_
    rintro e w4 ⟨rfl, b4⟩
    have hz34 := b4.size
    have HO4 := hide ((unhide HO3).kept b4)
    have HO5 := hide ((unhide HO4).kept ((Below.refl _ _).alloc (Nat.le_refl _) (.cells #[.string x] 9)))
    have B4 := hide ((unhide B3).trans (b4.mono (unhide B3).size))
    have B5 := hide ((unhide B4).alloc (unhide B4).size (.cells #[.string x] 9))
    clear b4
    go_wp2_with fail
    refine (unhide HI w2.heap.size w4.heap.size v _ (unhide HO5) (by simp; omega) (heap_new _ _) (fun g e => Nat.ne_of_gt (World.ownsRow.lt (unhide HO4) g e).2)).mono ?_
    rintro e w6 ⟨a6, c6, rfl, s6, b6⟩
    have S6 := hide (s6.from (unhide B2).size)
    have B6 := hide ((unhide B5).trans (b6.mono (unhide B2).size))
    clear s6 b6
    go_wp2
    go_ret2
    exact ⟨a6, c6, rfl, unhide S6, unhide B6⟩
set_option maxHeartbeats 2000000 in
theorem specAb (a : Option Addr) (cap : Nat) (L : List ByteArray) (x : ByteArray) (w : World) (hN : L.length ≤ 1048576) (hcap : L.length ≤ cap) (hc63 : cap ≤ 9223372036854775807) (ha : a = none ∧ cap = 0 ∨ ∃ b o, a = some ⟨b, o, none⟩) (hz : ∀ i, i < L.length → (tA L i).size ≤ 1048576) (hx : x.size ≤ 1048576) (h : Ta w a L) :
    Calls Tryd.prog 28 #[.slice a L.length cap, .string x] w (Rs (abM L x) (abB L x) w) := by
  have HA := hide (specAt a L.length cap (tA L) x w hN h)
  have HG := hide (fun W (q : Below w.heap.size w W) => specGL a L.length cap (tA L) W hN hz (h.kept q))
  have HX := hide (fun W => specBk x W (by unfold maxLen; omega))
  cases hgl : glB (tA L) L.length with
  | false =>
    rw [ab_no (ab_0 hgl), ab_0 hgl]
    rw [hgl] at HG
    clear h hz hgl
    generalize lnP (tA L) x L.length = k at *
    generalize hsP (tA L) x L.length = b at *
    go_enter Tryd.func28, Tryd.ntmps28
    go_wp2_with fail
    refine (unhide HA).mono ?_
    rintro e w1 ⟨rfl, b1⟩
    have B1 := hide b1
    clear b1
    go_wp2_with fail
    refine (unhide HG _ (unhide B1)).mono ?_
    rintro e w2 ⟨rfl, e2⟩
    subst w2
    go_wp2
    go_ret2
    exact Rs.none (unhide B1)
  | true =>
    rw [hgl] at HG
    have h12 := gl_12 hgl
    cases hhs : hsP (tA L) x L.length with
    | true =>
      rw [ab_no (ab_3 hhs), ab_3 hhs]
      rw [hhs] at HA
      clear h hz hgl hhs
      generalize lnP (tA L) x L.length = k at *
      go_enter Tryd.func28, Tryd.ntmps28
      go_wp2_with fail
      refine (unhide HA).mono ?_
      rintro e w1 ⟨rfl, b1⟩
      have B1 := hide b1
      clear b1
      go_wp2_with fail
      refine (unhide HG _ (unhide B1)).mono ?_
      rintro e w2 ⟨rfl, e2⟩
      subst w2
      go_wp2
      go_ret2
      exact Rs.none (unhide B1)
    | false =>
    rw [hhs] at HA
    cases hbk : bkB x with
    | false =>
      rw [ab_no (ab_2 hbk), ab_2 hbk]
      rw [hbk] at HX
      clear h hz hgl hbk hhs
      generalize lnP (tA L) x L.length = k at *
      go_enter Tryd.func28, Tryd.ntmps28
      go_wp2_with fail
      refine (unhide HA).mono ?_
      rintro e w1 ⟨rfl, b1⟩
      have B1 := hide b1
      clear b1
      go_wp2_with fail
      refine (unhide HG _ (unhide B1)).mono ?_
      rintro e w2 ⟨rfl, e2⟩
      subst w2
      go_wp2_with fail
      refine (unhide HX _).mono ?_
      rintro e w2 ⟨rfl, e2⟩
      subst w2
      go_wp2
      go_ret2
      exact Rs.none (unhide B1)
    | true =>
    rw [hbk] at HX
    by_cases hl : L.length = 12
    · rw [ab_no (ab_1 hl), ab_1 hl]
      clear h hz hgl hhs hbk
      have hb : ((L.length : Int) == 12) = true := beq_iff_eq.2 (by omega)
      clear hl
      generalize lnP (tA L) x L.length = k at *
      go_enter Tryd.func28, Tryd.ntmps28
      go_wp2_with fail
      refine (unhide HA).mono ?_
      rintro e w1 ⟨rfl, b1⟩
      have B1 := hide b1
      clear b1
      go_wp2_with fail
      refine (unhide HG _ (unhide B1)).mono ?_
      rintro e w2 ⟨rfl, e2⟩
      subst w2
      go_wp2_with fail
      refine (unhide HX _).mono ?_
      rintro e w2 ⟨rfl, e2⟩
      subst w2
      go_wp2
      go_ret2
      exact Rs.none (unhide B1)
    have hb : ((L.length : Int) == 12) = false := beq_eq_false_iff_ne.2 (by omega)
    have hy := ab_y hgl hl hbk hhs
    rw [ab_yes hy, hy]
    have hk := (lnP_is (tA L) x L.length).1
    have HH := hide h
    clear h hz hgl hbk hhs hy
    unfold insL
    generalize lnP (tA L) x L.length = k at *
    have hkI : (k : Int) ≤ (L.length : Int) := by omega
    have hic : (k : Int) ≤ (cap : Int) := by omega
    go_enter Tryd.func28, Tryd.ntmps28
    go_wp2_with fail
    refine (unhide HA).mono ?_
    rintro e w1 ⟨rfl, b1⟩
    have B1 := hide b1
    clear b1
    go_wp2_with fail
    refine (unhide HG _ (unhide B1)).mono ?_
    rintro e w2 ⟨rfl, e2⟩
    subst w2
    go_wp2_with fail
    refine (unhide HX _).mono ?_
    rintro e w2 ⟨rfl, e2⟩
    subst w2
    have hh := (unhide HH).kept (unhide B1)
    obtain ⟨sa, hsa⟩ : ∃ sa, sa = (if cap = k then a else a.map (fun p => p.add k)) := ⟨_, rfl⟩
    have hl5 : (L.take k).length = k := by rw [List.length_take]; omega
    have hl6 : (L.drop k).length = L.length - k := by rw [List.length_drop]
    have sc5 : Sc w1 a (L.take k).length (tC (L.take k)) := by
      rcases hh with h0 | ⟨b, o, rfl, hr⟩
      · obtain rfl : L = [] := List.length_eq_zero_iff.1 h0
        exact Or.inl ⟨by simp, by simp [tC]⟩
      · exact hr.sc 0 (L.take k) (fun j hj => by rw [hl5] at hj; exact ⟨by omega, by rw [tA_take _ _ _ hj, Nat.zero_add]⟩)
    obtain ⟨v5, w5, hrun5, hO5, b5, _⟩ := appS w1 25 w1.heap.size (.slice none 0 0) [] (Ost.nil _ _) a cap (L.take k) sc5 (by rw [hl5]; show 0 + k ≤ _; omega) (Nat.le_refl _)
    rw [List.nil_append] at hO5
    have A5 : Below w1.heap.size w1 (w5.alloc (.cells #[.string x] 9)) := b5.alloc b5.size _
    obtain ⟨v6, w6, hrun6, hO6, b6, _⟩ := appS (w5.alloc (.cells #[.string x] 9)) 25 w1.heap.size v5 (L.take k) (hO5.kept ((Below.refl _ _).alloc (Nat.le_refl _) _)) (some ⟨w5.heap.size, 0, none⟩) 1 [x] (sc_txt w5 x _) (by rw [hl5]; show k + 1 ≤ _; omega) A5.size
    have A6 := A5.trans b6
    have sc7 : Sc w6 sa (L.drop k).length (tC (L.drop k)) := by
      rw [hsa]
      rcases hh.kept A6 with h0 | ⟨b, o, rfl, hr⟩
      · obtain rfl : L = [] := List.length_eq_zero_iff.1 h0
        exact Or.inl ⟨by simp, by simp [tC]⟩
      · by_cases c9 : cap = k
        · refine Or.inl ⟨by rw [hl6]; omega, ?_⟩
          rw [List.drop_eq_nil_of_le (by omega)]
          rfl
        · rw [if_neg c9]
          have h9 := hr.sc k (L.drop k) (fun j hj => by rw [hl6] at hj; exact ⟨by omega, by rw [tA_drop]⟩)
          show Sc w6 (some ((⟨b, o, none⟩ : Addr).add k)) _ _
          rw [add_non]
          exact h9
    obtain ⟨v7, w7, hrun7, hO7, b7, _⟩ := appS w6 25 w1.heap.size v6 (L.take k ++ [x]) hO6 sa (cap - k) (L.drop k) sc7 (by rw [List.length_append, hl5, hl6]; simp; omega) A6.size
    have A7 := A6.trans b7
    rw [hl5] at hrun5
    rw [hl6] at hrun7
    obtain ⟨a7, c7, e7, hc7, _, s7⟩ := hO7.form
    have FIN : Hid (Sn w.heap.size w7 a7 (L.take k ++ [x] ++ L.drop k).length (tA (L.take k ++ [x] ++ L.drop k)) ∧ Below w.heap.size w w7) := ⟨s7.from (unhide B1).size, (unhide B1).trans (A7.mono (unhide B1).size)⟩
    subst e7
    have RUN5 := hide hrun5
    have RUN6 : Hid ((Builtin.append_ #[25, 25] 25 #[v5, .slice (some ⟨w5.heap.size, 0, none⟩) 1 1]).run Tryd.prog (w5.alloc (.cells #[.string x] 9)) = .ok v6 w6) := hrun6
    have RUN7 := hide hrun7
    clear hrun5 hrun6 hrun7 hO5 hO6 hO7 A5 A6 A7 b5 b6 b7 hc7 s7 hl5 hl6 sc5 sc7
    generalize L.take k ++ [x] ++ L.drop k = M at *
    clear hh
    rcases ha with ⟨rfl, hc0⟩ | ⟨b, o, rfl⟩
    · obtain rfl : k = 0 := by omega
      obtain rfl : L = [] := List.length_eq_zero_iff.1 (by omega)
      subst hc0
      have e8 : Hid (sa = none) := by
        show _ = _
        rw [hsa, if_pos rfl]
      rw [unhide e8] at RUN7
      clear hsa
      go_wp2_with (first | (at_builtin; refine wpl_app rfl _ _ 25 rfl _ _ _ _ rfl rfl (unhide RUN5) ?_) | (at_builtin; refine wpl_app rfl _ _ 25 rfl _ _ _ _ rfl rfl (unhide RUN6) ?_) | (at_builtin; refine wpl_app rfl _ _ 25 rfl _ _ _ _ rfl rfl (unhide RUN7) ?_))
      all_goals
        go_ret2
        exact ⟨a7, c7, rfl, unhide FIN⟩
    · have e8 : Hid (sa = if cap = k then some (⟨b, o, none⟩ : Addr) else some ⟨b, o + k, none⟩) := by
        show _ = _
        rw [hsa]
        by_cases c9 : cap = k
        · rw [if_pos c9, if_pos c9]
        · rw [if_neg c9, if_neg c9]
          show some ((⟨b, o, none⟩ : Addr).add k) = _
          rw [add_non]
      rw [unhide e8] at RUN7
      clear hsa
      go_wp2_with (first | (at_builtin; refine wpl_app rfl _ _ 25 rfl _ _ _ _ rfl rfl (unhide RUN5) ?_) | (at_builtin; refine wpl_app rfl _ _ 25 rfl _ _ _ _ rfl rfl (unhide RUN6) ?_) | (at_builtin; refine wpl_app rfl _ _ 25 rfl _ _ _ _ rfl rfl (unhide RUN7) ?_))
      all_goals
        go_ret2
        exact ⟨a7, c7, rfl, unhide FIN⟩
theorem dbM_len (L : List ByteArray) (x : ByteArray) : (dbM L x).length ≤ 12 := by
  unfold dbM
  by_cases h : dbB L x = true
  · rw [if_pos h]
    unfold dbB at h
    rw [Bool.and_eq_true] at h
    have := gl_12 h.1
    unfold drL
    rw [List.length_append, List.length_take, List.length_drop]
    omega
  · rw [if_neg h]; exact Nat.zero_le _
theorem abM_len (L : List ByteArray) (x : ByteArray) : (abM L x).length ≤ 13 := by
  by_cases h : abB L x = true
  · rw [ab_yes h]
    unfold abB at h
    rw [Bool.and_eq_true, Bool.and_eq_true, Bool.and_eq_true] at h
    have := gl_12 h.1.1.1
    rw [insL_len L _ x (lnP_is (tA L) x L.length).1]
    omega
  · rw [ab_no (Bool.eq_false_iff.2 h)]; exact Nat.zero_le _
end Go.Proofs.YtpjmnnaiegdjmaaDoor
namespace Go.Proofs.YtpjmnnaiegdjmaaDoor
open Go.ChangeShapes Go.WideShapes Go.ChangeAt Go.RowKit
set_option linter.unusedVariables false

theorem bl_tri : ∀ x y : List UInt8, Go.Op.bytesLess x y = false → Go.Op.bytesLess y x = false → x = y
  | [], [], _, _ => rfl
  | [], _ :: _, h, _ => by simp [Go.Op.bytesLess] at h
  | _ :: _, [], _, h => by simp [Go.Op.bytesLess] at h
  | a :: x, b :: y, h1, h2 => by
    rw [Go.Op.bytesLess, Bool.or_eq_false_iff] at h1 h2
    have n1 := of_decide_eq_false h1.1
    have n2 := of_decide_eq_false h2.1
    have e : a = b := UInt8.le_antisymm (UInt8.not_lt.1 n2) (UInt8.not_lt.1 n1)
    subst e
    rw [beq_self_eq_true, Bool.true_and] at h1 h2
    rw [bl_tri x y h1.2 h2.2]
theorem lsT_tri {x y : ByteArray} (h1 : lsT x y = false) (h2 : lsT y x = false) : x = y := tl_inj (bl_tri _ _ h1 h2)
theorem okV_mk (F : Nat → ByteArray) : ∀ n, (∀ i, i < n → bkB (F i) = true) → (∀ i, i + 1 < n → lsT (F i) (F (i + 1)) = true) → okV F n = true
  | 0, _, _ => rfl
  | n + 1, h1, h2 => by
    rw [okV, okV_mk F n (fun i hi => h1 i (by omega)) (fun i hi => h2 i (by omega)), Bool.true_and]
    unfold okB
    rw [h1 n (by omega), Bool.true_and]
    by_cases e : n = 0
    · rw [decide_eq_true e, Bool.true_or]
    · obtain ⟨m, rfl⟩ : ∃ m, n = m + 1 := ⟨n - 1, by omega⟩
      rw [Nat.add_sub_cancel, h2 m (by omega), Bool.or_true]
theorem gl_mk {F : Nat → ByteArray} {n : Nat} (h0 : n ≤ 12) (h1 : ∀ i, i < n → bkB (F i) = true) (h2 : ∀ i, i + 1 < n → lsT (F i) (F (i + 1)) = true) : glB F n = true := by
  unfold glB
  rw [decide_eq_true h0, okV_mk F n h1 h2]
  rfl
theorem gl_inj {F : Nat → ByteArray} {n : Nat} (h : glB F n = true) {i j : Nat} (hi : i < n) (hj : j < n) (e : F i = F j) : i = j := by
  by_cases h1 : i < j
  · have := gl_lt h h1 hj
    rw [e, lsT_irr] at this
    cases this
  by_cases h2 : j < i
  · have := gl_lt h h2 hi
    rw [e, lsT_irr] at this
    cases this
  omega
/-! ### one less -/
theorem drL_len (L : List ByteArray) (k : Nat) (h : k < L.length) : (drL L k).length = L.length - 1 := by
  unfold drL
  rw [List.length_append, List.length_take, List.length_drop]
  omega
theorem drL_at (L : List ByteArray) (k i : Nat) (h : k < L.length) : tA (drL L k) i = if i < k then tA L i else tA L (i + 1) := by
  unfold drL
  by_cases c : i < k
  · rw [if_pos c, tA_app_l _ _ _ (by rw [List.length_take]; omega), tA_take _ _ _ c]
  · rw [if_neg c]
    unfold tA
    rw [List.getD, List.getElem?_append_right (by rw [List.length_take]; omega), List.length_take, List.getElem?_drop, List.getD, show k + 1 + (i - min k L.length) = i + 1 by omega]
theorem gl_dr {L : List ByteArray} (h : glB (tA L) L.length = true) {k : Nat} (hk : k < L.length) : glB (tA (drL L k)) (drL L k).length = true := by
  have h12 := gl_12 h
  rw [drL_len L k hk]
  refine gl_mk (by omega) (fun i hi => ?_) (fun i hi => ?_)
  · rw [drL_at L k i hk]
    split
    · exact gl_bk h (by omega)
    · exact gl_bk h (by omega)
  · rw [drL_at L k i hk, drL_at L k (i + 1) hk]
    by_cases c1 : i < k
    · by_cases c2 : i + 1 < k
      · rw [if_pos c1, if_pos c2]; exact gl_lt h (by omega) (by omega)
      · rw [if_pos c1, if_neg c2]; exact gl_lt h (by omega) (by omega)
    · rw [if_neg c1, if_neg (by omega)]; exact gl_lt h (by omega) (by omega)
theorem pk_is (F : Nat → ByteArray) (key : ByteArray) (n : Nat) (h : 0 < n) : IsT F key n (pkI F key (n - 1)) := by
  have := pkI_is F key (n - 1)
  rw [show n - 1 + 1 = n by omega] at this
  exact this
/-- who is picked when another one goes -/
theorem pk_dr {L : List ByteArray} (key : ByteArray) {k : Nat} (hk : k < L.length) (h1 : 1 < L.length) (hne : pkI (tA L) key (L.length - 1) ≠ k) : pkT (tA (drL L k)) key (drL L k).length = pkT (tA L) key L.length := by
  obtain ⟨a, b, c⟩ := pk_is (tA L) key L.length (by omega)
  obtain ⟨i, hi⟩ : ∃ i, i = pkI (tA L) key (L.length - 1) := ⟨_, rfl⟩
  rw [← hi] at a b c hne
  have hl := drL_len L k hk
  obtain ⟨j, hj⟩ : ∃ j, j = if i < k then i else i - 1 := ⟨_, rfl⟩
  have hat : tA (drL L k) j = tA L i := by
    rw [drL_at L k j hk, hj]
    by_cases q : i < k
    · rw [if_pos q, if_pos q]
    · rw [if_neg q, if_neg (by omega)]
      congr 1
      omega
  have hT : IsT (tA (drL L k)) key (drL L k).length j := by
    refine ⟨by rw [hl, hj]; split <;> omega, fun q hq => ?_, fun q hq => ?_⟩
    · rw [hat, drL_at L k q hk]
      split
      · exact b _ (by omega)
      · exact b _ (by omega)
    · rw [hat, drL_at L k q hk]
      split
      · refine c _ ?_
        rw [hj] at hq
        split at hq <;> omega
      · refine c _ ?_
        rw [hj] at hq
        split at hq <;> omega
  have hu := (pk_is (tA (drL L k)) key (drL L k).length (by omega)).uniq hT
  unfold pkT
  rw [hu, hat, hi]
/-- who is picked of the others is another one -/
theorem pk_dr_ne {L : List ByteArray} (h : glB (tA L) L.length = true) (key : ByteArray) {k : Nat} (hk : k < L.length) (h1 : 1 < L.length) : pkT (tA (drL L k)) key (drL L k).length ≠ tA L k := by
  have hl := drL_len L k hk
  have hp := pkI_le (tA (drL L k)) key ((drL L k).length - 1)
  unfold pkT
  rw [drL_at L k _ hk]
  intro e
  split at e
  · have := gl_inj h (by omega) hk e
    omega
  · have := gl_inj h (by omega) hk e
    omega
/-! ### one more -/
theorem insL_any (L : List ByteArray) (k i : Nat) (x : ByteArray) (hk : k ≤ L.length) : tA (insL L k x) i = if i < k then tA L i else if i = k then x else tA L (i - 1) := by
  by_cases c : i < k
  · rw [if_pos c, insL_lo L k i x hk c]
  · rw [if_neg c]
    by_cases e : i = k
    · rw [if_pos e, e, insL_at L k x hk]
    · rw [if_neg e]
      obtain ⟨j, rfl⟩ : ∃ j, i = k + 1 + j := ⟨i - (k + 1), by omega⟩
      rw [insL_hi L k j x hk]
      congr 1
      omega
theorem gl_ins {L : List ByteArray} {x : ByteArray} (h : abB L x = true) : glB (tA (insL L (lnP (tA L) x L.length) x)) (insL L (lnP (tA L) x L.length) x).length = true := by
  unfold abB at h
  rw [Bool.and_eq_true, Bool.and_eq_true, Bool.and_eq_true] at h
  obtain ⟨⟨⟨hg, h12⟩, hb⟩, hs⟩ := h
  have n12 := gl_12 hg
  have hn : ¬ L.length = 12 := by
    rw [Bool.not_eq_true'] at h12
    exact of_decide_eq_false h12
  obtain ⟨p1, p2, p3⟩ := lnP_is (tA L) x L.length
  have hne : lnP (tA L) x L.length < L.length → lsT x (tA L (lnP (tA L) x L.length)) = true := fun hl => by
    cases q : lsT x (tA L (lnP (tA L) x L.length)) with
    | true => rfl
    | false =>
      have e := lsT_tri q (p3 hl)
      unfold hsP at hs
      rw [decide_eq_true hl, decide_eq_true e.symm] at hs
      cases hs
  generalize lnP (tA L) x L.length = k at *
  rw [insL_len L k x p1]
  refine gl_mk (by omega) (fun i hi => ?_) (fun i hi => ?_)
  · rw [insL_any L k i x p1]
    split
    · exact gl_bk hg (by omega)
    · split
      · exact hb
      · exact gl_bk hg (by omega)
  · rw [insL_any L k i x p1, insL_any L k (i + 1) x p1]
    by_cases c1 : i + 1 < k
    · rw [if_pos (by omega), if_pos c1]; exact gl_lt hg (by omega) (by omega)
    · by_cases c2 : i + 1 = k
      · rw [if_pos (by omega), if_neg c1, if_pos c2]; exact p2 i (by omega)
      · by_cases c3 : i = k
        · rw [if_neg (by omega), if_pos c3, if_neg c1, if_neg c2, Nat.add_sub_cancel, c3]
          exact hne (by omega)
        · rw [if_neg (by omega), if_neg c3, if_neg c1, if_neg c2]
          exact gl_lt hg (by omega) (by omega)
/-- who is picked when one comes: it, or the one of before -/
theorem pk_ins {L : List ByteArray} (key x : ByteArray) {k : Nat} (hk : k ≤ L.length) : pkT (tA (insL L k x)) key (insL L k x).length = x ∨ 0 < L.length ∧ pkT (tA (insL L k x)) key (insL L k x).length = pkT (tA L) key L.length := by
  have hl := insL_len L k x hk
  obtain ⟨a, b, c⟩ := pk_is (tA (insL L k x)) key (insL L k x).length (by omega)
  unfold pkT
  generalize pkI (tA (insL L k x)) key ((insL L k x).length - 1) = i at *
  by_cases e : i = k
  · left
    rw [insL_any L k i x hk, if_neg (by omega), if_pos e]
  · right
    refine ⟨by omega, ?_⟩
    obtain ⟨j, hj⟩ : ∃ j, j = if i < k then i else i - 1 := ⟨_, rfl⟩
    have hat : tA (insL L k x) i = tA L j := by
      rw [insL_any L k i x hk, hj]
      by_cases q : i < k
      · rw [if_pos q, if_pos q]
      · rw [if_neg q, if_neg e, if_neg q]
    have up : ∀ q, q < L.length → ∃ q', q' < (insL L k x).length ∧ tA (insL L k x) q' = tA L q ∧ (q < j → q' < i) := fun q hq => by
      by_cases c1 : q < k
      · exact ⟨q, by omega, by rw [insL_any L k q x hk, if_pos c1], fun h => by rw [hj] at h; split at h <;> omega⟩
      · exact ⟨q + 1, by omega, by rw [insL_any L k (q + 1) x hk, if_neg (by omega), if_neg (by omega), Nat.add_sub_cancel], fun h => by rw [hj] at h; split at h <;> omega⟩
    have hT : IsT (tA L) key L.length j := by
      refine ⟨by rw [hj]; split <;> omega, fun q hq => ?_, fun q hq => ?_⟩
      · obtain ⟨q', h1, h2, _⟩ := up q hq
        rw [← hat, ← h2]
        exact b q' h1
      · have hjl : j < L.length := by rw [hj]; split <;> omega
        obtain ⟨q', h1, h2, h3⟩ := up q (by omega)
        rw [← hat, ← h2]
        exact c q' (h3 hq)
    have hu := (pk_is (tA L) key L.length (by omega)).uniq hT
    rw [hat, hu]
end Go.Proofs.YtpjmnnaiegdjmaaDoor
