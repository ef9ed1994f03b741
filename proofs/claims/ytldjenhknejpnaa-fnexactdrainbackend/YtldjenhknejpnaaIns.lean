/-
  Contracts: a text put into a row of the call's own by slices.Insert.
-/
import Derived.Test.YtldjenhknejpnaaDba
import Derived.Test.YtldjenhknejpnaaBxs
namespace Go.Proofs.Ytldjenhknejpnaa
open Go.ChangeShapes Go.WideShapes Go.ChangeAt Go.RowKit Go.Deep
set_option linter.unusedVariables false
set_option maxRecDepth 100000

/-- a list with a text put in -/
def insL (L : List ByteArray) (i : Nat) (x : ByteArray) : List ByteArray := L.take i ++ [x] ++ L.drop i
theorem insL_len (L : List ByteArray) (i : Nat) (x : ByteArray) (hi : i ≤ L.length) : (insL L i x).length = L.length + 1 := by
  unfold insL
  rw [List.length_append, List.length_append, List.length_take, List.length_drop]
  simp
  omega
theorem insL_lo (L : List ByteArray) (i j : Nat) (x : ByteArray) (hi : i ≤ L.length) (h : j < i) : tA (insL L i x) j = tA L j := by
  unfold insL
  rw [List.append_assoc, tA_app_l _ _ _ (by rw [List.length_take]; omega), tA_take _ _ _ h]
theorem insL_at (L : List ByteArray) (i : Nat) (x : ByteArray) (hi : i ≤ L.length) : tA (insL L i x) i = x := by
  unfold insL tA
  rw [List.append_assoc, List.getD, List.getElem?_append_right (by rw [List.length_take]; omega), List.length_take, show i - min i L.length = 0 by omega]
  rfl
theorem insL_hi (L : List ByteArray) (i j : Nat) (x : ByteArray) (hi : i ≤ L.length) : tA (insL L i x) (i + 1 + j) = tA L (i + j) := by
  unfold insL tA
  rw [List.append_assoc, List.getD, List.getElem?_append_right (by rw [List.length_take]; omega), List.length_take, show i + 1 + j - min i L.length = j + 1 by omega, List.singleton_append, List.getElem?_cons_succ, List.getElem?_drop, List.getD]
theorem two_a (b i : Nat) (W : World) (L : List ByteArray) (x : ByteArray) (hi : i ≤ L.length) (hs : ∀ j, j < L.length + 1 → (W.cell? ⟨b, j, none⟩).isSome = true) (hlo : ∀ j, j < i → W.cell? ⟨b, j, none⟩ = some (.string (tA L j))) :
    ∀ j, j < L.length + 1 → ((W.setCells b i [.string x]).setCells b (i + 1) (tC (L.drop i))).cell? ⟨b, j, none⟩ = some (.string (tA (insL L i x) j)) := by
  intro j hj
  have hs1 : ∀ j, j < L.length + 1 → ((W.setCells b i [.string x]).cell? ⟨b, j, none⟩).isSome = true := fun j hj => by
    by_cases e : j = i
    · subst e
      have := World.cell?_setCells_in b [.string x] j W (fun q hq => by obtain rfl : q = 0 := by simpa using hq
                                                                        exact hs j hj) 0 (by simp)
      rw [Nat.add_zero] at this
      rw [this]; rfl
    · rw [World.cell?_setCells_out b _ _ _ _ (fun _ _ => by show j < i ∨ i + 1 ≤ j; omega)]; exact hs j hj
  have hlen : (tC (L.drop i)).length = L.length - i := by rw [tC_len, List.length_drop]; omega
  by_cases h1 : i + 1 ≤ j
  · obtain ⟨q, rfl⟩ : ∃ q, j = i + 1 + q := ⟨j - (i + 1), by omega⟩
    have h9 := World.cell?_setCells_in b (tC (L.drop i)) (i + 1) (W.setCells b i [.string x]) (fun q hq => hs1 _ (by omega)) q (by omega)
    rw [h9, ← List.getElem?_eq_getElem, tC_at _ _ (by rw [List.length_drop]; omega), tA_drop, insL_hi L i q x hi]
  · rw [World.cell?_setCells_out b _ _ _ _ (fun _ _ => by show j < i + 1 ∨ _; omega)]
    by_cases e : j = i
    · subst e
      have := World.cell?_setCells_in b [.string x] j W (fun q hq => by obtain rfl : q = 0 := by simpa using hq
                                                                        exact hs j hj) 0 (by simp)
      rw [Nat.add_zero] at this
      rw [this, insL_at L j x hi]; rfl
    · rw [World.cell?_setCells_out b _ _ _ _ (fun _ _ => by show j < i ∨ i + 1 ≤ j; omega), hlo j (by omega), insL_lo L i j x hi (by omega)]
theorem two_b (b i : Nat) (W : World) (L : List ByteArray) (x : ByteArray) (hi : i ≤ L.length) (hs : ∀ j, j < L.length + 1 → (W.cell? ⟨b, j, none⟩).isSome = true) (hlo : ∀ j, j < i → W.cell? ⟨b, j, none⟩ = some (.string (tA L j))) :
    ∀ j, j < L.length + 1 → ((W.setCells b (i + 1) (tC (L.drop i))).setCells b i [.string x]).cell? ⟨b, j, none⟩ = some (.string (tA (insL L i x) j)) := by
  intro j hj
  have hlen : (tC (L.drop i)).length = L.length - i := by rw [tC_len, List.length_drop]; omega
  have hi1 : ((W.setCells b (i + 1) (tC (L.drop i))).cell? ⟨b, i, none⟩).isSome = true := by
    rw [World.cell?_setCells_out b _ _ _ _ (fun _ _ => by show i < i + 1 ∨ _; omega)]; exact hs i (by omega)
  by_cases e : j = i
  · subst e
    refine (World.cell?_setCells_in b [.string x] j (W.setCells b (j + 1) (tC (L.drop j))) (fun q hq => by obtain rfl : q = 0 := by simpa using hq
                                                                                                           exact hi1) 0 (by simp)).trans ?_
    rw [insL_at L j x hi]
    rfl
  · rw [World.cell?_setCells_out b _ _ _ _ (fun _ _ => by show j < i ∨ i + 1 ≤ j; omega)]
    by_cases h1 : i + 1 ≤ j
    · obtain ⟨q, rfl⟩ : ∃ q, j = i + 1 + q := ⟨j - (i + 1), by omega⟩
      have h9 := World.cell?_setCells_in b (tC (L.drop i)) (i + 1) W (fun q hq => hs _ (by omega)) q (by omega)
      rw [h9, ← List.getElem?_eq_getElem, tC_at _ _ (by rw [List.length_drop]; omega), tA_drop, insL_hi L i q x hi]
    · rw [World.cell?_setCells_out b _ _ _ _ (fun _ _ => by show j < i + 1 ∨ _; omega), hlo j (by omega), insL_lo L i j x hi (by omega)]
theorem tC_drop (L : List ByteArray) (i : Nat) : (tC L).drop i = tC (L.drop i) := by unfold tC; rw [List.map_drop]
theorem tC_take (L : List ByteArray) (i : Nat) : (tC L).take i = tC (L.take i) := by unfold tC; rw [List.map_take]
theorem new_frozen (w : World) (A : Array Value) (T : TypeId) (o : Nat) : (w.alloc (.cells A T)).frozen? ⟨w.heap.size, o, none⟩ = false := by
  exact (Bx.new w A.toList T).fz o
end Go.Proofs.Ytldjenhknejpnaa
