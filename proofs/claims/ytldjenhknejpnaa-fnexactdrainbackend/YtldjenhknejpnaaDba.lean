/-
  Contracts: the place of a text in a live set, a text taken out, a text put in, of the program (by the library's own functions).
-/
import Derived.Test.YtldjenhknejpnaaLiv
import Derived.Test.YtldjenhknejpnaaShelf
import Derived.Test.YtldjenhknejpnaaShl
namespace Go.Proofs.Ytldjenhknejpnaa
open Go.ChangeShapes Go.WideShapes Go.ChangeAt Go.RowKit Go.Deep Go.Sort
set_option linter.unusedVariables false
set_option maxRecDepth 100000

theorem implBS (a : Option Addr) (n cap : Nat) (F : Nat → ByteArray) (x : ByteArray) (w : World) (hn : n ≤ 1048576) (hgl : glB F n = true) (h : Sa w a n F) :
    Calls Try.prog 55 #[.slice a n cap, .string x] w fun e w' => e = .returned (.tuple #[.int .i64 (lnP F x n : Nat), .bool (hsP F x n)]) ∧ Below w.heap.size w w' := by
  by_cases h0 : n = 0
  · subst h0
    refine (Any2.slices_BinarySearch_string_empty Try.laysNm226 a cap x w).mono ?_
    rintro e w' ⟨rfl, rfl⟩
    exact ⟨rfl, Below.refl _ _⟩
  rcases h with h | ⟨b, o, rfl, h⟩
  · exact absurd h h0
  obtain ⟨S, hS⟩ : ∃ S : Nat → ByteArray, S = fun t => if t < n then F t else x := ⟨_, rfl⟩
  have hSi : ∀ t, t < n → S t = F t := fun t ht => by rw [hS]; exact if_pos ht
  have hSo : ∀ t, ¬ t < n → S t = x := fun t ht => by rw [hS]; exact if_neg ht
  have hp := lnP_is F x n
  have key : Lib.bsGo (fun t => Op.bytesLess (S t).toList x.toList) n 0 n = lnP F x n := by
    refine Lib.bsGo_spec _ (lnP F x n) (fun t ht => ?_) (fun t ht => ?_) n 0 n (by omega) (by omega) hp.1
    · show lsT (S t) x = true
      rw [hSi t (by have := hp.1; omega)]
      exact hp.2.1 t ht
    · show lsT (S t) x = false
      by_cases htn : t < n
      · rw [hSi t htn]
        exact gl_behind hgl hp ht htn
      · rw [hSo t htn]
        exact lsT_irr x
  have hb : decide (lnP F x n < n ∧ S (lnP F x n) = x) = hsP F x n := by
    unfold hsP
    by_cases hl : lnP F x n < n
    · rw [hSi _ hl, decide_eq_true hl, Bool.true_and]
      exact decide_eq_decide.2 ⟨fun z => z.2, fun z => ⟨hl, z⟩⟩
    · rw [decide_eq_false hl, Bool.false_and]
      exact decide_eq_false (fun z => hl z.1)
  have H := Any2.slices_BinarySearch_string Try.laysNm226 b o n cap S x w (by omega) (fun j hj => by rw [hSi j hj]; exact h.c j hj)
  rw [key, hb] at H
  refine H.mono ?_
  rintro e w' ⟨rfl, q, rfl⟩
  exact ⟨rfl, below_drewN (Below.refl _ _) _⟩
theorem strs_tC (L : List ByteArray) : (Lib.strsOf (tA L) L.length).map encStr = tC L := by
  refine List.ext_getElem? fun i => ?_
  by_cases hi : i < L.length
  · rw [tC_at L i hi]
    simp [Lib.strsOf, hi, encStr]
  · rw [List.getElem?_eq_none (by simp [Lib.strsOf]; omega), List.getElem?_eq_none (by rw [tC_len]; omega)]
theorem set_below {base g o : Nat} {w : World} {vs : List Value} (hg : base ≤ g) : Below base w (w.setCells g o vs) := by
  have k := World.keptBut_setCells g (may := fun _ => True) vs o w (fun _ _ => trivial)
  refine ⟨k.1, ?_, k.2.1, ?_, fun q hq => ?_⟩
  · induction vs generalizing o w with
    | nil => rfl
    | cons v r ih => exact (ih (o := o + 1) (w := w.setCell ⟨g, o, none⟩ v) (World.keptBut_setCells g (may := fun _ => True) r (o + 1) _ (fun _ _ => trivial))).trans rfl
  · induction vs generalizing o w with
    | nil => exact Nat.le_refl _
    | cons v r ih => exact Nat.le_trans (by simp) (ih (o := o + 1) (w := w.setCell ⟨g, o, none⟩ v) (World.keptBut_setCells g (may := fun _ => True) r (o + 1) _ (fun _ _ => trivial)))
  · induction vs generalizing o w with
    | nil => rfl
    | cons v r ih => exact (ih (o := o + 1) (w := w.setCell ⟨g, o, none⟩ v) (World.keptBut_setCells g (may := fun _ => True) r (o + 1) _ (fun _ _ => trivial))).trans (Below.heap_setCell w ⟨g, o, none⟩ v q (by show q ≠ g; omega))
theorem set_size {g o : Nat} {w : World} {vs : List Value} : (w.setCells g o vs).heap.size = w.heap.size := by
  induction vs generalizing o w with
  | nil => rfl
  | cons v r ih => exact (ih (o := o + 1) (w := w.setCell ⟨g, o, none⟩ v)).trans (by simp)
theorem implDl (base : Nat) (v : Value) (L : List ByteArray) (k : Nat) (w : World) (hk : k < L.length) (hO : Ost base w v L) :
    Calls Try.prog 56 #[v, .int .i64 k, .int .i64 ((k + 1 : Nat) : Int)] w fun e w' => ∃ a cap, e = .returned (.slice a (L.take k ++ L.drop (k + 1)).length cap) ∧ Sn base w' a (L.take k ++ L.drop (k + 1)).length (tA (L.take k ++ L.drop (k + 1))) ∧ Below base w w' := by
  obtain ⟨a, cap, rfl, hc1, hc2, hS⟩ := hO.form
  rcases hS with hS | ⟨g, rfl, hS⟩
  · omega
  have H := Try.slices_Delete_string_cells g 0 L.length cap k (k + 1) (tA L) w hc1 hc2 (by omega) (by omega) (fun i hi => by rw [Nat.zero_add]; exact hS.c i hi) (fun i hi => by rw [Nat.zero_add]; exact hS.fz i hi)
  have e1 : ((Lib.strsOf (tA L) L.length).take k ++ (Lib.strsOf (tA L) L.length).drop (k + 1) ++ List.replicate (k + 1 - k) []).map encStr = tC (L.take k ++ L.drop (k + 1) ++ [⟨#[]⟩]) := by
    rw [List.map_append, List.map_append, List.map_take, List.map_drop, strs_tC, tC_app, tC_app]
    unfold tC
    rw [List.map_take, List.map_drop, show k + 1 - k = 1 by omega]
    rfl
  rw [e1] at H
  have hl : (L.take k ++ L.drop (k + 1)).length = L.length - (k + 1 - k) := by rw [List.length_append, List.length_take, List.length_drop]; omega
  refine H.mono ?_
  rintro e w' ⟨rfl, q, rfl⟩
  refine ⟨_, cap, by rw [hl], Or.inr ⟨g, rfl, hS.ge, ?_, fun i hi => ?_, fun i hi => ?_⟩, ?_⟩
  · rw [set_size]
    exact Nat.lt_of_lt_of_le hS.lt (below_drewN (Below.refl w.heap.size w) q).size
  · have h9 := World.cell?_setCells_in g (tC (L.take k ++ L.drop (k + 1) ++ [⟨#[]⟩])) 0 (w.drewN q) (fun j hj => by
      rw [tC_len, List.length_append, hl] at hj
      simp at hj
      rw [Nat.zero_add, (below_drewN (Below.refl w.heap.size w) q).cell (p := ⟨g, j, none⟩) hS.lt, hS.c j (by omega)]
      rfl) i (by rw [tC_len, List.length_append]; omega)
    rw [Nat.zero_add] at h9
    rw [h9, ← List.getElem?_eq_getElem, tC_at _ _ (by rw [List.length_append]; omega), tA_app_l _ _ _ hi]
  · rw [World.frozen?_setCells]
    rw [(bcell (below_drewN (Below.refl w.heap.size w) q)).2 _ _ hS.lt]
    exact hS.fz i (by omega)
  · exact ((below_drewN (Below.refl base w) q)).trans (set_below hS.ge)
end Go.Proofs.Ytldjenhknejpnaa
