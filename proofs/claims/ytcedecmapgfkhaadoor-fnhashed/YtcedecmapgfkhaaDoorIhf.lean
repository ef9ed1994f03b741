/-
  Contracts: the program's HashFrom.
-/
import Derived.Test.YtcedecmapgfkhaaDoorSbh
namespace Go.Proofs.YtcedecmapgfkhaaDoor
open Go.ChangeShapes Go.WideShapes Go.ChangeAt Go.RowKit
set_option linter.unusedVariables false

theorem copy_r (w : World) (d n dc b o sc : Nat) (f g : Nat → Nat) (h : Aw w d 0 n g) (hr : Rw w b o n f) :
    (Builtin.copy_ #[28, 28] 3 #[.slice (some ⟨d, 0, none⟩) n dc, .slice (some ⟨b, o, none⟩) n sc]).run Tryd.prog w = .ok (goInt n) (w.setCells d 0 (uw n f)) := by
  have := run_copy_cells (P := Tryd.prog) w 28 28 3 27 d 0 n dc ⟨b, o, none⟩ n sc (uw n f) Tryd.underlying28 size_w1 (by rw [uw_length]; exact (Nat.min_self n).symm)
    (fun j v hv => by rw [Addr.add_mid]; exact hr.range j v hv)
    (fun j hj => by rw [uw_length] at hj; rw [h.c j hj]; rfl) (fun j hj => by rw [uw_length] at hj; exact h.fz j hj) (uw_oneL _ _)
  rw [uw_length] at this
  exact this
set_option maxRecDepth 100000 in
set_option maxHeartbeats 400000 in
theorem implHF_ok (b o cap : Nat) (f : Nat → Nat) (t : ByteArray) (hf : ∀ i, f i < 4294967296) (ht : t.size = 64) (w : World) (hT : Rt w) (hr : Rw w b o 8 f) :
    Calls Tryd.prog 12 #[.slice (some ⟨b, o, none⟩) 8 cap, .string t] w fun e w' => ∃ g, e = .returned (.tuple #[.slice (some ⟨g, 0, none⟩) 8 8, .bool true]) ∧ w.heap.size ≤ g ∧ Aw w' g 0 8 (bhW f t) ∧ Below w.heap.size w w' := by
  have HR := hide hr
  have HT := hide hT
  clear hr hT
  go_enter Tryd.func12, Tryd.ntmps12
  go_wp2_with fail
  have h0 := z8_new w 61
  have hB := (Below.refl w.heap.size w).alloc (Nat.le_refl _) (.cells #[.int .u32 0, .int .u32 0, .int .u32 0, .int .u32 0, .int .u32 0, .int .u32 0, .int .u32 0, .int .u32 0] 61)
  have hr1 := (unhide HR).kept hB
  have hT1 := (unhide HT).kept hB
  rw [copy_r _ w.heap.size 8 8 b o cap f _ h0 hr1]
  have h1 := h0.puts (g := f)
  have h2 := Go.Proofs.YtcedecmapgfkhaaDoor.below_setCells (b := w.heap.size) (Nat.le_refl _) (uw 8 f) 0 _ hB
  have hT2 := (unhide HT).kept h2
  generalize (w.alloc (.cells #[.int .u32 0, .int .u32 0, .int .u32 0, .int .u32 0, .int .u32 0, .int .u32 0, .int .u32 0, .int .u32 0] 61)).setCells w.heap.size 0 (uw 8 f) = W at h1 h2 hT2 ⊢
  clear h0 hB hr1 hT1 HR HT
  have H1 := hide h1
  have HB := hide h2
  have HT := hide hT2
  clear h1 h2 hT2
  go_upto_region 5 with fail
  refine wp_region_list ?_
  refine wpList_load_mid rfl 61 (.tmp 6) rfl w.heap.size 0 rfl (uw 8 f) _ (unhide H1).range Tryd.underlying61 rfl (by rw [uw_length]; exact info_st) ?_
  go_wp2_with fail
  refine (implBehind f t hf ht _ (unhide HT)).mono ?_
  rintro e w1 ⟨rfl, b1⟩
  have HB1 := hide ((unhide HB).trans (b1.mono (unhide HB).size))
  have hz1 : w.heap.size ≤ w1.heap.size := (unhide HB1).size
  clear b1
  generalize hg : bhW f t = g
  have hl : (uw 8 g).length = 8 := uw_length _ _
  have h3 := z8_new w1 61
  go_wp2_with fail
  rw [h3.cellsPut]
  have h4 := h3.puts (g := g)
  have h5 := Go.Proofs.YtcedecmapgfkhaaDoor.below_setCells (b := w1.heap.size) (by omega) (uw 8 g) 0 _ ((unhide HB1).alloc (by omega) (.cells #[.int .u32 0, .int .u32 0, .int .u32 0, .int .u32 0, .int .u32 0, .int .u32 0, .int .u32 0, .int .u32 0] 61))
  generalize (w1.alloc (.cells #[.int .u32 0, .int .u32 0, .int .u32 0, .int .u32 0, .int .u32 0, .int .u32 0, .int .u32 0, .int .u32 0] 61)).setCells w1.heap.size 0 (uw 8 g) = W4 at h4 h5 ⊢
  clear h3
  go_wp2_with fail
  go_ret2
  exact ⟨_, rfl, hz1, by rw [hg]; exact h4, h5⟩
theorem implHF_no (a : Option Addr) (n cap : Nat) (t : ByteArray) (h : ¬ (n = 8 ∧ t.size = 64)) (hn : n ≤ 1048576) (hl : t.size ≤ 1048576) (w : World) :
    Calls Tryd.prog 12 #[.slice a n cap, .string t] w fun e w' => e = .returned (.tuple #[.slice none 0 0, .bool false]) ∧ Below w.heap.size w w' := by
  by_cases h8 : n = 8
  · subst h8
    have h1 : ((t.size : Int) != 64) = true := by simp; omega
    go_enter Tryd.func12, Tryd.ntmps12
    go_wp2
    go_ret2
    exact ⟨rfl, by repeat (first | exact Below.refl _ _ | refine Below.alloc ?_ (by simp <;> omega) _)⟩
  · have h1 : ((n : Int) != 8) = true := by simp; omega
    go_enter Tryd.func12, Tryd.ntmps12
    go_wp2
    go_ret2
    exact ⟨rfl, by repeat (first | exact Below.refl _ _ | refine Below.alloc ?_ (by simp <;> omega) _)⟩
end Go.Proofs.YtcedecmapgfkhaaDoor
