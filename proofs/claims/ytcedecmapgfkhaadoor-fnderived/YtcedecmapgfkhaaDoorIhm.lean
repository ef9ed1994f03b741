/-
  Contracts: the program's keyed hash of two texts, and HkdfExtract.
-/
import Derived.Test.YtcedecmapgfkhaaDoorShk
namespace Go.Proofs.YtcedecmapgfkhaaDoor
open Go.ChangeShapes Go.WideShapes Go.ChangeAt Go.RowKit
set_option linter.unusedVariables false

theorem within_two (t s : ByteArray) (most : Nat) (hm : most ≤ 100000) (hl : t.size ≤ 1048576) (hl2 : s.size ≤ 1048576) (w : World) (g c : Nat) (hc : w.cell? ⟨g, 0, none⟩ = some (.string t)) (hc1 : w.cell? ⟨g, 1, none⟩ = some (.string s)) :
    Calls Tryd.prog 33 #[.int .i64 most, .slice (some ⟨g, 0, none⟩) 2 c] w fun e w' => e = .returned (.bool (decide (t.size ≤ most ∧ s.size ≤ most))) ∧ w' = w := by
  by_cases h : t.size ≤ most
  · have h2 : ¬ ((most : Int) < (t.size : Int)) := by omega
    by_cases k : s.size ≤ most
    · have k2 : ¬ ((most : Int) < (s.size : Int)) := by omega
      rw [decide_eq_true ⟨h, k⟩]
      go_enter Tryd.func33, Tryd.ntmps33
      go_wp2
      refine wp_loop_rounds 3 ?_
      rw [rounds_succ]
      go_wp2
      rw [rounds_succ]
      go_wp2
      rw [rounds_succ]
      go_wp2
      go_ret
      exact ⟨rfl, rfl⟩
    · have k2 : (most : Int) < (s.size : Int) := by omega
      rw [decide_eq_false (fun x => k x.2)]
      go_enter Tryd.func33, Tryd.ntmps33
      go_wp2
      refine wp_loop_rounds 2 ?_
      rw [rounds_succ]
      go_wp2
      rw [rounds_succ]
      go_wp2
      go_ret
      exact ⟨rfl, rfl⟩
  · have h2 : (most : Int) < (t.size : Int) := by omega
    rw [decide_eq_false (fun x => h x.1)]
    go_enter Tryd.func33, Tryd.ntmps33
    go_wp2
    refine wp_loop_rounds 1 ?_
    rw [rounds_succ]
    go_wp2
    go_ret
    exact ⟨rfl, rfl⟩
theorem implHmac_ok (key t : ByteArray) (h : key.size ≤ 2000 ∧ t.size ≤ 2000) (w : World) (hT : Rt w) :
    Calls Tryd.prog 15 #[.string key, .string t] w fun e w' => e = .returned (.tuple #[.string (hmW key t), .bool true]) ∧ Below w.heap.size w w' := by
  have HT := hide hT
  clear hT
  have HC : Hid (∀ W g c, W.cell? ⟨g, 0, none⟩ = some (.string key) → W.cell? ⟨g, 1, none⟩ = some (.string t) → Calls Tryd.prog 33 #[.int .i64 2000, .slice (some ⟨g, 0, none⟩) 2 c] W fun e w' => e = .returned (.bool true) ∧ w' = W) := fun W g c hc hc1 => by
    have h1 := within_two key t 2000 (by omega) (by omega) (by omega) W g c hc hc1
    rw [decide_eq_true h] at h1
    exact h1
  have HK := hide (fun W (h9 : Rt W) => implKey key (by omega) W h9)
  have HD := hide (fun W (h9 : Rt W) => implKeyed (bhW HW (kyW (k64 key) 54)) (bhW HW (kyW (k64 key) 92)) t (bhW_lt _ _) (bhW_lt _ _) (by omega) W h9)
  rw [hmW_ends]
  generalize bhW HW (kyW (k64 key) 54) = f1 at *
  generalize bhW HW (kyW (k64 key) 92) = f2 at *
  generalize enW f2 (enW f1 t) = o2 at *
  go_enter Tryd.func15, Tryd.ntmps15
  go_wp2_with fail
  refine (unhide HC _ _ _ (by simp) (by simp)).mono ?_
  rintro e w1 ⟨rfl, h1⟩
  rw [h1]
  clear h1 w1
  have al := (Below.refl w.heap.size w).alloc (Nat.le_refl _) (.cells #[.string key, .string t] 9)
  generalize w.alloc (.cells #[.string key, .string t] 9) = W at al ⊢
  have T1 := hide ((unhide HT).kept al)
  have AL := hide al
  clear al HC
  go_wp2_with fail
  refine (unhide HK _ (unhide T1)).mono ?_
  rintro e w2 ⟨rfl, b2⟩
  have B2 := hide ((unhide AL).trans (b2.mono (unhide AL).size))
  have T2 := hide ((unhide T1).kept b2)
  clear b2 AL T1 HK
  go_wp2_with fail
  refine (unhide HD _ (unhide T2)).mono ?_
  rintro e w3 ⟨rfl, b3⟩
  have B3 := hide ((unhide B2).trans (b3.mono (unhide B2).size))
  clear b3
  go_wp2
  go_ret2
  exact ⟨rfl, unhide B3⟩
theorem implHmac_no (key t : ByteArray) (h : ¬ (key.size ≤ 2000 ∧ t.size ≤ 2000)) (hl : key.size ≤ 1048576) (hl2 : t.size ≤ 1048576) (w : World) :
    Calls Tryd.prog 15 #[.string key, .string t] w fun e w' => e = .returned (.tuple #[.string ⟨#[]⟩, .bool false]) ∧ Below w.heap.size w w' := by
  have HC : Hid (∀ W g c, W.cell? ⟨g, 0, none⟩ = some (.string key) → W.cell? ⟨g, 1, none⟩ = some (.string t) → Calls Tryd.prog 33 #[.int .i64 2000, .slice (some ⟨g, 0, none⟩) 2 c] W fun e w' => e = .returned (.bool false) ∧ w' = W) := fun W g c hc hc1 => by
    have h1 := within_two key t 2000 (by omega) hl hl2 W g c hc hc1
    rw [decide_eq_false h] at h1
    exact h1
  go_enter Tryd.func15, Tryd.ntmps15
  go_wp2_with fail
  refine (unhide HC _ _ _ (by simp) (by simp)).mono ?_
  rintro e w1 ⟨rfl, h1⟩
  rw [h1]
  clear h1 w1
  go_wp2
  go_ret2
  exact ⟨rfl, (Below.refl w.heap.size w).alloc (Nat.le_refl _) _⟩
end Go.Proofs.YtcedecmapgfkhaaDoor
