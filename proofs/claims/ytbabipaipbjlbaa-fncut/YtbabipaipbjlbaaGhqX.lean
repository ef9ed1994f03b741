/-
  Contract: the model's GoodHeader of an answer with no version. Contract: the model's look at a header: it answers 'gh'.
-/
import Derived.Test.YtbabipaipbjlbaaGho
namespace Go.Proofs.Ytbabipaipbjlbaa
open Go.ChangeShapes Go.WideShapes Go.ChangeAt Go.RowKit
set_option linter.unusedVariables false
set_option maxRecDepth 100000

set_option maxHeartbeats 4000000 in
theorem so_4n (bi ve : Int) (d s t p : ByteArray) (ra : Option Addr) (cap : Nat) (w : World) (c1 : d.size ≤ 20) (c2 : s.size ≤ 20) (c3 : 0 ≤ bi) (c3' : bi ≤ 15) (c4 : t.size ≤ 200) (c5 : p.size ≤ 1200) (ht : t.toList = []) :
    Calls Try.prog 50 #[hv 4 bi ve d s t p ra 0 cap] w fun e w' => e = .returned (.bool false) ∧ Below w.heap.size w w' := by
  by_cases v0 : ve = 0
  · subst v0
    by_cases p0 : p.toList = []
    · go_enter Try.func50, Try.ntmps50
      go_wp2_with (go_at_call 34; refine (in_yes _ _ _ _ (by omega) (by omega)).mono ?_; rintro e w' ⟨rfl, rfl⟩)
      refine wp_loop_rounds 1 ?_
      rw [rounds_succ]
      go_wp2_with (go_at_call 34; refine (in_no _ _ _ _ (by omega)).mono ?_; rintro e w' ⟨rfl, rfl⟩)
      go_ret
      exact ⟨rfl, (Below.refl _ _).alloc (Nat.le_refl _) _⟩
    · go_enter Try.func50, Try.ntmps50
      go_wp2_with (go_at_call 34; refine (in_yes _ _ _ _ (by omega) (by omega)).mono ?_; rintro e w' ⟨rfl, rfl⟩)
      refine wp_loop_rounds 1 ?_
      rw [rounds_succ]
      go_wp2
      go_ret
      exact ⟨rfl, (Below.refl _ _).alloc (Nat.le_refl _) _⟩
  · have v1 : (ve == 0) = false := beq_eq_false_iff_ne.2 v0
    go_enter Try.func50, Try.ntmps50
    go_wp2_with (go_at_call 34; refine (in_yes _ _ _ _ (by omega) (by omega)).mono ?_; rintro e w' ⟨rfl, rfl⟩)
    refine wp_loop_rounds 1 ?_
    rw [rounds_succ]
    go_wp2
    go_ret
    exact ⟨rfl, (Below.refl _ _).alloc (Nat.le_refl _) _⟩
end Go.Proofs.Ytbabipaipbjlbaa
namespace Go.Proofs.Ytbabipaipbjlbaa
open Go.ChangeShapes Go.WideShapes Go.ChangeAt Go.RowKit
set_option linter.unusedVariables false
set_option maxRecDepth 100000

theorem specGood_ra (f bi ve : Int) (d s t p : ByteArray) (ra : Option Addr) (n cap : Nat) (V : Nat → Int) (w : World) (hd : d.size ≤ 1048576) (hs : s.size ≤ 1048576) (ht : t.size ≤ 1048576) (hp : p.size ≤ 1048576) (hn : n ≤ 1048576) (hR : Ia w ra n cap V) :
    Calls Try.prog 50 #[hv f bi ve d s t p ra n cap] w fun e w' => e = .returned (.bool (gh f bi ve d.size s.size t.size p.size n V)) ∧ Below w.heap.size w w' := by
  have nt := size0 t
  have np := size0 p
  have ns := size0 s
  have no : ∀ {q : Prop}, (gpB f ve s.size t.size p.size n V = true → q) → ¬ q → gh f bi ve d.size s.size t.size p.size n V = false := fun h1 h2 => decide_eq_false (fun q => h2 (h1 q.2.2.2.2))
  by_cases E : d.size ≤ 20 ∧ s.size ≤ 20 ∧ (0 ≤ bi ∧ bi ≤ 15) ∧ t.size ≤ 200 ∧ p.size ≤ 1200
  case neg =>
    have e : gh f bi ve d.size s.size t.size p.size n V = false := decide_eq_false (fun q => E ⟨q.1, q.2.1, ⟨q.2.2.1, q.2.2.2.1⟩, (gpB_lim q.2.2.2.2).2.1, (gpB_lim q.2.2.2.2).1⟩)
    rw [e]
    exact specGood_early f bi ve d s t p _ n cap w hd hs ht hp E
  obtain ⟨c1, c2, ⟨c3, c3'⟩, c4, c5⟩ := E
  have yes : ∀ b, gpB f ve s.size t.size p.size n V = b → gh f bi ve d.size s.size t.size p.size n V = b := fun b h => by
    cases b with
    | true => exact decide_eq_true ⟨c1, c2, c3, c3', h⟩
    | false => exact decide_eq_false (fun q => by rw [h] at q; exact absurd q.2.2.2.2 (by decide))
  by_cases h0 : f ≠ 0 ∧ t.size ≠ 0
  · rw [no (fun h => (gpB_lim h).2.2.1 h0.1) h0.2]
    exact so_token f bi ve d s t p ra n cap w c1 c2 c3 c3' c4 c5 (bne_iff_ne.2 h0.1) (fun h => h0.2 (nt.1 h))
  by_cases h4 : f ≠ 4 ∧ n ≠ 0
  · rw [no (fun h => (gpB_lim h).2.2.2.1 h4.1) h4.2]
    by_cases z : f = 0
    · subst z
      exact so_vers0 bi ve d s t p ra n cap w c1 c2 c3 c3' c4 c5 (by omega)
    · exact so_versT f bi ve d s t p ra n cap w c1 c2 c3 c3' c4 c5 (bne_iff_ne.2 z) (nt.2 (by omega)) (bne_iff_ne.2 h4.1) (by omega)
  by_cases k : f = 0 ∨ f = 1 ∨ f = 2 ∨ f = 3 ∨ f = 4 ∨ f = 5
  case neg =>
    rw [no (fun h => (gpB_lim h).2.2.2.2) k]
    exact so_other f bi ve d s t p ra n cap w c1 c2 c3 c3' c4 c5 (nt.2 (by omega)) (by omega) (bne_iff_ne.2 (by omega)) (bne_iff_ne.2 (by omega)) (beq_eq_false_iff_ne.2 (by omega)) (beq_eq_false_iff_ne.2 (by omega)) (beq_eq_false_iff_ne.2 (by omega)) (beq_eq_false_iff_ne.2 (by omega)) (beq_eq_false_iff_ne.2 (by omega)) (beq_eq_false_iff_ne.2 (by omega))
  clear no
  rcases k with rfl | rfl | rfl | rfl | rfl | rfl
  · by_cases v : 1 ≤ ve ∧ ve ≤ 4294967295
    · have v' : okW 1 ve = true := decide_eq_true v
      by_cases z : p.toList = []
      · rw [yes false (by rw [gpB_0]; exact decide_eq_false (fun q => by have := np.1 z; omega))]
        exact so_0p bi ve d s t p ra n cap w c1 c2 c3 c3' c4 c5 (by omega) v.1 v.2 z
      · rw [yes true (by rw [gpB_0]; exact decide_eq_true ⟨c5, v', c4, by have : p.size ≠ 0 := fun q => z (np.2 q); omega, by omega⟩)]
        exact so_0y bi ve d s t p ra n cap w c1 c2 c3 c3' c4 c5 (by omega) v.1 v.2 (isE z)
    · rw [yes false (by rw [gpB_0]; exact decide_eq_false (fun q => v (of_decide_eq_true q.2.1)))]
      exact so_0v bi ve d s t p ra n cap w c1 c2 c3 c3' c4 c5 (by omega) v
  · by_cases v : 1 ≤ ve ∧ ve ≤ 4294967295
    · have v' : okW 1 ve = true := decide_eq_true v
      by_cases z : p.toList = []
      · rw [yes false (by rw [gpB_1]; exact decide_eq_false (fun q => by have := np.1 z; omega))]
        exact so_1p bi ve d s t p ra n cap w c1 c2 c3 c3' c4 c5 (nt.2 (by omega)) (by omega) v.1 v.2 z
      · rw [yes true (by rw [gpB_1]; exact decide_eq_true ⟨c5, v', (by omega), by have : p.size ≠ 0 := fun q => z (np.2 q); omega, by omega⟩)]
        exact so_1y bi ve d s t p ra n cap w c1 c2 c3 c3' c4 c5 (nt.2 (by omega)) (by omega) v.1 v.2 (isE z)
    · rw [yes false (by rw [gpB_1]; exact decide_eq_false (fun q => v (of_decide_eq_true q.2.1)))]
      exact so_1v bi ve d s t p ra n cap w c1 c2 c3 c3' c4 c5 (nt.2 (by omega)) (by omega) v
  · by_cases v : 1 ≤ ve ∧ ve ≤ 4294967295
    · have v' : okW 1 ve = true := decide_eq_true v
      by_cases z : p.toList = []
      · rw [yes false (by rw [gpB_2]; exact decide_eq_false (fun q => by have := np.1 z; omega))]
        exact so_2p bi ve d s t p ra n cap w c1 c2 c3 c3' c4 c5 (nt.2 (by omega)) (by omega) v.1 v.2 z
      · rw [yes true (by rw [gpB_2]; exact decide_eq_true ⟨c5, v', (by omega), by have : p.size ≠ 0 := fun q => z (np.2 q); omega, by omega⟩)]
        exact so_2y bi ve d s t p ra n cap w c1 c2 c3 c3' c4 c5 (nt.2 (by omega)) (by omega) v.1 v.2 (isE z)
    · rw [yes false (by rw [gpB_2]; exact decide_eq_false (fun q => v (of_decide_eq_true q.2.1)))]
      exact so_2v bi ve d s t p ra n cap w c1 c2 c3 c3' c4 c5 (nt.2 (by omega)) (by omega) v
  · by_cases v : 1 ≤ ve ∧ ve ≤ 4294967295
    · have v' : okW 1 ve = true := decide_eq_true v
      by_cases z : p.toList = []
      · rw [yes false (by rw [gpB_3]; exact decide_eq_false (fun q => by have := np.1 z; omega))]
        exact so_3p bi ve d s t p ra n cap w c1 c2 c3 c3' c4 c5 (nt.2 (by omega)) (by omega) v.1 v.2 z
      · rw [yes true (by rw [gpB_3]; exact decide_eq_true ⟨c5, v', (by omega), by have : p.size ≠ 0 := fun q => z (np.2 q); omega, by omega⟩)]
        exact so_3y bi ve d s t p ra n cap w c1 c2 c3 c3' c4 c5 (nt.2 (by omega)) (by omega) v.1 v.2 (isE z)
    · rw [yes false (by rw [gpB_3]; exact decide_eq_false (fun q => v (of_decide_eq_true q.2.1)))]
      exact so_3v bi ve d s t p ra n cap w c1 c2 c3 c3' c4 c5 (nt.2 (by omega)) (by omega) v
  · have z : t.size = 0 := by omega
    have e : gpB 4 ve s.size t.size p.size n V = g4 ve p.size n V := by
      rw [gpB_4, Bool.eq_iff_iff, g4_gv, decide_eq_true_eq]
      constructor
      · intro q; exact ⟨q.2.1, q.2.2.2.1, q.2.2.2.2⟩
      · intro q; exact ⟨c5, q.1, z, q.2.1, q.2.2⟩
    rw [yes _ e]
    rcases hR with rfl | ⟨g, off, rfl, hR⟩
    · rw [show g4 ve p.size 0 V = false from decide_eq_false (fun q => by omega)]
      exact so_4n bi ve d s t p ra cap w c1 c2 c3 c3' c4 c5 (nt.2 z)
    · exact sg_4 bi ve d s t p g off n cap V w hn hR c1 c2 c3 c3' c4 c5 (nt.2 z)
  · by_cases z : s.toList = []
    · by_cases v : ve = 0
      · subst v
        rw [yes true (by rw [gpB_5]; exact decide_eq_true ⟨c5, rfl, ns.1 z, by omega, by omega⟩)]
        exact so_5y bi d s t p ra n cap w c1 c2 c3 c3' c4 c5 (nt.2 (by omega)) (by omega) z
      · rw [yes false (by rw [gpB_5]; exact decide_eq_false (fun q => v q.2.1))]
        exact so_5v bi ve d s t p ra n cap w c1 c2 c3 c3' c4 c5 (nt.2 (by omega)) (by omega) z (beq_eq_false_iff_ne.2 v)
    · rw [yes false (by rw [gpB_5]; exact decide_eq_false (fun q => z (ns.2 q.2.2.1)))]
      exact so_5s bi ve d s t p ra n cap w c1 c2 c3 c3' c4 c5 (nt.2 (by omega)) (by omega) z
end Go.Proofs.Ytbabipaipbjlbaa
