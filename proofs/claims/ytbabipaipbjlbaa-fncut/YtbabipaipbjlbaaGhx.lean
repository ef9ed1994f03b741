/-
  Contract: the program's look at a header: it answers 'gh'.
-/
import Derived.Test.YtbabipaipbjlbaaGhiX
import Derived.Test.YtbabipaipbjlbaaGpbX
namespace Go.Proofs.Ytbabipaipbjlbaa
open Go.ChangeShapes Go.WideShapes Go.ChangeAt Go.RowKit
set_option linter.unusedVariables false
set_option maxRecDepth 100000

/-- the form's value behind its interface -/
def fo (f : Int) : Value := if f = 0 then .iface 111 (.agg #[]) else if f = 1 then .iface 113 (.agg #[.int .i64 1]) else if f = 2 then .iface 113 (.agg #[.int .i64 2]) else if f = 3 then .iface 114 (.agg #[]) else if f = 4 then .iface 115 (.agg #[]) else if f = 5 then .iface 116 (.agg #[]) else .nilIface
theorem fo_0 : fo 0 = .iface 111 (.agg #[]) := rfl
theorem fo_1 : fo 1 = .iface 113 (.agg #[.int .i64 1]) := rfl
theorem fo_2 : fo 2 = .iface 113 (.agg #[.int .i64 2]) := rfl
theorem fo_3 : fo 3 = .iface 114 (.agg #[]) := rfl
theorem fo_4 : fo 4 = .iface 115 (.agg #[]) := rfl
theorem fo_5 : fo 5 = .iface 116 (.agg #[]) := rfl

theorem goodParts_any (f bi ve : Int) (d s t p : ByteArray) (ra : Option Addr) (n cap : Nat) (V : Nat → Int) (w : World) (ht : t.size ≤ 1048576) (hp : p.size ≤ 1048576) (hn : n ≤ 1048576) (hR : Ia w ra n cap V)
    (hf : f = 0 ∨ f = 1 ∨ f = 2 ∨ f = 3 ∨ f = 4 ∨ f = 5) :
    Calls Try.prog 54 #[fo f, hv f bi ve d s t p ra n cap] w fun e w' => e = .returned (.bool (gpB f ve s.size t.size p.size n V)) ∧ Below w.heap.size w w' := by
  have nt := size0 t
  have np := size0 p
  have ns := size0 s
  have nz : ∀ {m : Nat}, m ≠ 0 → ((m : Int) == 0) = false := fun h => beq_eq_false_iff_ne.2 (by omega)
  by_cases c5 : p.size ≤ 1200
  case neg =>
    have e : gpB f ve s.size t.size p.size n V = false := by
      cases q : gpB f ve s.size t.size p.size n V with
      | false => rfl
      | true => exact absurd (gpB_lim q).1 c5
    rw [e]
    exact gp_early f bi ve d s t p ra n cap w hp hn _ c5
  rcases hf with rfl | rfl | rfl | rfl | rfl | rfl
  · rw [fo_0, gpB_0]
    cases v : okW 1 ve with
    | false =>
      rw [show decide _ = false from decide_eq_false (fun q => absurd q.2.1 (by decide))]
      exact gp_0v bi ve d s t p ra n cap w hp hn c5 v
    | true =>
      by_cases z : t.size ≤ 200
      case neg =>
        rw [show decide _ = false from decide_eq_false (fun q => z q.2.2.1)]
        exact gp_0t bi ve d s t p ra n cap w hp hn c5 v z ht
      by_cases y : p.toList = []
      · rw [show decide _ = false from decide_eq_false (fun q => by have := np.1 y; omega)]
        exact gp_0p bi ve d s t p ra n cap w hp hn c5 v z y
      by_cases x : n = 0
      · rw [show decide _ = true from decide_eq_true ⟨c5, rfl, z, by have : p.size ≠ 0 := fun q => y (np.2 q); omega, x⟩]
        exact gp_0y bi ve d s t p ra n cap w hp hn c5 v z y (isE y) x
      · rw [show decide _ = false from decide_eq_false (fun q => x q.2.2.2.2)]
        exact gp_0n bi ve d s t p ra n cap w hp hn c5 v z y (nz x)
  · rw [fo_1, gpB_1]
    cases v : okW 1 ve with
    | false =>
      rw [show decide _ = false from decide_eq_false (fun q => absurd q.2.1 (by decide))]
      exact gp_1v bi ve d s t p ra n cap w hp hn c5 v
    | true =>
      by_cases z : t.toList = []
      case neg =>
        rw [show decide _ = false from decide_eq_false (fun q => z (nt.2 q.2.2.1))]
        exact gp_1t bi ve d s t p ra n cap w hp hn c5 v z
      by_cases y : p.toList = []
      · rw [show decide _ = false from decide_eq_false (fun q => by have := np.1 y; omega)]
        exact gp_1p bi ve d s t p ra n cap w hp hn c5 v z y
      by_cases x : n = 0
      · rw [show decide _ = true from decide_eq_true ⟨c5, rfl, (nt.1 z), by have : p.size ≠ 0 := fun q => y (np.2 q); omega, x⟩]
        exact gp_1y bi ve d s t p ra n cap w hp hn c5 v z y (isE y) x
      · rw [show decide _ = false from decide_eq_false (fun q => x q.2.2.2.2)]
        exact gp_1n bi ve d s t p ra n cap w hp hn c5 v z y (nz x)
  · rw [fo_2, gpB_2]
    cases v : okW 1 ve with
    | false =>
      rw [show decide _ = false from decide_eq_false (fun q => absurd q.2.1 (by decide))]
      exact gp_2v bi ve d s t p ra n cap w hp hn c5 v
    | true =>
      by_cases z : t.toList = []
      case neg =>
        rw [show decide _ = false from decide_eq_false (fun q => z (nt.2 q.2.2.1))]
        exact gp_2t bi ve d s t p ra n cap w hp hn c5 v z
      by_cases y : p.toList = []
      · rw [show decide _ = false from decide_eq_false (fun q => by have := np.1 y; omega)]
        exact gp_2p bi ve d s t p ra n cap w hp hn c5 v z y
      by_cases x : n = 0
      · rw [show decide _ = true from decide_eq_true ⟨c5, rfl, (nt.1 z), by have : p.size ≠ 0 := fun q => y (np.2 q); omega, x⟩]
        exact gp_2y bi ve d s t p ra n cap w hp hn c5 v z y (isE y) x
      · rw [show decide _ = false from decide_eq_false (fun q => x q.2.2.2.2)]
        exact gp_2n bi ve d s t p ra n cap w hp hn c5 v z y (nz x)
  · rw [fo_3, gpB_3]
    cases v : okW 1 ve with
    | false =>
      rw [show decide _ = false from decide_eq_false (fun q => absurd q.2.1 (by decide))]
      exact gp_3v bi ve d s t p ra n cap w hp hn c5 v
    | true =>
      by_cases z : t.toList = []
      case neg =>
        rw [show decide _ = false from decide_eq_false (fun q => z (nt.2 q.2.2.1))]
        exact gp_3t bi ve d s t p ra n cap w hp hn c5 v z
      by_cases y : p.toList = []
      · rw [show decide _ = false from decide_eq_false (fun q => by have := np.1 y; omega)]
        exact gp_3p bi ve d s t p ra n cap w hp hn c5 v z y
      by_cases x : n = 0
      · rw [show decide _ = true from decide_eq_true ⟨c5, rfl, (nt.1 z), by have : p.size ≠ 0 := fun q => y (np.2 q); omega, x⟩]
        exact gp_3y bi ve d s t p ra n cap w hp hn c5 v z y (isE y) x
      · rw [show decide _ = false from decide_eq_false (fun q => x q.2.2.2.2)]
        exact gp_3n bi ve d s t p ra n cap w hp hn c5 v z y (nz x)
  · rw [fo_4, gpB_4]
    by_cases v : ve = 0
    case neg =>
      rw [show decide _ = false from decide_eq_false (fun q => v q.2.1)]
      exact gp_4v bi ve d s t p ra n cap w hp hn c5 (beq_eq_false_iff_ne.2 v)
    subst v
    by_cases z : t.toList = []
    case neg =>
      rw [show decide _ = false from decide_eq_false (fun q => z (nt.2 q.2.2.1))]
      exact gp_4t bi d s t p ra n cap w hp hn c5 z
    by_cases y : p.toList = []
    case neg =>
      rw [show decide _ = false from decide_eq_false (fun q => y (np.2 q.2.2.2.1))]
      exact gp_4p bi d s t p ra n cap w hp hn c5 z y
    have e : decide (p.size ≤ 1200 ∧ (0 : Int) = 0 ∧ t.size = 0 ∧ p.size = 0 ∧ gv 0 n V = true) = gv 0 n V := by
      rw [Bool.eq_iff_iff, decide_eq_true_eq]
      exact ⟨fun q => q.2.2.2.2, fun q => ⟨c5, rfl, nt.1 z, np.1 y, q⟩⟩
    rw [e]
    exact gp_4y bi d s t p ra n cap w hp hn c5 z y V hR
  · rw [fo_5, gpB_5]
    by_cases v : ve = 0
    case neg =>
      rw [show decide _ = false from decide_eq_false (fun q => v q.2.1)]
      exact gp_5v bi ve d s t p ra n cap w hp hn c5 (beq_eq_false_iff_ne.2 v)
    subst v
    by_cases z : s.toList = []
    case neg =>
      rw [show decide _ = false from decide_eq_false (fun q => z (ns.2 q.2.2.1))]
      exact gp_5s bi d s t p ra n cap w hp hn c5 z
    by_cases y : t.toList = []
    case neg =>
      rw [show decide _ = false from decide_eq_false (fun q => y (nt.2 q.2.2.2.1))]
      exact gp_5t bi d s t p ra n cap w hp hn c5 z y
    by_cases x : n = 0
    · rw [show decide _ = true from decide_eq_true ⟨c5, rfl, ns.1 z, nt.1 y, x⟩]
      exact gp_5y bi d s t p ra n cap w hp hn c5 z y x
    · rw [show decide _ = false from decide_eq_false (fun q => x q.2.2.2.2)]
      exact gp_5n bi d s t p ra n cap w hp hn c5 z y (nz x)

theorem formOf_any (f : Int) (w : World) (hf : f = 0 ∨ f = 1 ∨ f = 2 ∨ f = 3 ∨ f = 4 ∨ f = 5) :
    Calls Try.prog 53 #[.int .i64 f] w fun e w' => e = .returned (.tuple #[fo f, .bool true]) ∧ w' = w := by
  rcases hf with rfl | rfl | rfl | rfl | rfl | rfl
  · exact formOf_0 w
  · exact formOf_1 w
  · exact formOf_2 w
  · exact formOf_3 w
  · exact formOf_4 w
  · exact formOf_5 w

set_option maxHeartbeats 4000000 in
theorem implGood_any (f bi ve : Int) (d s t p : ByteArray) (ra : Option Addr) (n cap : Nat) (V : Nat → Int) (w : World) (hd : d.size ≤ 1048576) (hs : s.size ≤ 1048576) (ht : t.size ≤ 1048576) (hp : p.size ≤ 1048576) (hn : n ≤ 1048576) (hR : Ia w ra n cap V) :
    Calls Try.prog 23 #[hv f bi ve d s t p ra n cap] w fun e w' => e = .returned (.bool (gh f bi ve d.size s.size t.size p.size n V)) ∧ Below w.heap.size w w' := by
  by_cases k : f = 0 ∨ f = 1 ∨ f = 2 ∨ f = 3 ∨ f = 4 ∨ f = 5
  case neg =>
    have e : gh f bi ve d.size s.size t.size p.size n V = false := decide_eq_false (fun q => k (gpB_lim q.2.2.2.2).2.2.2.2)
    have HN := hide (fun W => formOf_no W f (beq_eq_false_iff_ne.2 (by omega)) (beq_eq_false_iff_ne.2 (by omega)) (beq_eq_false_iff_ne.2 (by omega)) (beq_eq_false_iff_ne.2 (by omega)) (beq_eq_false_iff_ne.2 (by omega)) (beq_eq_false_iff_ne.2 (by omega)))
    rw [e]
    clear e k hR
    go_enter Try.func23, Try.ntmps23
    go_wp2_with (go_at_call 53; refine (unhide HN _).mono ?_; rintro e w' ⟨rfl, rfl⟩)
    go_ret
    exact ⟨rfl, (Below.refl _ _).alloc (Nat.le_refl _) _⟩
  have HN := hide (fun W => formOf_any f W k)
  have HG := hide (fun W (hb : Below w.heap.size w W) => goodParts_any f bi ve d s t p ra n cap V W ht hp hn (hR.below hb) k)
  clear k hR
  generalize fo f = fv at *
  have no : ¬ (d.size ≤ 20 ∧ s.size ≤ 20 ∧ 0 ≤ bi ∧ bi ≤ 15) → Hid (gh f bi ve d.size s.size t.size p.size n V = false) := fun h => decide_eq_false (fun q => h ⟨q.1, q.2.1, q.2.2.1, q.2.2.2.1⟩)
  by_cases c3 : 0 ≤ bi
  case neg =>
    have HF := no (fun q => c3 q.2.2.1)
    clear no
    go_enter Try.func23, Try.ntmps23
    go_wp2_with (go_at_call 53; refine (unhide HN _).mono ?_; rintro e w' ⟨rfl, rfl⟩)
    go_ret
    exact ⟨by rw [unhide HF]; rfl, (Below.refl _ _).alloc (Nat.le_refl _) _⟩
  by_cases c3' : bi ≤ 15
  case neg =>
    have HF := no (fun q => c3' q.2.2.2)
    clear no
    go_enter Try.func23, Try.ntmps23
    go_wp2_with (go_at_call 53; refine (unhide HN _).mono ?_; rintro e w' ⟨rfl, rfl⟩)
    go_ret
    exact ⟨by rw [unhide HF]; rfl, (Below.refl _ _).alloc (Nat.le_refl _) _⟩
  by_cases c1 : d.size ≤ 20
  case neg =>
    have HF := no (fun q => c1 q.1)
    clear no
    go_enter Try.func23, Try.ntmps23
    go_wp2_with (go_at_call 53; refine (unhide HN _).mono ?_; rintro e w' ⟨rfl, rfl⟩)
    go_ret
    exact ⟨by rw [unhide HF]; rfl, (Below.refl _ _).alloc (Nat.le_refl _) _⟩
  by_cases c2 : s.size ≤ 20
  case neg =>
    have HF := no (fun q => c2 q.2.1)
    clear no
    go_enter Try.func23, Try.ntmps23
    go_wp2_with (go_at_call 53; refine (unhide HN _).mono ?_; rintro e w' ⟨rfl, rfl⟩)
    go_ret
    exact ⟨by rw [unhide HF]; rfl, (Below.refl _ _).alloc (Nat.le_refl _) _⟩
  have HF : Hid (gh f bi ve d.size s.size t.size p.size n V = gpB f ve s.size t.size p.size n V) := by
    show _ = _
    unfold gh
    rw [Bool.eq_iff_iff, decide_eq_true_eq]
    exact ⟨fun q => q.2.2.2.2, fun q => ⟨c1, c2, by omega, by omega, q⟩⟩
  rw [unhide HF]
  clear no HF
  generalize gpB f ve s.size t.size p.size n V = r at *
  go_enter Try.func23, Try.ntmps23
  go_wp2_with (first | (go_at_call 53; refine (unhide HN _).mono ?_; rintro e w' ⟨rfl, rfl⟩) | (go_at_call 54; refine (unhide HG _ ((Below.refl _ _).alloc (Nat.le_refl _) _)).mono ?_; rintro e w2 ⟨rfl, hb2⟩))
  go_ret
  exact ⟨rfl, ((Below.refl _ _).alloc (Nat.le_refl _) _).trans (hb2.mono (by simp))⟩
end Go.Proofs.Ytbabipaipbjlbaa
