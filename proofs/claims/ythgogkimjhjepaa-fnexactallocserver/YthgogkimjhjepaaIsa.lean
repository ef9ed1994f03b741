/-
  Contracts: a server put behind the others by slices.Insert.
-/
import Derived.Test.YthgogkimjhjepaaPlp
namespace Go.Proofs.Ythgogkimjhjepaa
open Go.ChangeShapes Go.WideShapes Go.ChangeAt Go.RowKit Go.Deep
set_option linter.unusedVariables false
set_option maxRecDepth 100000

/-- what a server put among the others leaves -/
def InsP (base : Nat) (v : Value) (L : List AlD) (D : AlD) (i : Nat) (w0 : World) (e : Ending) (w' : World) : Prop :=
  ∃ v', e = .returned v' ∧ Oa base w' v' (L.take i ++ D :: L.drop i) ∧ w0.grownBy w' v.ownBlock ∧ (v'.ownBlock = v.ownBlock ∨ ∃ g, v'.ownBlock = some g ∧ w0.heap.size ≤ g)
theorem InsP.mk {base : Nat} {v v' : Value} {L : List AlD} {D : AlD} {i : Nat} {w0 w' : World} (h1 : Oa base w' v' (L.take i ++ D :: L.drop i)) (h2 : w0.grownBy w' v.ownBlock) (h3 : v'.ownBlock = v.ownBlock ∨ ∃ g, v'.ownBlock = some g ∧ w0.heap.size ≤ g) : InsP base v L D i w0 (.returned v') w' := ⟨v', rfl, h1, h2, h3⟩
set_option maxHeartbeats 1000000 in
theorem insA_end (base : Nat) (v : Value) (L : List AlD) (D : AlD) (w : World) (hN : L.length ≤ 1000) (hO : Oa base w v L) (hb : base ≤ w.heap.size) :
    Calls Try.prog 33 #[v, .int .i64 L.length, .slice (some ⟨w.heap.size, 0, none⟩) 1 1] (w.alloc (.cells #[.string D.i, .string D.b] 45)) (InsP base v L D L.length (w.alloc (.cells #[.string D.i, .string D.b] 45))) := by
  have A0 : Below w.heap.size w (w.alloc (.cells #[.string D.i, .string D.b] 45)) := (Below.refl _ _).alloc (Nat.le_refl _) _
  obtain ⟨v', w', hrun, hO', hg, hbl⟩ := appA (w.alloc (.cells #[.string D.i, .string D.b] 45)) 41 base v L (hO.below A0) (some ⟨w.heap.size, 0, none⟩) 1 [D] (sc_al w D _) (by show _ + 1 ≤ _; omega) (by simp; omega)
  have RUN : Hid ((Builtin.append_ #[41, 41] 41 #[v, .slice (some ⟨w.heap.size, 0, none⟩) 1 1]).run Try.prog (w.alloc (.cells #[.string D.i, .string D.b] 45)) = .ok v' w') := hrun
  have HO : Hid (InsP base v L D L.length (w.alloc (.cells #[.string D.i, .string D.b] 45)) (.returned v') w') := InsP.mk (by rw [List.take_length, List.drop_length]; exact hO') hg (hbl.imp id fun h => ⟨_, h, Nat.le_refl _⟩)
  rcases hO.2 with ⟨rfl, e0⟩ | ⟨g, cap, cur, rfl, _, _, hc, _⟩
  · obtain rfl : L = [] := List.length_eq_zero_iff.1 e0
    clear hrun hO' hg hbl A0 hO e0
    go_enter Try.func33, Try.ntmps33
    go_wp2_with (at_builtin; refine wpl_app rfl _ _ 41 rfl _ _ _ _ rfl rfl (unhide RUN) ?_)
    all_goals
      go_ret
      have hh := unhide HO
      exact hh
  · have hcI : (L.length : Int) ≤ (cap : Int) := by omega
    clear hrun hO' hg hbl A0 hO
    go_enter Try.func33, Try.ntmps33
    go_wp2_with (at_builtin; refine wpl_app rfl _ _ 41 rfl _ _ _ _ rfl rfl (unhide RUN) ?_)
    all_goals
      go_ret
      have hh := unhide HO
      exact hh
end Go.Proofs.Ythgogkimjhjepaa
