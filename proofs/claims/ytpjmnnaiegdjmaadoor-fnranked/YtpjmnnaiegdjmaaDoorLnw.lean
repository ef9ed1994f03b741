/-
  Contracts: the model's words that a hash needs; its Sha256.
-/
import Derived.Test.YtpjmnnaiegdjmaaDoorLsm
import Derived.Test.YtpjmnnaiegdjmaaDoorSsh
namespace Go.Proofs.YtpjmnnaiegdjmaaDoor
open Go.ChangeShapes Go.WideShapes Go.ChangeAt Go.RowKit
set_option linter.unusedVariables false

theorem Ow.row {base : Nat} {w : World} {v : Value} {n : Nat} {f : Nat → Nat} (h : Ow base w v n f) (hn : 0 < n) : ∃ g cap, v = .slice (some ⟨g, 0, none⟩) n cap ∧ Rw w g 0 n f := by
  obtain ⟨a, cap, rfl, hop⟩ := h.opens
  obtain ⟨g, rfl, hg, hA⟩ := hop hn
  exact ⟨g, cap, rfl, hA.r⟩
set_option maxRecDepth 100000 in
set_option maxHeartbeats 1000000 in
theorem specNew (w : World) :
    Calls Tryd.prog 32 #[] w fun e w' => ∃ hb gw cw gf cf, e = .returned (.pointer (some ⟨hb, 0, none⟩)) ∧ L4 w' hb gw cw gf cf ∧ Below w.heap.size w w' := by
  have H1 : Hid (∀ W, Calls Tryd.prog 60 #[.int .i64 64, .int .i64 3] W fun e w' => ∃ v, e = .returned v ∧ Ow W.heap.size w' v 64 KW ∧ Below W.heap.size W w') := fun W => specWords 64 3 rootC (by omega) (by omega) (by omega) rootC_is W
  have H2 : Hid (∀ W, Calls Tryd.prog 60 #[.int .i64 8, .int .i64 2] W fun e w' => ∃ v, e = .returned v ∧ Ow W.heap.size w' v 8 HW ∧ Below W.heap.size W w') := fun W => specWords 8 2 rootQ (by omega) (by omega) (by omega) rootQ_is W
  go_enter Tryd.func32, Tryd.ntmps32
  go_wp2_with fail
  refine (unhide H1 _).mono ?_
  rintro e w1 ⟨v1, rfl, o1, b1⟩
  obtain ⟨gw, cw, rfl, r1⟩ := o1.row (by omega)
  have R1 := hide r1
  have B1 := hide b1
  clear o1 r1 b1 H1
  go_wp2_with fail
  refine (unhide H2 _).mono ?_
  rintro e w2 ⟨v2, rfl, o2, b2⟩
  obtain ⟨gf, cf, rfl, r2⟩ := o2.row (by omega)
  have al := (Below.refl w2.heap.size w2).alloc (Nat.le_refl _) (.cells #[.slice (some ⟨gw, 0, none⟩) 64 cw, .slice (some ⟨gf, 0, none⟩) 8 cf] 75)
  have hs1 := (unhide B1).size
  have hs2 := b2.size
  have Q : Hid (L4 (w2.alloc (.cells #[.slice (some ⟨gw, 0, none⟩) 64 cw, .slice (some ⟨gf, 0, none⟩) 8 cf] 75)) w2.heap.size gw cw gf cf) := ⟨by simp, by simp, ((unhide R1).kept b2).kept al, r2.kept al, by simp⟩
  have B := hide (((unhide B1).trans (b2.mono hs1)).trans (al.mono (by omega)))
  clear o2 r2 b2 al B1 H2
  go_wp2
  go_ret
  exact ⟨_, _, _, _, _, rfl, unhide Q, unhide B⟩
end Go.Proofs.YtpjmnnaiegdjmaaDoor
