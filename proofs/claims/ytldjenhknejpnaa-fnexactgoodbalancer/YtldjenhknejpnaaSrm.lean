/-
  Contracts: the model's RemoveConfig.
-/
import Derived.Test.YtldjenhknejpnaaSow
namespace Go.Proofs.Ytldjenhknejpnaa
open Go.ChangeShapes Go.WideShapes Go.ChangeAt Go.RowKit Go.Deep
set_option linter.unusedVariables false
set_option maxRecDepth 100000

/-- a piece of a row of entries as a source -/
theorem er_piece {w : World} {g : Nat} {R : List EnR} (h : ∀ i, i < R.length → Ce w g (i * 7) (rA R i).D (.slice (rA R i).ra (rA R i).D.S.length (rA R i).cap)) (lo n : Nat) (hn : lo + n ≤ R.length) :
    Er w (some ⟨g, lo * 7, none⟩) ((R.drop lo).take n) := by
  by_cases h0 : n = 0
  · subst h0; exact Or.inl (by simp)
  refine Or.inr ⟨g, lo * 7, rfl, fun i hi => ?_⟩
  have hi' : i < n := by simp at hi; omega
  have e : rA ((R.drop lo).take n) i = rA R (lo + i) := by
    have h1 : lo + i < R.length := by omega
    simp [rA, List.getD, List.getElem?_drop, hi']
  rw [e, ← Nat.add_mul]
  exact h (lo + i) (by omega)
theorem rD_map (R : List EnR) (L : List EnD) (h : R.map (·.D) = L) (i : Nat) : (R.take i ++ R.drop (i + 1)).map (·.D) = erE L i := by
  unfold erE; rw [← h, List.map_append, List.map_take, List.map_drop]
theorem er_of {w : World} {a : Option Addr} {n cap : Nat} {base : Nat} {R : List EnR} {v : Value} (hv : v = .slice a n cap) (h : Oe base w v R) (hp : ∀ r ∈ R, Pr w v r) : n = R.length ∧ Ea w a (R.map (·.D)) := by
  subst hv
  exact ⟨h.er.1, h.er.2.2.ea (fun r hr => (hp r hr).aa)⟩
/-- entries are as they were where a box beside them is written -/
theorem ea_box {w : World} {c base : Nat} {a : Option Addr} {n cap : Nat} {R : List EnR} (hB : Bx w c [.slice none 0 0]) (hO : Oe base w (.slice a n cap) R) (hc : c < base) (hP : ∀ r ∈ R, Pr w (.slice a n cap) r) (u : Value) : Ea (w.setCell ⟨c, 0, none⟩ u) a (R.map (·.D)) := by
  have O9 : Oe base (w.setCell ⟨c, 0, none⟩ u) (.slice a n cap) R := by
    refine ⟨hO.1, ?_⟩
    rcases hO.2 with q | ⟨g9, cap9, cur9, q1, q2, q3, q4⟩
    · exact Or.inl q
    · exact Or.inr ⟨g9, cap9, cur9, q1, q2, (Below.heap_setCell w ⟨c, 0, none⟩ u g9 (by show g9 ≠ c; omega)).trans q3, q4⟩
  refine (er_of rfl O9 (fun r hr => ?_)).2
  refine ⟨(hP r hr).1, ?_⟩
  rcases (hP r hr).2 with q | ⟨g, q1, q2, q3⟩
  · exact Or.inl q
  · by_cases hS9 : r.D.S = []
    · exact Or.inl hS9
    refine Or.inr ⟨g, q1, q2.move (by simp) (fun j => set_blk (fun e9 => ?_)), q3⟩
    have h1 := q2.ci 0 (List.length_pos_iff.2 hS9)
    rw [← e9, hB.cv] at h1
    simp at h1
end Go.Proofs.Ytldjenhknejpnaa
