/-
  Contracts: the model's reader over a text: bytes taken, or a code kept; numbers of several bytes; an id.
-/
import Derived.Test.YtmajcpimahkpfaaDoorCrb
namespace Go.Proofs.YtmajcpimahkpfaaDoor
open Go.ChangeShapes Go.WideShapes Go.ChangeAt Go.RowKit
set_option linter.unusedVariables false

/-- the model's reader at rb: its text, where it is, its code -/
structure Lr (w : World) (rb : Nat) (s : ByteArray) (p : Nat) (code : Int) : Prop where
  lt : rb < w.heap.size
  c0 : w.cell? ⟨rb, 0, none⟩ = some (.string s)
  c1 : w.cell? ⟨rb, 1, none⟩ = some (.int .i64 (p : Int))
  c2 : w.cell? ⟨rb, 2, none⟩ = some (.int .i64 code)
  fz : ∀ o, w.frozen? ⟨rb, o, none⟩ = false
theorem Lr.below {w w' : World} {rb p : Nat} {s : ByteArray} {code : Int} (h : Lr w rb s p code) (hb : Below w.heap.size w w') : Lr w' rb s p code := by
  obtain ⟨hc, hf⟩ := bcell hb
  exact ⟨Nat.lt_of_lt_of_le h.lt hb.size, (hc _ _ h.lt).trans h.c0, (hc _ _ h.lt).trans h.c1, (hc _ _ h.lt).trans h.c2, fun o => (hf _ _ h.lt).trans (h.fz o)⟩
theorem Lr.put {w : World} {rb p : Nat} {s : ByteArray} {code : Int} (h : Lr w rb s p code) (q : Nat) : Lr (w.setCell ⟨rb, 1, none⟩ (.int .i64 (q : Int))) rb s q code := by
  refine ⟨by simpa using h.lt, ?_, World.cell?_setCell_same _ _ _ h.c1, ?_, fun o => by simp [h.fz]⟩
  · rw [World.cell?_setCell_other _ _ _ _ (by simp)]; exact h.c0
  · rw [World.cell?_setCell_other _ _ _ _ (by simp)]; exact h.c2
theorem Lr.note {w : World} {rb p : Nat} {s : ByteArray} {code : Int} (h : Lr w rb s p code) (c : Int) : Lr (w.setCell ⟨rb, 2, none⟩ (.int .i64 c)) rb s p c := by
  refine ⟨by simpa using h.lt, ?_, ?_, World.cell?_setCell_same _ _ _ h.c2, fun o => by simp [h.fz]⟩
  · rw [World.cell?_setCell_other _ _ _ _ (by simp)]; exact h.c0
  · rw [World.cell?_setCell_other _ _ _ _ (by simp)]; exact h.c1

theorem l1In_m (n lo hi : Int) (w : World) : Calls Tryd.prog 29 #[.int .i64 n, .int .i64 lo, .int .i64 hi] w fun e w' => e = .returned (.bool (decide (lo ≤ n) && decide (n ≤ hi))) ∧ w' = w := by
  by_cases h0 : lo ≤ n
  · by_cases h1 : n ≤ hi
    · go_enter Tryd.func29, Tryd.ntmps29
      go_wp2
      go_ret
      exact ⟨by rw [decide_eq_true h0, decide_eq_true h1]; rfl, rfl⟩
    · go_enter Tryd.func29, Tryd.ntmps29
      go_wp2
      go_ret
      exact ⟨by rw [show decide (n ≤ hi) = false from decide_eq_false (by omega)]; rfl, rfl⟩
  · go_enter Tryd.func29, Tryd.ntmps29
    go_wp2
    go_ret
    exact ⟨by rw [show decide (lo ≤ n) = false from decide_eq_false (by omega)]; rfl, rfl⟩

theorem big_nil : big 0 (⟨#[]⟩ : ByteArray).data.toList = 0 := rfl
theorem st0 (c : UInt8) : st 0 c = (c.toNat : Int) := by
  have key : ∀ k : Fin 256, bits .or .i64 (wrap64 (0 * 256)) (wrap64 (k.val : Int)) = (k.val : Int) := by decide +kernel
  exact key ⟨c.toNat, c.toNat_lt⟩
theorem one_list (t : ByteArray) (h : t.size = 1) : t.data.toList = [t[0]] := by
  have hl : t.data.toList.length = 1 := by simpa using h
  match e : t.data.toList, hl with
  | [c], _ =>
    have : t.data.toList[0]'(by rw [e]; simp) = c := by simp [e]
    rw [← this]
    rfl
theorem big_single (c : UInt8) : big 0 [c] = st 0 c := by
  have h := big_snoc 0 [] c
  rw [List.nil_append] at h
  exact h
theorem big_one (s : ByteArray) (p : Nat) (h : p < s.size) : big 0 (s.extract p (p + 1)).data.toList = at8 s p := by
  have hz : (s.extract p (p + 1)).size = 1 := piece_size s p 1 h
  have e := piece_at s p 1 0 h (by omega) (by omega)
  rw [one_list _ hz, big_single, st0]
  exact e

end Go.Proofs.YtmajcpimahkpfaaDoor
