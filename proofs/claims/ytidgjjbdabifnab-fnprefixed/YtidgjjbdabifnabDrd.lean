/-
  Contracts: secrets, infos, numbers and ids that the model draws; a number of bytes.
-/
import Derived.Test.YtidgjjbdabifnabDrh
namespace Go.Proofs.Ytidgjjbdabifnab
open Go.ChangeShapes Go.WideShapes Go.ChangeAt Go.RowKit
set_option linter.unusedVariables false

set_option maxHeartbeats 1000000 in
theorem of_any (cb : Nat) (a : Option Addr) (N cap P l m c : Nat) (p : ByteArray → Prop) (w : World) (hN : N ≤ 1048576) (hP : P ≤ 900000) (h0 : 1 < m) (h1 : m ≤ 60000) (hl : l < w.heap.size) (hne : l ≠ cb)
    (hx : ∀ i, i < m → ∃ x : ByteArray, p x ∧ w.cell? ⟨l, i, none⟩ = some (.string x)) (h : Cu w cb a N cap P) :
    Calls Try.prog 32 #[.pointer (some ⟨cb, 0, none⟩), .slice (some ⟨l, 0, none⟩) m c] w fun e w' => ∃ r : ByteArray, e = .returned (.string r) ∧ p r ∧ Cu w' cb a N cap (P + 2) ∧ Kx cb w w' := by
  have HU := hide h
  have HX := hide hx
  clear h hx
  go_enter Try.func32, Try.ntmps32
  go_wp2_with fail
  refine (pick_any cb a N cap P m _ hN hP (by omega) (by omega) (unhide HU)).mono ?_
  rintro e w1 ⟨r, rfl, hr0, hr1, u1, k1⟩
  obtain ⟨i, rfl⟩ := Int.eq_ofNat_of_zero_le hr0
  obtain ⟨x, hp, hx⟩ := unhide HX i (by omega)
  have hx1 := (k1.cell (p := ⟨l, i, none⟩) hl hne).trans hx
  have HPx := hide hp
  clear hp hx
  go_wp2
  go_ret
  exact ⟨x, rfl, unhide HPx, u1, k1⟩
theorem lit_texts (w : World) (l : List ByteArray) (t : TypeId) (p : ByteArray → Prop) (h : ∀ x ∈ l, p x) : ∀ i, i < l.length → ∃ x, p x ∧ (w.alloc (.cells (l.map Value.string).toArray t)).cell? ⟨w.heap.size, i, none⟩ = some (.string x) := by
  intro i hi
  exact ⟨l[i], h _ (List.getElem_mem hi), by simp [hi]⟩
end Go.Proofs.Ytidgjjbdabifnab
