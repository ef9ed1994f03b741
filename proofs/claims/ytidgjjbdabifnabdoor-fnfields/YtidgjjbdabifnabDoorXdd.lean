/-
  Contracts: secrets, infos, numbers and ids that the model draws; a number of bytes.
-/
import Derived.Test.YtidgjjbdabifnabDoorXdh
namespace Go.Proofs.YtidgjjbdabifnabDoor.Dr
open Go.ChangeShapes Go.WideShapes Go.ChangeAt Go.RowKit
set_option linter.unusedVariables false

set_option maxHeartbeats 1000000 in
theorem of_any (cb : Nat) (a : Option Addr) (N cap P l m c : Nat) (p : ByteArray → Prop) (w : World) (hN : N ≤ 1048576) (hP : P ≤ 900000) (h0 : 1 < m) (h1 : m ≤ 60000) (hl : l < w.heap.size) (hne : l ≠ cb)
    (hx : ∀ i, i < m → ∃ x : ByteArray, p x ∧ w.cell? ⟨l, i, none⟩ = some (.string x)) (h : Cu w cb a N cap P) :
    Calls Tryd.prog 57 #[.pointer (some ⟨cb, 0, none⟩), .slice (some ⟨l, 0, none⟩) m c] w fun e w' => ∃ r : ByteArray, e = .returned (.string r) ∧ p r ∧ Cu w' cb a N cap (P + 2) ∧ Kx cb w w' := by
  have HU := hide h
  have HX := hide hx
  clear h hx
  go_enter Tryd.func57, Tryd.ntmps57
  go_wp2_with fail
  refine (pick_any cb a N cap P m _ hN hP (by omega) (by omega) (unhide HU)).mono ?_
  rintro e w1 ⟨r, rfl, hr0, hr1, u1, k1⟩
  obtain ⟨i, rfl⟩ := Int.eq_ofNat_of_zero_le hr0
  obtain ⟨x, hp, hx⟩ := unhide HX i (by omega)
  have hx1 := (k1.cell (p := ⟨l, i, none⟩) hl hne).trans hx
  have HPx := hide hp
  clear hp hx
  go_wp2
  go_ret
  exact ⟨x, rfl, unhide HPx, u1, k1⟩
theorem lit_texts (w : World) (l : List ByteArray) (t : TypeId) (p : ByteArray → Prop) (h : ∀ x ∈ l, p x) : ∀ i, i < l.length → ∃ x, p x ∧ (w.alloc (.cells (l.map Value.string).toArray t)).cell? ⟨w.heap.size, i, none⟩ = some (.string x) := by
  intro i hi
  exact ⟨l[i], h _ (List.getElem_mem hi), by simp [hi]⟩
set_option maxRecDepth 100000 in
set_option maxHeartbeats 1000000 in
theorem numberOf_any (a : Option Addr) (N cap : Nat) (w : World) (hN : N ≤ 1048576) (h : Cd w a N) :
    Calls Tryd.prog 13 #[.slice a N cap] w fun e w' => ∃ r : Nat, e = .returned (.int .i64 r) ∧ r < 1000003 ∧ Below w.heap.size w w' := by
  have HC := hide h
  clear h
  go_enter Tryd.func13, Tryd.ntmps13
  go_wp2_with fail
  go_loopw [3, 8] (fun nv iv wr => ∃ k r : Nat, k ≤ N ∧ iv = .int .i64 k ∧ nv = .int .i64 r ∧ r < 1000003 ∧ wr = w) (fun _ iv _ => N - (intOf iv).toNat)
  case atStart => exact ⟨0, 0, by omega, rfl, rfl, by omega, rfl⟩
  case round =>
    obtain ⟨k, r, hk, rfl, rfl, hr, hww⟩ := hrel
    obtain rfl := hww.symm
    by_cases hlt : k < N
    · rcases unhide HC with h0 | ⟨b, off, rfl, hl, hx⟩
      · omega
      · obtain ⟨x, hx0, hx1⟩ := hx k hlt
        clear hx HC
        go_wp2
        exact ⟨⟨k + 1, (31 * r + x) % 1000003, by omega, by go_num, by congr 1, Nat.mod_lt _ (by omega), trivial⟩, by simp [intOf]; omega⟩
    · obtain rfl : k = N := by omega
      clear HC
      go_wp2
      go_ret
      exact ⟨r, rfl, hr, Below.refl _ _⟩
end Go.Proofs.YtidgjjbdabifnabDoor.Dr
