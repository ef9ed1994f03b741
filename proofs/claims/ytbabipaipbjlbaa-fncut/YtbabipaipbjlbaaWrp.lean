/-
  Contracts: small things that VersionAnswer's law asks for: a number looked for in a list, copies of lists and texts, marks.
-/
import Derived.Test.YtbabipaipbjlbaaGhs
import Derived.Test.YtbabipaipbjlbaaShelf
import Derived.Test.YtbabipaipbjlbaaBaseX
import Derived.Deep.AppendLies
namespace Go.Proofs.Ytbabipaipbjlbaa
open Go.ChangeShapes Go.WideShapes Go.ChangeAt Go.RowKit
set_option linter.unusedVariables false

/-- the first n of some numbers, as a list -/
def ls (V : Nat → Int) (n : Nat) : List Int := (List.range n).map V
theorem ls_length (V : Nat → Int) (n : Nat) : (ls V n).length = n := by simp [ls]
theorem ls_getD (V : Nat → Int) (n j : Nat) (h : j < n) : (ls V n).getD j 0 = V j := by simp [ls, List.getD, h]
/-- x is among the first n -/
def has (V : Nat → Int) (n : Nat) (x : Int) : Bool := (ls V n).contains x
theorem has_no {V : Nat → Int} {n : Nat} {x : Int} (h : ∀ j, j < n → (V j == x) = false) : has V n x = false := by
  unfold has
  rw [Bool.eq_false_iff]
  intro q
  rw [List.contains_iff_mem] at q
  obtain ⟨j, hj, e⟩ := List.mem_map.1 q
  have := h j (List.mem_range.1 hj)
  rw [e] at this
  simp at this
theorem has_yes {V : Nat → Int} {n k : Nat} {x : Int} (hk : k < n) (h : V k = x) : has V n x = true := by
  unfold has
  rw [List.contains_iff_mem]
  exact List.mem_map.2 ⟨k, List.mem_range.2 hk, h⟩

set_option maxHeartbeats 1000000 in
theorem l1Has_any (g off n cap : Nat) (V : Nat → Int) (x : Int) (w : World) (hn : n ≤ 1048576) (h : Ir w g off n V) :
    Calls Try.prog 51 #[.slice (some ⟨g, off, none⟩) n cap, .int .i64 x] w fun e w' => e = .returned (.bool (has V n x)) ∧ w' = w := by
  have HR := hide h
  clear h
  go_enter Try.func51, Try.ntmps51
  go_wp2
  go_loopw [9] (fun i wr => ∃ k : Nat, k ≤ n ∧ i = .int .i64 k ∧ (∀ j, j < k → (V j == x) = false) ∧ wr = w) (fun i _ => n - (intOf i).toNat)
  case atStart => exact ⟨0, Nat.zero_le _, rfl, fun j hj => by omega, rfl⟩
  case round =>
    obtain ⟨k, hk, rfl, hok, rfl⟩ := hrel
    by_cases hlt : k < n
    · have hcf := (unhide HR).cv k hlt
      have HO := hide hok
      clear hok
      cases hw : (V k == x) with
      | true =>
        have HF : Hid (has V n x = true) := has_yes hlt (beq_iff_eq.1 hw)
        go_wp2
        go_ret
        exact ⟨by rw [unhide HF]; rfl, rfl⟩
      | false =>
        have HW := hide hw
        go_wp2
        exact ⟨⟨k + 1, by omega, by go_num, fun j hj => by by_cases e : j = k; rw [e]; exact unhide HW; exact unhide HO j (by omega), by first | trivial | rfl⟩, by simp [intOf]; omega⟩
    · obtain rfl : k = n := by omega
      have HF : Hid (has V k x = false) := has_no hok
      clear hok
      go_wp2
      go_ret
      exact ⟨by rw [unhide HF]; rfl, rfl⟩
theorem contains_any (g off n cap : Nat) (V : Nat → Int) (x : Int) (w : World) (hn : n ≤ 1048576) (h : Ir w g off n V) :
    Calls Try.prog 47 #[.slice (some ⟨g, off, none⟩) n cap, .int .i64 x] w fun e w' => e = .returned (.bool (has V n x)) ∧ w' = w := by
  have hl := ls_length V n
  refine (Try.slices_Contains_int g off n cap (ls V n) x w (by omega) (by omega) (fun j hj => by rw [hl] at hj; rw [ls_getD V n j hj]; exact h.cv j hj)).mono ?_
  rintro e w' ⟨rfl, rfl⟩
  exact ⟨by rw [List.take_of_length_le (by omega)]; rfl, rfl⟩
/-- a row of n numbers of the call's own, in block g, which was new at 'base' -/
structure Iw (w : World) (base g n : Nat) (V : Nat → Int) : Prop where
  ge : base ≤ g
  lt : g < w.heap.size
  cv : ∀ i, i < n → w.cell? ⟨g, i, none⟩ = some (.int .i64 (V i))
  bv : ∀ i, i < n → -9223372036854775808 ≤ V i ∧ V i ≤ 9223372036854775807
  fz : ∀ o, w.frozen? ⟨g, o, none⟩ = false
theorem Iw.ir {w : World} {base g n : Nat} {V : Nat → Int} (h : Iw w base g n V) : Ir w g 0 n V := ⟨Or.inr h.lt, fun i hi => by rw [Nat.zero_add]; exact h.cv i hi, h.bv⟩
theorem Iw.below {w w' : World} {base g n : Nat} {V : Nat → Int} (h : Iw w base g n V) (hb : Below w.heap.size w w') : Iw w' base g n V :=
  ⟨h.ge, Nat.lt_of_lt_of_le h.lt hb.size, fun i hi => (hb.cell (p := ⟨g, i, none⟩) h.lt).trans (h.cv i hi), h.bv, fun o => (hb.frozen (p := ⟨g, o, none⟩) h.lt).trans (h.fz o)⟩
theorem Iw.of_own {w : World} {base n : Nat} {V : Nat → Int} {v : Value} (h : w.ownsRow base 3 1 v n ((ls V n).map (Value.int .i64))) (hn : 1 ≤ n) (hV : ∀ i, i < n → -9223372036854775808 ≤ V i ∧ V i ≤ 9223372036854775807) :
    ∃ g cap, v = .slice (some ⟨g, 0, none⟩) n cap ∧ n ≤ cap ∧ Iw w base g n V := by
  rcases h.2 with ⟨_, e⟩ | ⟨g, cap, cur, rfl, hb, hg, hc, hm, hs, ht⟩
  · omega
  · have hl := ls_length V n
    refine ⟨g, cap, rfl, hc, hb, ?_, ?_, hV, ?_⟩
    · rcases Nat.lt_or_ge g w.heap.size with h' | h'
      · exact h'
      · rw [Array.getElem?_eq_none h'] at hg; cases hg
    · intro i hi
      rw [cell_of_row w g i cur 3 (0, 0) hg]
      have h1 : (cur.toList.take (n * 1))[i]? = ((ls V n).map (Value.int .i64))[i]? := by rw [ht]
      rw [List.getElem?_take, if_pos (by omega), List.getElem?_map] at h1
      rw [← Array.getElem?_toList, h1, List.getElem?_eq_getElem (by omega)]
      simp [ls]
    · exact fun o => frozen_of_row w g o cur _ hg
theorem clone_ints (g off n cap : Nat) (V : Nat → Int) (w : World) (hn : n ≤ 1048576) (hn1 : 1 ≤ n) (h : Ir w g off n V) :
    Calls Try.prog 49 #[.slice (some ⟨g, off, none⟩) n cap] w fun e w' => ∃ g' cap', e = .returned (.slice (some ⟨g', 0, none⟩) n cap') ∧ n ≤ cap' ∧ Iw w' w.heap.size g' n V ∧ Below w.heap.size w w' := by
  have hl := ls_length V n
  refine (Try.slices_Clone_int g off n cap (ls V n) w (by omega) (by omega) (fun j hj => by rw [hl] at hj; rw [ls_getD V n j hj]; exact h.cv j hj)).mono ?_
  rintro e w' ⟨v', rfl, ho, _, hb⟩
  rw [List.take_of_length_le (by omega)] at ho
  obtain ⟨g', cap', rfl, hc, hI⟩ := Iw.of_own ho hn1 h.bv
  exact ⟨g', cap', rfl, hc, hI, hb⟩
theorem Iw.setOther {w : World} {base g n : Nat} {V : Nat → Int} {a : Addr} {u : Value} (h : Iw w base g n V) (hne : a.block ≠ g) : Iw (w.setCell a u) base g n V := by
  refine ⟨h.ge, by simpa using h.lt, fun i hi => ?_, h.bv, fun o => by rw [frozen_set]; exact h.fz o⟩
  rw [World.cell?_setCell_other _ _ _ _ (by intro e; rw [e] at hne; simp at hne)]; exact h.cv i hi
end Go.Proofs.Ytbabipaipbjlbaa
