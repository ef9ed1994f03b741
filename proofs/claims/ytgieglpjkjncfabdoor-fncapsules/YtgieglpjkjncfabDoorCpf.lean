/-
  Pieces, one behind the other: what feeding them comes to (pure), and within what they are together (the program).
-/
import Derived.Test.YtgieglpjkjncfabDoorCpy
import Derived.Test.YtgieglpjkjncfabDoorRcText
import Derived.Test.YtgieglpjkjncfabDoorWtn
namespace Go.Proofs.YtgieglpjkjncfabDoor.Rc
open Go.ChangeShapes Go.WideShapes Go.ChangeAt Go.RowKit Go.Deep
set_option linter.unusedVariables false
set_option maxRecDepth 100000

/-- all pieces together -/
def cat (P : List ByteArray) : ByteArray := P.foldl (· ++ ·) ⟨#[]⟩
theorem cat_snoc (P : List ByteArray) (t : ByteArray) : cat (P ++ [t]) = cat P ++ t := by unfold cat; rw [List.foldl_append]; rfl
theorem cat_take {P : List ByteArray} {k : Nat} (h : k < P.length) : cat (P.take (k + 1)) = cat (P.take k) ++ gt textK P k := by
  have e : P.take (k + 1) = P.take k ++ [gt textK P k] := by rw [gt_of textK P k h]; exact (List.take_append_getElem h).symm
  rw [e, cat_snoc]
theorem cat_le (P : List ByteArray) : ∀ (d k : Nat), k + d = P.length → (cat (P.take k)).size ≤ (cat P).size
  | 0, k, h => by rw [List.take_of_length_le (by omega)]; exact Nat.le_refl _
  | d + 1, k, h => by
    have h1 := cat_le P d (k + 1) (by omega)
    rw [cat_take (by omega), ByteArray.size_append] at h1
    omega
theorem cat_in {P : List ByteArray} {k : Nat} (h : k ≤ P.length) : (cat (P.take k)).size ≤ (cat P).size := cat_le P (P.length - k) k (by omega)
theorem cat_w : ∀ (P : List ByteArray), (cat P).size = textW P := by
  intro P
  have h : ∀ (P : List ByteArray) (a : ByteArray), (P.foldl (· ++ ·) a).size = a.size + textW P := by
    intro P
    induction P with
    | nil => intro a; simp [textW]
    | cons t P ih => intro a; rw [List.foldl_cons, ih, ByteArray.size_append]; simp [textW, textT]; omega
  have := h P ⟨#[]⟩
  unfold cat
  rw [this]
  show 0 + textW P = textW P
  omega
/-- what the pieces come to: the capsules and how many bytes are left -/
def fedO (z : Nat) : Option (List CapsuleD × Nat) → Option (List CapsuleD × Nat)
  | none => none
  | some (L, n) => some (L, z - n)
def feed (P : List ByteArray) : Option (List CapsuleD × Nat) := if P.length ≤ 60 ∧ (cat P).size ≤ 1500 then fedO (cat P).size (fdC (cat P).data.toList) else none
theorem fdC_k {l : List UInt8} {L : List CapsuleD} {n : Nat} (h : fdC l = some (L, n)) : n ≤ l.length ∧ L.length ≤ 30 ∧ ∀ D ∈ L, gdC D = true := by
  unfold fdC at h
  split at h
  · rename_i hy
    injection h with h
    injection h with h1 h2
    rw [← h1, ← h2]
    exact ⟨wh_le l, hy.2, wh_good l⟩
  · cases h
theorem app_list (s t : ByteArray) : (s ++ t).data.toList = s.data.toList ++ t.data.toList := by
  rw [ByteArray.data_append, Array.toList_append]
theorem fdC_nil : fdC [] = some ([], 0) := by unfold fdC; rw [wh_nil]; simp
/-- what is left of the pieces so far -/
theorem left_list (s : ByteArray) (n : Nat) : (s.extract n s.size).data.toList = s.data.toList.drop n := ext_dr s n
theorem left_app (s t : ByteArray) {n : Nat} (h : n ≤ s.size) : s.extract n s.size ++ t = (s ++ t).extract n (s ++ t).size := by
  apply ByteArray.ext
  apply Array.toList_inj.1
  have hl : s.data.toList.length = s.size := by rw [Array.length_toList]; rfl
  rw [app_list, left_list, left_list, app_list, List.drop_append_of_le_length (by omega)]
theorem ext_twice (s : ByteArray) {n m : Nat} (h : n ≤ s.size) : (s.extract n s.size).extract m (s.extract n s.size).size = s.extract (n + m) s.size := by
  apply ByteArray.ext
  apply Array.toList_inj.1
  rw [left_list, left_list, left_list, List.drop_drop]
set_option maxHeartbeats 2000000 in
theorem implWT (m : Nat) (P : List ByteArray) (a : Option Addr) (c : Nat) (w : World) (hm : m ≤ 100000) (hN : P.length ≤ 1048576) (ho : ∀ i, i < P.length → (gt textK P i).size ≤ 1048576) (h : Rd textK w a P) :
    Calls Tryd.prog 27 #[.int .i64 m, .slice a P.length c] w fun e w' => e = .returned (.bool (decide ((cat P).size ≤ m))) ∧ Below w.heap.size w w' := by
  have HR := hide h
  have HO := hide ho
  clear h ho
  go_enter Tryd.func27, Tryd.ntmps27
  go_wp2_with fail
  go_loopw [0, 9] (fun mv iv wr => ∃ (k q : Nat), k ≤ P.length ∧ iv = .int .i64 k ∧ mv = .int .i64 q ∧ Hid (q + (cat (P.take k)).size = m) ∧ Hid (Below w.heap.size w wr)) (fun _ iv _ => P.length - (intOf iv).toNat)
  case atStart => exact ⟨0, m, Nat.zero_le _, rfl, rfl, rfl, Below.refl _ _⟩
  case round =>
    obtain ⟨k, q, hk, rfl, rfl, hq, hB⟩ := hrel
    by_cases hlt : k < P.length
    · rcases (unhide HR).below (unhide hB) with h9 | ⟨b, o, rfl, _, hel⟩
      · rw [h9] at hlt; exact absurd hlt (Nat.not_lt_zero _)
      have c0 := text_r0 hel hlt
      have z1 := unhide HO k hlt
      have hC := hide (cat_take hlt)
      have hIn := hide (cat_in (P := P) (k := k + 1) hlt)
      have hqm : q ≤ 100000 := by have := unhide hq; omega
      clear hel
      generalize gt textK P k = t at *
      have HV := hide (fun W g c hc => within_one t q hqm z1 W g c hc)
      have HB1 := hide (fun u => (unhide hB).alloc (unhide hB).size u)
      have hnk : (k : Int) < (P.length : Int) := by omega
      have hk0 : (0 : Int) ≤ (k : Int) := by omega
      by_cases hv : t.size ≤ q
      · rw [decide_eq_true hv] at HV
        have E : (q : Int) - (t.size : Int) = ((q - t.size : Nat) : Int) := by omega
        have HQ : Hid ((q - t.size) + (cat (P.take (k + 1))).size = m) := by show _ = _; rw [unhide hC, ByteArray.size_append]; have := unhide hq; omega
        obtain ⟨q2, hq2⟩ : ∃ q2, q - t.size = q2 := ⟨_, rfl⟩
        rw [hq2] at E HQ
        have w1 : IntKind.i64.wrap ((q : Int) - (t.size : Int)) = (q2 : Int) := by rw [E, IntKind.wrap_i64]; omega
        clear E hq2 hv hq hC hIn
        go_wp2_with fail
        refine (unhide HV _ _ _ (by simp)).mono ?_
        rintro e w2 ⟨rfl, h9⟩
        rw [h9]
        clear h9 w2
        go_wp2
        exact ⟨⟨k + 1, q2, by omega, by go_num, rfl, HQ, unhide HB1 _⟩, by simp [intOf]; omega⟩
      · rw [decide_eq_false hv] at HV
        have HE : Hid (decide ((cat P).size ≤ m) = false) := by
          show _ = _
          refine decide_eq_false (fun z => hv ?_)
          have h1 := unhide hIn
          rw [unhide hC, ByteArray.size_append] at h1
          have := unhide hq
          omega
        clear hv hq hC hIn
        go_wp2_with fail
        refine (unhide HV _ _ _ (by simp)).mono ?_
        rintro e w2 ⟨rfl, h9⟩
        rw [h9]
        clear h9 w2
        go_wp2
        go_ret
        exact ⟨by rw [unhide HE]; rfl, unhide HB1 _⟩
    · obtain rfl : k = P.length := by omega
      rw [List.take_length] at hq
      have HE : Hid (decide ((cat P).size ≤ m) = true) := decide_eq_true (by have := unhide hq; omega)
      clear hq
      go_wp2
      go_ret
      exact ⟨by rw [unhide HE]; rfl, unhide hB⟩
end Go.Proofs.YtgieglpjkjncfabDoor.Rc
