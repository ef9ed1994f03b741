/-
  Contracts: the model's SealText, TagOf, OpenText.
-/
import Derived.Test.YtgoafbhhihfkfaaL5u
import Derived.Test.YtgoafbhhihfkfaaL5c
namespace Go.Proofs.Ytgoafbhhihfkfaa
open Go.ChangeShapes Go.WideShapes Go.ChangeAt Go.RowKit
set_option linter.unusedVariables false

/-- a text counted, a tag, a text sealed -/
def cnW (key nonce t : ByteArray) : ByteArray := bq t.size (cnF key nonce t)
theorem cnW_size (key nonce t : ByteArray) : (cnW key nonce t).size = t.size := bq_size _ _
def tgW (key nonce beside sealed : ByteArray) : ByteArray := bq 16 (tgB key nonce beside.size sealed.size (at8 beside) (at8 sealed))
theorem tgW_size (key nonce beside sealed : ByteArray) : (tgW key nonce beside sealed).size = 16 := bq_size _ _
def seW (key nonce beside t : ByteArray) : ByteArray := cnW key nonce t ++ tgW key nonce beside (cnW key nonce t)
theorem seW_size (key nonce beside t : ByteArray) : (seW key nonce beside t).size = t.size + 16 := by unfold seW; rw [ByteArray.size_append, cnW_size, tgW_size]
theorem specSaid (key nonce beside : ByteArray) (h1 : key.size ≤ 1048576) (h2 : nonce.size ≤ 1048576) (h3 : beside.size ≤ 1048576) (w : World) :
    Calls Try.prog 46 #[.string key, .string nonce, .string beside] w fun e w' => e = .returned (.bool (decide (key.size = 16 ∧ nonce.size = 12 ∧ beside.size ≤ 1500))) ∧ w' = w := by
  by_cases hk : key.size = 16
  · by_cases hn : nonce.size = 12
    · by_cases hb : beside.size ≤ 1500
      · rw [decide_eq_true ⟨hk, hn, hb⟩]
        have h9 : (beside.size : Int) ≤ 1500 := by omega
        go_enter Try.func46, Try.ntmps46
        go_wp2
        go_ret
        exact ⟨rfl, rfl⟩
      · rw [decide_eq_false (fun x => hb x.2.2)]
        have h9 : ¬ (beside.size : Int) ≤ 1500 := by omega
        go_enter Try.func46, Try.ntmps46
        go_wp2
        go_ret
        exact ⟨rfl, rfl⟩
    · rw [decide_eq_false (fun x => hn x.2.1)]
      have h9 : ((nonce.size : Int) == 12) = false := by simp; omega
      go_enter Try.func46, Try.ntmps46
      go_wp2
      go_ret
      exact ⟨rfl, rfl⟩
  · rw [decide_eq_false (fun x => hk x.1)]
    have h9 : ((key.size : Int) == 16) = false := by simp; omega
    go_enter Try.func46, Try.ntmps46
    go_wp2
    go_ret
    exact ⟨rfl, rfl⟩
set_option maxRecDepth 100000 in
set_option maxHeartbeats 1000000 in
theorem specSeal (kb gk ok ck gt : Nat) (key nonce beside t : ByteArray) (hn : nonce.size = 12) (hb : beside.size ≤ 1500) (ht : t.size ≤ 1500) (w : World) (hM : SM w kb gk ok ck gt key) :
    Calls Try.prog 48 #[.pointer (some ⟨kb, 0, none⟩), .string nonce, .string beside, .string t] w fun e w' => e = .returned (.string (seW key nonce beside t)) ∧ Below w.heap.size w w' := by
  have hcs := cnW_size key nonce t
  have H1 : Hid (∀ W, SM W kb gk ok ck gt key → Calls Try.prog 62 #[.pointer (some ⟨kb, 0, none⟩), .string nonce, .string t] W fun e w' => e = .returned (.string (cnW key nonce t)) ∧ Below W.heap.size W w') := fun W h => specCount kb gk ok ck gt key nonce t hn ht W h
  have H2 : Hid (∀ W, SM W kb gk ok ck gt key → Calls Try.prog 63 #[.pointer (some ⟨kb, 0, none⟩), .string nonce, .string beside, .string (cnW key nonce t)] W fun e w' => e = .returned (.string (tgW key nonce beside (cnW key nonce t))) ∧ Below W.heap.size W w') := fun W h => specTag kb gk ok ck gt key nonce beside (cnW key nonce t) hn hb (by omega) W h
  have ad := fun W : World => run_string_add_sum (P := Try.prog) (w := W) (cnW key nonce t) (tgW key nonce beside (cnW key nonce t)) (by rw [tgW_size, cnW_size]; omega)
  have HE : Hid (cnW key nonce t ++ tgW key nonce beside (cnW key nonce t) = seW key nonce beside t) := rfl
  rw [unhide HE] at ad
  have HM := hide hM
  clear hM hcs
  generalize seW key nonce beside t = r at *
  generalize tgW key nonce beside (cnW key nonce t) = g at *
  generalize cnW key nonce t = c at *
  go_enter Try.func48, Try.ntmps48
  go_wp2_with (first
    | (go_at_call 62; refine (unhide H1 _ (unhide HM)).mono ?_; rintro e w1 ⟨rfl, b1⟩; have B1 := hide b1; clear b1)
    | (go_at_call 63; refine (unhide H2 _ ((unhide HM).keep (unhide B1))).mono ?_; rintro e w2 ⟨rfl, b2⟩; have B2 := hide b2; clear b2))
  go_ret
  exact ⟨rfl, (unhide B1).trans ((unhide B2).mono (unhide B1).size)⟩
set_option maxRecDepth 100000 in
set_option maxHeartbeats 1000000 in
theorem specST_ok (key nonce beside t : ByteArray) (h : key.size = 16 ∧ nonce.size = 12 ∧ beside.size ≤ 1500 ∧ t.size ≤ 1500) (w : World) :
    Calls Try.prog 19 #[.string key, .string nonce, .string beside, .string t] w fun e w' => e = .returned (.tuple #[.string (seW key nonce beside t), .bool true]) ∧ Below w.heap.size w w' := by
  obtain ⟨hk, hn, hb, ht⟩ := h
  have H0 := fun W => specSaid key nonce beside (by omega) (by omega) (by omega) W
  rw [decide_eq_true ⟨hk, hn, hb⟩] at H0
  have H0 := hide H0
  have H1 := hide (fun W => specKey5 key hk W)
  have H2 := hide (fun kb gk ok ck gt W (h : SM W kb gk ok ck gt key) => specSeal kb gk ok ck gt key nonce beside t hn hb ht W h)
  generalize seW key nonce beside t = r at *
  have h1 : ¬ (1500 : Int) < (t.size : Int) := by omega
  go_enter Try.func19, Try.ntmps19
  go_wp2_with (first
    | (go_at_call 46; with_reducible refine (unhide H0 _).mono ?_; rintro e w1 ⟨rfl, h9⟩; rw [h9]; clear h9 w1)
    | (go_at_call 47; with_reducible refine (unhide H1 _).mono ?_; rintro e w2 ⟨kb, gk, ok, ck, gt, rfl, m2, b2⟩; have M2 := hide m2; have B2 := hide b2; clear m2 b2)
    | (go_at_call 48; refine (unhide H2 _ _ _ _ _ _ (unhide M2)).mono ?_; rintro e w3 ⟨rfl, b3⟩; have B3 := hide b3; clear b3))
  go_ret2
  exact ⟨rfl, (unhide B2).trans ((unhide B3).mono (unhide B2).size)⟩
theorem specST_no (key nonce beside t : ByteArray) (h : ¬ (key.size = 16 ∧ nonce.size = 12 ∧ beside.size ≤ 1500 ∧ t.size ≤ 1500)) (l0 : key.size ≤ 1048576) (l1 : nonce.size ≤ 1048576) (l2 : beside.size ≤ 1048576) (l3 : t.size ≤ 1048576) (w : World) :
    Calls Try.prog 19 #[.string key, .string nonce, .string beside, .string t] w fun e w' => e = .returned (.tuple #[.string ⟨#[]⟩, .bool false]) ∧ Below w.heap.size w w' := by
  have H0 := fun W => specSaid key nonce beside l0 l1 l2 W
  by_cases hs : key.size = 16 ∧ nonce.size = 12 ∧ beside.size ≤ 1500
  · rw [decide_eq_true hs] at H0
    have H0 := hide H0
    have h1 : (1500 : Int) < (t.size : Int) := by omega
    go_enter Try.func19, Try.ntmps19
    go_wp2_with (go_at_call 46; with_reducible refine (unhide H0 _).mono ?_; rintro e w1 ⟨rfl, h9⟩; rw [h9]; clear h9 w1)
    go_ret2
    exact ⟨rfl, Below.refl _ _⟩
  · rw [decide_eq_false hs] at H0
    have H0 := hide H0
    go_enter Try.func19, Try.ntmps19
    go_wp2_with (go_at_call 46; with_reducible refine (unhide H0 _).mono ?_; rintro e w1 ⟨rfl, h9⟩; rw [h9]; clear h9 w1)
    go_ret2
    exact ⟨rfl, Below.refl _ _⟩
end Go.Proofs.Ytgoafbhhihfkfaa
