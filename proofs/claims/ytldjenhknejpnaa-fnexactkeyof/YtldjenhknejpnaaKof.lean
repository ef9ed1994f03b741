/-
  Contracts: KeyOf of both sides.
-/
import Derived.Test.YtldjenhknejpnaaMnt
namespace Go.Proofs.Ytldjenhknejpnaa
open Go.ChangeShapes Go.WideShapes Go.ChangeAt Go.RowKit
set_option linter.unusedVariables false
set_option maxRecDepth 100000

/-- the key that a packet is picked by -/
def kyW (a d : ByteArray) : Bool → ByteArray
  | true => (⟨#[100]⟩ : ByteArray) ++ d
  | false => (⟨#[97]⟩ : ByteArray) ++ a
/-- whether KeyOf says yes -/
def kyB (a d : ByteArray) : Bool := decide (1 ≤ a.size ∧ a.size ≤ 18) && decide (d.size ≤ 20)
/-- what it answers -/
def kyR (a d : ByteArray) (l : Bool) : Bool → ByteArray
  | true => kyW a d l
  | false => ⟨#[]⟩
set_option maxHeartbeats 1000000 in
theorem implKy (a d : ByteArray) (l : Bool) (ha : a.size ≤ 1048576) (hd : d.size ≤ 1048576) (w : World) :
    Calls Try.prog 16 #[.string a, .string d, .bool l] w fun e w' => e = .returned (.tuple #[.string (kyR a d l (kyB a d)), .bool (kyB a d)]) ∧ Below w.heap.size w w' := by
  have HA := hide (goodAd a ha)
  unfold kyB
  cases e1 : decide (1 ≤ a.size ∧ a.size ≤ 18) with
  | false =>
    rw [e1] at HA
    rw [Bool.false_and]
    clear e1
    go_enter Try.func16, Try.ntmps16
    go_wp2_with fail
    refine (unhide HA _).mono ?_
    rintro e w1 ⟨rfl, b1⟩
    have B1 := hide b1
    clear b1
    go_wp2
    go_ret2
    exact ⟨rfl, unhide B1⟩
  | true =>
    rw [e1] at HA
    rw [Bool.true_and]
    have s1 := of_decide_eq_true e1
    have HW := hide (within_one d 20 (by omega) hd)
    cases e2 : decide (d.size ≤ 20) with
    | false =>
      rw [e2] at HW
      clear e1 e2 s1
      go_enter Try.func16, Try.ntmps16
      go_wp2_with fail
      refine (unhide HA _).mono ?_
      rintro e w1 ⟨rfl, b1⟩
      have B1 := hide b1
      clear b1
      go_wp2_with fail
      refine (unhide HW _ _ _ (by simp)).mono ?_
      rintro e w2 ⟨rfl, h9⟩
      rw [h9]
      clear h9 w2
      go_wp2
      go_ret2
      exact ⟨rfl, (unhide B1).alloc (unhide B1).size _⟩
    | true =>
      rw [e2] at HW
      have s2 := of_decide_eq_true e2
      have ad1 := fun W : World => run_string_add_sum (P := Try.prog) (w := W) (⟨#[100]⟩ : ByteArray) d (by show 1 + d.size ≤ _; omega)
      have ad2 := fun W : World => run_string_add_sum (P := Try.prog) (w := W) (⟨#[97]⟩ : ByteArray) a (by show 1 + a.size ≤ _; omega)
      unfold kyR kyW
      generalize (⟨#[100]⟩ : ByteArray) ++ d = x at *
      generalize (⟨#[97]⟩ : ByteArray) ++ a = y at *
      clear e1 e2 s1 s2
      cases l <;>
      · go_enter Try.func16, Try.ntmps16
        go_wp2_with fail
        refine (unhide HA _).mono ?_
        rintro e w1 ⟨rfl, b1⟩
        have B1 := hide b1
        clear b1
        go_wp2_with fail
        refine (unhide HW _ _ _ (by simp)).mono ?_
        rintro e w2 ⟨rfl, h9⟩
        rw [h9]
        clear h9 w2
        go_wp2
        go_ret2
        exact ⟨rfl, (unhide B1).alloc (unhide B1).size _⟩
set_option maxHeartbeats 1000000 in
theorem specKy (a d : ByteArray) (l : Bool) (ha : a.size ≤ 1048576) (hd : d.size ≤ 1048576) (w : World) :
    Calls Try.prog 43 #[.string a, .string d, .bool l] w fun e w' => e = .returned (.string (kyW a d l)) ∧ w' = w := by
  have ad1 := fun W : World => run_string_add_sum (P := Try.prog) (w := W) (⟨#[100]⟩ : ByteArray) d (by show 1 + d.size ≤ _; omega)
  have ad2 := fun W : World => run_string_add_sum (P := Try.prog) (w := W) (⟨#[97]⟩ : ByteArray) a (by show 1 + a.size ≤ _; omega)
  unfold kyW
  generalize (⟨#[100]⟩ : ByteArray) ++ d = x at *
  generalize (⟨#[97]⟩ : ByteArray) ++ a = y at *
  cases l <;>
  · go_enter Try.func43, Try.ntmps43
    go_wp2
    go_ret
    exact ⟨rfl, rfl⟩
set_option maxHeartbeats 1000000 in
theorem specKyo (a d : ByteArray) (l : Bool) (ha : a.size ≤ 1048576) (hd : d.size ≤ 1048576) (w : World) :
    Calls Try.prog 15 #[.string a, .string d, .bool l] w fun e w' => e = .returned (.tuple #[.string (kyR a d l (kyB a d)), .bool (kyB a d)]) ∧ Below w.heap.size w w' := by
  have HA := hide (specAd a)
  have HK := hide (specKy a d l ha hd)
  unfold kyB
  cases e1 : decide (1 ≤ a.size ∧ a.size ≤ 18) with
  | false =>
    rw [e1] at HA
    rw [Bool.false_and]
    clear e1 HK
    go_enter Try.func15, Try.ntmps15
    go_wp2_with fail
    refine (unhide HA _).mono ?_
    rintro e w1 ⟨rfl, h9⟩
    rw [h9]
    clear h9 w1
    go_wp2
    go_ret2
    exact ⟨rfl, Below.refl _ _⟩
  | true =>
    rw [e1] at HA
    rw [Bool.true_and]
    by_cases s2 : d.size ≤ 20
    · have s3 : ¬ (20 : Int) < (d.size : Int) := by omega
      rw [decide_eq_true s2]
      unfold kyR
      generalize kyW a d l = x at *
      clear e1 s2
      go_enter Try.func15, Try.ntmps15
      go_wp2_with fail
      refine (unhide HA _).mono ?_
      rintro e w1 ⟨rfl, h9⟩
      rw [h9]
      clear h9 w1
      go_wp2_with fail
      refine (unhide HK _).mono ?_
      rintro e w1 ⟨rfl, h9⟩
      rw [h9]
      clear h9 w1
      go_wp2
      go_ret2
      exact ⟨rfl, Below.refl _ _⟩
    · have s3 : (20 : Int) < (d.size : Int) := by omega
      rw [decide_eq_false s2]
      clear e1 s2 HK
      go_enter Try.func15, Try.ntmps15
      go_wp2_with fail
      refine (unhide HA _).mono ?_
      rintro e w1 ⟨rfl, h9⟩
      rw [h9]
      clear h9 w1
      go_wp2
      go_ret2
      exact ⟨rfl, Below.refl _ _⟩
end Go.Proofs.Ytldjenhknejpnaa
