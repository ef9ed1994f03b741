/-
  Contracts of the model: a text is read with its length ahead; fields are read.
-/
import Derived.Test.YtidgjjbdabifnabDoorFrv
import Derived.Test.YtidgjjbdabifnabDoorFsx
import Derived.Deep.RegionLaw
import Derived.Deep.DeepCutAuto
namespace Go.Proofs.YtidgjjbdabifnabDoor.Rc
open Go.ChangeShapes Go.WideShapes Go.ChangeAt Go.RowKit Go.Deep
set_option linter.unusedVariables false
set_option maxRecDepth 100000

/-- what l15Text answers -/
def txA : Option (ByteArray × Nat) → Value
  | none => .tuple #[.string ⟨#[]⟩, .int .i64 (-1)]
  | some (t, k) => .tuple #[.string t, .int .i64 (k : Int)]
theorem tpA_of {s : ByteArray} {b : Nat} (h0 : 3 ≤ b) (h1 : b ≤ 8) : tpA s b = match tkP s.data.toList b with | some t => t | none => (0, 0, 0) := by
  unfold tpA
  rw [if_pos (by omega), Int.toNat_natCast]
  cases tkP s.data.toList b <;> rfl
theorem dr0 (s : ByteArray) : dr s 0 = s.data.toList := rfl
theorem tkP_n {l : List UInt8} {b n h k : Nat} (hb : b ≤ 8) (e : tkP l b = some (n, h, k)) : n ≤ 1000000000 := by
  have hG : ∀ (l : List UInt8) (n k : Nat) {m q : Nat}, tkG l n k = some (m, q) → m ≤ 1000000000 := by
    intro l
    induction l with
    | nil => intro n k m q e; cases e
    | cons c l ih =>
      intro n k m q e
      unfold tkG at e
      split at e
      · cases e
      · split at e
        · injection e with e
          injection e with e1 e2
          omega
        · exact ih _ _ e
  have hm : mI b ≤ 255 := by
    unfold mI
    have : b = 0 ∨ b = 1 ∨ b = 2 ∨ b = 3 ∨ b = 4 ∨ b = 5 ∨ b = 6 ∨ b = 7 ∨ b = 8 := by omega
    rcases this with rfl | rfl | rfl | rfl | rfl | rfl | rfl | rfl | rfl <;> decide
  cases l with
  | nil => cases e
  | cons c l =>
    unfold tkP at e
    dsimp only at e
    split at e
    · injection e with e
      injection e with e1 e2
      omega
    · split at e
      · cases e
      · next hq =>
        injection e with e
        injection e with e1 e2
        have := hG _ _ _ hq
        omega
set_option maxHeartbeats 2000000 in
theorem specLX (s : ByteArray) (b : Nat) (w : World) (hs : s.size ≤ 1048576) (h0 : 3 ≤ b) (h1 : b ≤ 8) :
    Calls Tryd.prog 31 #[.string s, .int .i64 b] w fun e w' => e = .returned (txA (tkX s.data.toList b)) ∧ Below w.heap.size w w' := by
  have HP := hide (specTP s b w (by unfold maxLen; omega))
  rw [tpA_of h0 h1] at HP
  unfold tkX
  cases hk : tkP s.data.toList b with
  | none =>
    rw [hk] at HP
    dsimp only [trip] at HP ⊢
    go_enter Tryd.func31, Tryd.ntmps31
    go_wp2_with fail
    refine (unhide HP).mono ?_
    rintro e w1 ⟨rfl, B⟩
    go_wp2
    go_ret2
    exact ⟨rfl, B⟩
  | some t =>
    obtain ⟨n, hh, k⟩ := t
    rw [hk] at HP
    dsimp only [trip] at HP ⊢
    obtain ⟨k1, k2, k3⟩ := tkP_k hk
    have k5 := tkP_n h1 hk
    have k4 : k ≤ s.size := by rw [Array.length_toList] at k3; exact k3
    have hl : s.data.toList.length = s.size := by rw [Array.length_toList]; rfl
    have hk0 : ((k : Int) == 0) = false := beq_false_of_ne (by omega)
    by_cases hlt : s.data.toList.length < k + n
    · rw [if_pos hlt]
      have hI : (s.size : Int) - (k : Int) < (n : Int) := by omega
      go_enter Tryd.func31, Tryd.ntmps31
      go_wp2_with fail
      refine (unhide HP).mono ?_
      rintro e w1 ⟨rfl, B⟩
      go_wp2
      go_ret2
      exact ⟨rfl, B⟩
    · rw [if_neg hlt]
      have hI : ¬ (s.size : Int) - (k : Int) < (n : Int) := by omega
      have hx := ext_txt s 0 k n
      rw [dr0, Nat.zero_add] at hx
      rw [hx]
      have H1 : (0 : Int) ≤ (k : Int) ∧ (k : Int) ≤ ((k + n : Nat) : Int) ∧ ((k + n : Nat) : Int) ≤ (s.size : Int) := by omega
      go_enter Tryd.func31, Tryd.ntmps31
      go_wp2_with fail
      refine (unhide HP).mono ?_
      rintro e w1 ⟨rfl, B⟩
      have HB := hide B
      clear B HP hx
      go_wp2
      go_ret2
      exact ⟨rfl, unhide HB⟩
end Go.Proofs.YtidgjjbdabifnabDoor.Rc
