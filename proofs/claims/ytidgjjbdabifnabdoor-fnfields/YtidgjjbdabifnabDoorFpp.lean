/-
  Numbers with what stands above them: their bytes, and how they are read (pure).
-/
import Derived.Test.YtidgjjbdabifnabDoorBase
namespace Go.Proofs.YtidgjjbdabifnabDoor.Rc
set_option linter.unusedVariables false
set_option maxRecDepth 100000

/-- what is left of a number, seven bits a byte -/
def tlF : Nat → Nat → List UInt8
  | 0, n => [UInt8.ofNat n]
  | f + 1, n => if n ≤ 127 then [UInt8.ofNat n] else UInt8.ofNat (n % 128 + 128) :: tlF f (n / 128)
theorem tlF_one (f n : Nat) (h : n ≤ 127) : tlF f n = [UInt8.ofNat n] := by
  cases f with
  | zero => rfl
  | succ f => exact if_pos h
theorem tlF_more (f n : Nat) (h : ¬ n ≤ 127) : tlF (f + 1) n = UInt8.ofNat (n % 128 + 128) :: tlF f (n / 128) := if_neg h
theorem tlF_len : ∀ f n : Nat, 1 ≤ (tlF f n).length ∧ (tlF f n).length ≤ f + 1
  | 0, n => by simp [tlF]
  | f + 1, n => by
    by_cases h : n ≤ 127
    · rw [tlF_one _ _ h]; simp
    · rw [tlF_more _ _ h]
      have := tlF_len f (n / 128)
      simp only [List.length_cons]
      omega
/-- the highest number of so many bits -/
def mI (b : Nat) : Nat := 2 ^ b - 1
/-- the bytes of a number with what stands above it -/
def pfL (n b first : Nat) : List UInt8 := if n < mI b then [UInt8.ofNat (first + n)] else UInt8.ofNat (first + mI b) :: tlF 4 (n - mI b)
theorem pfL_len (n b first : Nat) : 1 ≤ (pfL n b first).length ∧ (pfL n b first).length ≤ 6 := by
  unfold pfL
  split
  · simp
  · have := tlF_len 4 (n - mI b)
    simp only [List.length_cons]
    omega
/-- as a text -/
def pfT (n b first : Nat) : ByteArray := ⟨(pfL n b first).toArray⟩
theorem mI_cases (b : Nat) (h0 : 3 ≤ b) (h1 : b ≤ 8) : b = 3 ∧ mI b = 7 ∨ b = 4 ∧ mI b = 15 ∨ b = 5 ∧ mI b = 31 ∨ b = 6 ∧ mI b = 63 ∨ b = 7 ∧ mI b = 127 ∨ b = 8 ∧ mI b = 255 := by
  have : b = 3 ∨ b = 4 ∨ b = 5 ∨ b = 6 ∨ b = 7 ∨ b = 8 := by omega
  rcases this with rfl | rfl | rfl | rfl | rfl | rfl <;> decide
theorem mI_pos (b : Nat) : 2 ^ b = mI b + 1 := by have := Nat.two_pow_pos b; unfold mI; omega
/-- a number goes on: from the bytes that stand behind the first one -/
def tkG : List UInt8 → Nat → Nat → Option (Nat × Nat)
  | [], _, _ => none
  | c :: l, n, k => if 1000000000 < n + c.toNat % 128 * 128 ^ k then none else if c.toNat < 128 then some (n + c.toNat % 128 * 128 ^ k, k + 2) else tkG l (n + c.toNat % 128 * 128 ^ k) (k + 1)
/-- what stands at the front of a text -/
def tkP (l : List UInt8) (b : Nat) : Option (Nat × Nat × Nat) :=
  match l with
  | [] => none
  | c :: l => if c.toNat % (mI b + 1) < mI b then some (c.toNat % (mI b + 1), c.toNat - c.toNat % (mI b + 1), 1) else
    match tkG (l.take 5) (mI b) 0 with
    | none => none
    | some (n, k) => some (n, c.toNat - c.toNat % (mI b + 1), k)
/-- a number that is told comes back, whatever stands behind it -/
theorem tkG_tlF : ∀ (f n m k : Nat) (more : List UInt8), n < 128 ^ (f + 1) → f + k ≤ 4 → m + n * 128 ^ k ≤ 1000000000 →
    tkG ((tlF f n ++ more).take (f + 1)) m k = some (m + n * 128 ^ k, k + 1 + (tlF f n).length)
  | f, n, m, k, more, hn, hk, hm => by
    by_cases h : n ≤ 127
    · rw [tlF_one f n h]
      have h1 : (UInt8.ofNat n).toNat = n := by simp; omega
      have h2 : n % 128 = n := Nat.mod_eq_of_lt (by omega)
      rw [List.singleton_append, List.take_succ_cons]
      unfold tkG
      rw [h1, h2, if_neg (by omega), if_pos (by omega)]
      simp
    · cases f with
      | zero => simp at hn; omega
      | succ f =>
        rw [tlF_more f n h, List.cons_append, List.take_succ_cons]
        have h1 : (UInt8.ofNat (n % 128 + 128)).toNat = n % 128 + 128 := by simp; omega
        have h2 : (n % 128 + 128) % 128 = n % 128 := by omega
        have e1 : n = 128 * (n / 128) + n % 128 := (Nat.div_add_mod n 128).symm
        have e2 : n * 128 ^ k = n / 128 * 128 ^ (k + 1) + n % 128 * 128 ^ k := by
          have : n / 128 * 128 ^ (k + 1) = (128 * (n / 128)) * 128 ^ k := by rw [Nat.pow_succ]; ac_rfl
          rw [this, ← Nat.add_mul]
          exact congrArg (· * 128 ^ k) e1
        unfold tkG
        rw [h1, h2, if_neg (by omega), if_neg (by omega)]
        have hq : n / 128 < 128 ^ (f + 1) := by
          rw [Nat.pow_succ] at hn
          exact Nat.div_lt_of_lt_mul (by rw [Nat.mul_comm]; exact hn)
        rw [tkG_tlF f (n / 128) (m + n % 128 * 128 ^ k) (k + 1) more hq (by omega) (by omega)]
        simp only [List.length_cons]
        congr 2
        · omega
        · omega
/-- what is told is read, whatever stands behind it -/
theorem tkP_pfL (n b first : Nat) (more : List UInt8) (hn : n ≤ 1000000000) (h0 : 3 ≤ b) (h1 : b ≤ 8) (hf : first ≤ 255) (hd : first % 2 ^ b = 0) :
    tkP (pfL n b first ++ more) b = some (n, first, (pfL n b first).length) := by
  rw [mI_pos] at hd
  have hm := mI_cases b h0 h1
  unfold pfL
  obtain ⟨m, hmb⟩ : ∃ m, mI b = m := ⟨_, rfl⟩
  rw [hmb] at hd hm ⊢
  by_cases h : n < m
  · rw [if_pos h]
    have e1 : (UInt8.ofNat (first + n)).toNat = first + n := by
      simp
      rcases hm with ⟨_, rfl⟩ | ⟨_, rfl⟩ | ⟨_, rfl⟩ | ⟨_, rfl⟩ | ⟨_, rfl⟩ | ⟨_, rfl⟩ <;> omega
    have e2 : (first + n) % (m + 1) = n := by
      rw [Nat.add_mod, hd, Nat.zero_add, Nat.mod_mod, Nat.mod_eq_of_lt (by omega)]
    have e3 : tkP ([UInt8.ofNat (first + n)] ++ more) b = if (UInt8.ofNat (first + n)).toNat % (mI b + 1) < mI b then some ((UInt8.ofNat (first + n)).toNat % (mI b + 1), (UInt8.ofNat (first + n)).toNat - (UInt8.ofNat (first + n)).toNat % (mI b + 1), 1) else match tkG (more.take 5) (mI b) 0 with
      | none => none
      | some (q, k) => some (q, (UInt8.ofNat (first + n)).toNat - (UInt8.ofNat (first + n)).toNat % (mI b + 1), k) := rfl
    rw [e3, hmb, e1, e2, if_pos h]
    simp
  · rw [if_neg h]
    have e1 : (UInt8.ofNat (first + m)).toNat = first + m := by
      simp
      rcases hm with ⟨_, rfl⟩ | ⟨_, rfl⟩ | ⟨_, rfl⟩ | ⟨_, rfl⟩ | ⟨_, rfl⟩ | ⟨_, rfl⟩ <;> omega
    have e2 : (first + m) % (m + 1) = m := by
      rw [Nat.add_mod, hd, Nat.zero_add, Nat.mod_mod, Nat.mod_eq_of_lt (by omega)]
    have e3 : tkP (UInt8.ofNat (first + m) :: tlF 4 (n - m) ++ more) b = if (UInt8.ofNat (first + m)).toNat % (mI b + 1) < mI b then some ((UInt8.ofNat (first + m)).toNat % (mI b + 1), (UInt8.ofNat (first + m)).toNat - (UInt8.ofNat (first + m)).toNat % (mI b + 1), 1) else match tkG ((tlF 4 (n - m) ++ more).take 5) (mI b) 0 with
      | none => none
      | some (q, k) => some (q, (UInt8.ofNat (first + m)).toNat - (UInt8.ofNat (first + m)).toNat % (mI b + 1), k) := rfl
    rw [e3, hmb, e1, e2, if_neg (by omega), tkG_tlF 4 (n - m) m 0 more (by omega) (by omega) (by omega)]
    dsimp only
    congr 2
    · omega
    · congr 1
      · omega
      · simp only [List.length_cons]
        omega
end Go.Proofs.YtidgjjbdabifnabDoor.Rc
