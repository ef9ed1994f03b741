/-
  Contracts: the model's reader, at any code: what is read, where it is then, and the code.
-/
import Derived.Test.YtmajcpimahkpfaaDoorLrd
namespace Go.Proofs.YtmajcpimahkpfaaDoor
open Go.ChangeShapes Go.WideShapes Go.ChangeAt Go.RowKit
set_option linter.unusedVariables false

/-- what a reader's step leaves: a text, a place, a code -/
structure T3 where
  t : ByteArray
  p : Nat
  c : Int
def takeT (s : ByteArray) (p : Nat) (c n : Int) : T3 :=
  if c ≠ 0 then ⟨⟨#[]⟩, p, c⟩ else if (s.size : Int) - p < n then ⟨⟨#[]⟩, p, 1⟩ else ⟨s.extract p (p + n.toNat), p + n.toNat, 0⟩
theorem takeT_code {s : ByteArray} {p : Nat} {c n : Int} (h : c ≠ 0) : takeT s p c n = ⟨⟨#[]⟩, p, c⟩ := by unfold takeT; exact if_pos h
theorem takeT_short {s : ByteArray} {p : Nat} {n : Int} (h : (s.size : Int) - p < n) : takeT s p 0 n = ⟨⟨#[]⟩, p, 1⟩ := by unfold takeT; rw [if_neg (by decide)]; exact if_pos h
theorem takeT_ok {s : ByteArray} {p : Nat} {n : Nat} (h : p + n ≤ s.size) : takeT s p 0 n = ⟨s.extract p (p + n), p + n, 0⟩ := by
  unfold takeT
  rw [if_neg (by decide), if_neg (by omega)]
  simp
theorem takeT_le {s : ByteArray} {p : Nat} {c n : Int} (hp : p ≤ s.size) (hn : 0 ≤ n) : (takeT s p c n).p ≤ s.size := by
  unfold takeT
  split
  · exact hp
  · split
    · exact hp
    · show p + n.toNat ≤ s.size; omega
theorem takeT_size {s : ByteArray} {p : Nat} {c n : Int} : (takeT s p c n).t.size ≤ s.size := by
  unfold takeT
  split
  · exact Nat.zero_le _
  · split
    · exact Nat.zero_le _
    · show (s.extract _ _).size ≤ _; rw [ByteArray.size_extract]; omega
/-- the number that an id's length is told by -/
def idN (s : ByteArray) (p : Nat) (c : Int) : Int := big 0 (takeT s p c 1).t.data.toList
def idT (s : ByteArray) (p : Nat) (c : Int) : T3 :=
  takeT s (takeT s p c 1).p (if (takeT s p c 1).c = 0 ∧ 20 < idN s p c then 3 else (takeT s p c 1).c) (idN s p c)
theorem idN_in (s : ByteArray) (p : Nat) (c : Int) : 0 ≤ idN s p c ∧ idN s p c < 256 := by
  unfold idN takeT
  split
  · show (0 : Int) ≤ 0 ∧ (0 : Int) < 256; omega
  · split
    · show (0 : Int) ≤ 0 ∧ (0 : Int) < 256; omega
    · rename_i h1 h2
      rw [show p + (1 : Int).toNat = p + 1 from rfl, big_one s p (by omega)]
      exact at8_in s p
/-- the number at p: it, and how many bytes it has -/
def nm (s : ByteArray) (p : Nat) : Int × Nat := tk (s.extract p s.size).data.toList
def numC (s : ByteArray) (p : Nat) (c : Int) : Int := if (nm s p).2 = 0 ∧ c = 0 then 1 else c
def textT (s : ByteArray) (p : Nat) (c : Int) : T3 := takeT s (p + (nm s p).2) (numC s p c) (nm s p).1
/-! what a number at p can be -/
theorem st_in (m : Int) (c : UInt8) (h0 : 0 ≤ m) (h1 : m < 36028797018963968) : st m c = m * 256 + c.toNat := by
  have hc := c.toNat_lt
  unfold st
  rw [show wrap64 (m * 256) = m * 256 by unfold wrap64; omega, show wrap64 (c.toNat : Int) = (c.toNat : Int) by unfold wrap64; omega, or_byte _ _ (by omega) (by omega) (by omega) (by omega) (by omega)]
def bnd : Nat → Int
  | 0 => 4611686018427387904
  | n + 1 => bnd n / 256
theorem bnd_le : ∀ n, bnd n ≤ 4611686018427387904
  | 0 => Int.le_refl _
  | n + 1 => by have := bnd_le n; show bnd n / 256 ≤ _; omega
theorem big_in : ∀ (l : List UInt8) (m : Int), 0 ≤ m → m < bnd l.length → 0 ≤ big m l ∧ big m l < 4611686018427387904
  | [], m, h0, h1 => ⟨h0, h1⟩
  | c :: l, m, h0, h1 => by
    have hc := c.toNat_lt
    have hb := bnd_le l.length
    have h2 : m < bnd l.length / 256 := h1
    have e := st_in m c h0 (by omega)
    rw [show c :: l = [c] ++ l from rfl, show big m ([c] ++ l) = big (st m c) l from List.foldl_append ..]
    exact big_in l (st m c) (by rw [e]; omega) (by rw [e]; omega)
theorem tk_in (l : List UInt8) : 0 ≤ (tk l).1 ∧ (tk l).1 < 4611686018427387904 ∧ (tk l).2 ≤ l.length := by
  cases l with
  | nil => exact ⟨by decide, by decide, by decide⟩
  | cons c r =>
    have hc := c.toNat_lt
    simp only [tk]
    split
    · exact ⟨by show (0 : Int) ≤ 0; omega, by show (0 : Int) < _; omega, Nat.zero_le _⟩
    · rename_i h
      have hl : (r.take (tkN c - 1)).length = tkN c - 1 := by rw [List.length_take]; omega
      have h8 : tkN c = 1 ∨ tkN c = 2 ∨ tkN c = 4 ∨ tkN c = 8 := by rcases quarter c with ⟨_, a⟩ | ⟨_, a⟩ | ⟨_, a⟩ | ⟨_, a⟩ <;> omega
      have := big_in (r.take (tkN c - 1)) (c.toNat % 64) (by omega) (by
        rw [hl]
        rcases h8 with a | a | a | a <;> rw [a]
        · show _ < (4611686018427387904 : Int); omega
        · show _ < (18014398509481984 : Int); omega
        · show _ < (274877906944 : Int); omega
        · show _ < (64 : Int); omega)
      exact ⟨this.1, this.2, by simp; omega⟩
theorem nm_in (s : ByteArray) (p : Nat) (hp : p ≤ s.size) : 0 ≤ (nm s p).1 ∧ (nm s p).1 < 4611686018427387904 ∧ p + (nm s p).2 ≤ s.size := by
  have h := tk_in (s.extract p s.size).data.toList
  have e : (s.extract p s.size).data.toList.length = s.size - p := by
    have : (s.extract p s.size).data.toList.length = (s.extract p s.size).size := by simp
    rw [this, ByteArray.size_extract]; omega
  unfold nm
  exact ⟨h.1, h.2.1, by omega⟩
end Go.Proofs.YtmajcpimahkpfaaDoor
