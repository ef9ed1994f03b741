/-
  Contracts: the model's blocks as two words.
-/
import Derived.Test.YtkpodgeinanceaaLbi
import Derived.Test.YtkpodgeinanceaaObs
namespace Go.Proofs.Ytkpodgeinanceaa
open Go.ChangeShapes Go.WideShapes Go.ChangeAt Go.RowKit
set_option linter.unusedVariables false

theorem orW (n c : Nat) (hn : n < 72057594037927936) (hc : c < 256) : bits .or .i64 (IntKind.i64.wrap ((n : Int) * 256)) (c : Int) = IntKind.i64.wrap ((n * 256 + c : Nat) : Int) := by
  have h1 := Nat.two_pow_add_eq_or_of_lt (i := 8) (b := c) (by omega) n
  show IntKind.i64.wrap (((BitVec.ofInt 64 (IntKind.i64.wrap ((n : Int) * 256)) ||| BitVec.ofInt 64 (c : Int)).toNat : Nat) : Int) = _
  have e1 : (BitVec.ofInt 64 (IntKind.i64.wrap ((n : Int) * 256))).toNat = 2 ^ 8 * n := by
    rw [BitVec.toNat_ofInt, IntKind.wrap_i64]
    omega
  have e2 : (BitVec.ofInt 64 (c : Int)).toNat = c := by
    rw [BitVec.toNat_ofInt]
    omega
  rw [BitVec.toNat_or, e1, e2, ← h1, Nat.mul_comm n 256]
theorem wrap64_i (z : Int) : wrap64 z = IntKind.i64.wrap z := by rw [IntKind.wrap_i64]; unfold wrap64; omega
/-- the byte k of a word -/
def byN (v k : Nat) : Nat := v / 256 ^ k % 256
theorem byN_lt (v k : Nat) : byN v k < 256 := Nat.mod_lt _ (by omega)
theorem byN_int (h k : Nat) (hh : h < 18446744073709551616) (hk : k < 8) : ((byN h k : Nat) : Int) = IntKind.i64.wrap (h : Int) / 2 ^ (8 * k) % 256 := by
  have e : k = 0 ∨ k = 1 ∨ k = 2 ∨ k = 3 ∨ k = 4 ∨ k = 5 ∨ k = 6 ∨ k = 7 := by omega
  rw [IntKind.wrap_i64]
  unfold byN
  rcases e with rfl | rfl | rfl | rfl | rfl | rfl | rfl | rfl <;> simp <;> omega
set_option maxRecDepth 100000 in
set_option maxHeartbeats 1000000 in
theorem specBig8 (s : ByteArray) (hs : s.size = 8) (w : World) :
    Calls Try.prog 38 #[.string s] w fun e w' => e = .returned (.int .i64 (IntKind.i64.wrap (nbW s 8 : Nat))) ∧ w' = w := by
  go_enter Try.func38, Try.ntmps38
  go_wp2_with fail
  go_loopw [3, 4] (fun n i wr => ∃ k : Nat, k ≤ 8 ∧ i = .int .i64 k ∧ n = .int .i64 (IntKind.i64.wrap (nbW s k : Nat)) ∧ wr = w) (fun _ i _ => 8 - (intOf i).toNat)
  case atStart => exact ⟨0, by omega, rfl, rfl, rfl⟩
  case round =>
    obtain ⟨k, hk, rfl, rfl, rfl⟩ := hrel
    by_cases hlt : k < 8
    · have hn := nbW_lt s k
      have h4 : 256 ^ k ≤ 256 ^ 7 := Nat.pow_le_pow_right (by omega) (by omega)
      have HS : Hid (nbW s (k + 1) = nbW s k * 256 + at8 s k) := rfl
      have hb : nbW s k < 72057594037927936 := by omega
      have ha := at8_lt s k
      have EO := hide (orW (nbW s k) (at8 s k) hb ha)
      have hw0 : IntKind.i64.wrap (nbW s k : Nat) = ((nbW s k : Nat) : Int) := wraps_i64 _ (by omega) (by omega)
      rw [hw0]
      have ea := at8_in s k (by omega)
      rw [ea] at EO HS
      clear h4 hn ha ea hw0
      have W8 : Hid (wrap64 ((s[k]'(by omega)).toNat : Int) = ((s[k]'(by omega)).toNat : Int)) := by
        have := UInt8.toNat_lt (s[k]'(by omega))
        exact (show wrap64 ((s[k]'(by omega)).toNat : Int) = ((s[k]'(by omega)).toNat : Int) by unfold wrap64; omega)
      generalize nbW s k = x at *
      go_wp2
      exact ⟨⟨k + 1, by omega, by go_num, by rw [unhide HS, ← unhide EO, unhide W8, wrap64_i], by first | trivial | rfl⟩, by simp [intOf]; omega⟩
    · obtain rfl : k = 8 := by omega
      go_wp2
      go_ret
      exact ⟨rfl, rfl⟩
set_option maxRecDepth 100000 in
set_option maxHeartbeats 1000000 in
theorem specFix8 (h : Nat) (hh : h < 18446744073709551616) (w : World) :
    Calls Try.prog 55 #[.int .i64 (IntKind.i64.wrap (h : Int)), .int .i64 8] w fun e w' => e = .returned (.string (bq 8 (fun i => byN h (7 - i)))) ∧ Below w.heap.size w w' := by
  obtain ⟨i0, hi0, hz0, hz1, hz2⟩ := info_u8j
  have HL := hide (fun i => byN_lt h (7 - i))
  have HI := hide (fun k (hk : k < 8) => byN_int h k hh hk)
  have hb1 : -9223372036854775808 ≤ IntKind.i64.wrap (h : Int) ∧ IntKind.i64.wrap (h : Int) < 9223372036854775808 := by rw [IntKind.wrap_i64]; omega
  generalize IntKind.i64.wrap (h : Int) = n at *
  go_enter Try.func55, Try.ntmps55
  go_wp2_with fail
  go_loopw [5, 6] (fun v kv wr => ∃ i : Nat, i ≤ 8 ∧ kv = .int .i64 (7 - (i : Int)) ∧ Ob w.heap.size wr v i (fun i => byN h (7 - i)) ∧ Below w.heap.size w wr) (fun _ kv _ => (intOf kv + 1).toNat)
  case atStart => exact ⟨0, by omega, rfl, Ob.nil _ _ _, Below.refl _ _⟩
  case round =>
    obtain ⟨i, hi, rfl, hO, hB⟩ := hrel
    by_cases hlt : i < 8
    · obtain ⟨k, hk⟩ : ∃ k : Nat, k = 7 - i := ⟨_, rfl⟩
      have hkI : 7 - (i : Int) = (k : Int) := by omega
      rw [hkI]
      have hk8 : k < 8 := by omega
      have hbs := hB.size
      have eI := unhide HI k hk8
      have al := (Below.refl wr.heap.size wr).alloc (Nat.le_refl _) (.cells #[.int .u8 (n / 2 ^ (8 * k) % 256)] 5)
      have hN : Ar (wr.alloc (.cells #[.int .u8 (n / 2 ^ (8 * k) % 256)] 5)) wr.heap.size 0 1 (fun _ => byN h k) := by
        have h9 := Ar.new wr 1 (fun _ => byN h k) 5
        have e9 : (us 1 (fun _ => byN h k)).toArray = #[.int .u8 (n / 2 ^ (8 * k) % 256)] := by
          rw [us_def]
          show #[Value.int .u8 ((byN h k : Nat) : Int)] = _
          rw [eI]
        rw [e9] at h9
        exact h9
      have O3 := hide (hO.kept al)
      have B3 := hide (hB.trans (al.mono hbs))
      have hnew : Hid (∀ j u, (us 1 (fun _ => byN h k))[j]? = some u → (wr.alloc (.cells #[.int .u8 (n / 2 ^ (8 * k) % 256)] 5)).cell? ((⟨wr.heap.size, 0, none⟩ : Addr).add j) = some u) := fun j u hu => by rw [Addr.add_mid]; exact hN.range j u hu
      have hone := hide (us_oneL 1 (fun _ => byN h k))
      have hz3 : (wr.alloc (.cells #[.int .u8 (n / 2 ^ (8 * k) % 256)] 5)).heap.size = wr.heap.size + 1 := by simp
      have HK := hide (And.intro hk hkI)
      clear al hN hO hB hk hkI eI
      go_wp2_with (at_builtin; refine wpList_append_lies _ rfl _ _ 32 rfl w.heap.size 5 i0 (.int .u8 0) 1 1 Try.underlying32 hi0 hz0 hz1 hz2 rfl (by decide) _ _ _ rfl (unhide O3) ⟨wr.heap.size, 0, none⟩ 1 1 (us 1 (fun _ => byN h k)) rfl ?c0 (unhide hnew) (unhide hone) (by omega) ?c3 ?c4 ?c5 (wr.heap.size + 1) ?c6 ?_)
      case c0 => rw [us_length]
      case c3 => unfold maxLen; omega
      case c4 => omega
      case c5 => omega
      case c6 => exact hz3
      intro g8 cap8 w8 hown hgrow hat hlt8
      rw [show us 1 (fun _ => byN h k) = us 1 (fun j => (fun i => byN h (7 - i)) (i + j)) from us_congr fun j hj => by obtain rfl : j = 0 := (by omega); rw [(unhide HK).1]; rfl] at hown
      have O8 := hide (Ob.grow hown)
      have b8 := Ob.below (unhide O3) hgrow (by rw [hz3]; omega)
      have B8 := hide ((unhide B3).trans b8)
      clear hown hgrow hat b8 O3 B3 hnew hone
      go_wp2
      exact ⟨⟨i + 1, by omega, by have := (unhide HK).2; congr 1; omega, unhide O8, unhide B8⟩, by simp [intOf]⟩
    · obtain rfl : i = 8 := by omega
      have hst := hO.string (fun i _ => unhide HL i)
      have B9 := hide hB
      clear hO hB
      go_wp2
      go_ret
      exact ⟨rfl, unhide B9⟩
end Go.Proofs.Ytkpodgeinanceaa
