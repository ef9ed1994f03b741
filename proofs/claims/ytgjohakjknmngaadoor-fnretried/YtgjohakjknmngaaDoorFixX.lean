/-
  Contracts: a number in so many bytes, as the model writes it. Contracts: a number's bytes put behind a slice that the call owns, as the program does it. Contracts: texts put behind a slice that the call owns. Contracts: words put behind a slice that the call owns.
-/
import Derived.Test.YtgjohakjknmngaaDoorBase
import Derived.WalkKit
import Derived.ProofKit
import Derived.OpenShut
import Derived.ShutString
import Derived.WalkSpells
import Derived.Laws.IdiomStrings
import Derived.Lib.Strings
import Derived.Deep.QuietTactic
import Derived.BigQuiet
import Derived.Deep.RegionWith
import Derived.Deep.AppendLies
import Derived.Lib.AppendStr
namespace Go.Proofs.YtgjohakjknmngaaDoor
open Go.ChangeShapes Go.WideShapes Go.ChangeAt Go.RowKit
set_option linter.unusedVariables false
set_option maxRecDepth 100000

theorem Tryd.info5 : (Tryd.prog.info? 5).map (fun i => (i.zero, i.size, i.bytes)) = some (some (.int .u8 0), 1, 1) := by kernel_rfl
/-- the byte at place k (from the lowest one) of a number, as Go shifts it -/
def bt (n : Int) (k : Nat) : UInt8 := UInt8.ofNat ((n / 2 ^ (8 * k)) % 256).toNat
theorem bt_toNat (n : Int) (k : Nat) : ((bt n k).toNat : Int) = n / 2 ^ (8 * k) % 256 := by
  have h0 : 0 ≤ n / 2 ^ (8 * k) % 256 := Int.emod_nonneg _ (by decide)
  have h1 : n / 2 ^ (8 * k) % 256 < 256 := Int.emod_lt_of_pos _ (by decide)
  unfold bt
  generalize n / 2 ^ (8 * k) % 256 = x at *
  simp
  omega
/-- the first i of the M bytes of a number -/
def fx (n : Int) (M i : Nat) : List UInt8 := (List.range i).map fun q => bt n (M - 1 - q)
theorem fx_snoc (n : Int) (M i : Nat) : fx n M (i + 1) = fx n M i ++ [bt n (M - 1 - i)] := by simp [fx, List.range_succ]
theorem fx_length (n : Int) (M i : Nat) : (fx n M i).length = i := by simp [fx]
/-- bytes as cells -/
def bs (l : List UInt8) : List Value := l.map fun c => Value.int .u8 (c.toNat : Int)
theorem bs_length (l : List UInt8) : (bs l).length = l.length := by simp [bs]
theorem bs_append (l r : List UInt8) : bs (l ++ r) = bs l ++ bs r := by simp [bs]

theorem bs_step (n : Int) (M i k : Nat) (x : Int) (h : (M : Int) - 1 - i = k) (hx : n / 2 ^ (8 * k) % 256 = x) : bs (fx n M (i + 1)) = bs (fx n M i) ++ [.int .u8 x] := by
  have e : M - 1 - i = k := by omega
  rw [fx_snoc, bs_append, e, ← hx]
  simp only [bs, List.map_cons, List.map_nil, bt_toNat]
theorem own_string (P : Program) (w : World) (base : Nat) (src dst e : TypeId) (v : Value) (n : Nat) (l : List UInt8) (hs : P.underlying src = some (.slice e)) (he : P.underlying e = some (.int .u8)) (hd : P.underlying dst = some .string)
    (h : w.ownsRow base e 1 v n (bs l)) : (convert src dst v).run P w = .ok (.string ⟨l.toArray⟩) w := by
  have hn : l.length = n := by have := h.1; rw [bs_length] at this; omega
  subst hn
  have hc := fun g => @World.ownsRow.cells w base e 1 v l.length (bs l) h g
  rcases h.2 with ⟨rfl, h0⟩ | ⟨g, cap, cur, rfl, _, _, _, _, _, _⟩
  · have : l = [] := List.length_eq_zero_iff.1 h0
    subst this
    exact run_convert_bytes_nil w src e hs he 0 0 dst hd
  · refine run_convert_bytes_back w src dst e ⟨g, 0, none⟩ cap l hs he hd ?_
    intro j hj
    refine hc g rfl j _ ?_
    simp [bs, hj]
theorem eight (k : Nat) (h : k < 8) : k = 0 ∨ k = 1 ∨ k = 2 ∨ k = 3 ∨ k = 4 ∨ k = 5 ∨ k = 6 ∨ k = 7 := by omega

set_option maxHeartbeats 400000 in
theorem l1Fixed_any (n : Int) (M : Nat) (w : World) (hM : M ≤ 8) (hn : -9223372036854775808 ≤ n ∧ n ≤ 9223372036854775807) :
    Calls Tryd.prog 35 #[.int .i64 n, .int .i64 M] w fun e w' => e = .returned (.string ⟨(fx n M M).toArray⟩) ∧ Below w.heap.size w w' := by
  obtain ⟨i0, hi, hz0, hz1, hz2⟩ := info_parts Tryd.info5
  go_enter Tryd.func35, Tryd.ntmps35
  go_wp2
  go_loopw [5, 6] (fun v k wr => ∃ i : Nat, i ≤ M ∧ k = .int .i64 ((M : Int) - 1 - i) ∧ wr.ownsRow w.heap.size 5 1 v i (bs (fx n M i)) ∧ Below w.heap.size w wr) (fun _ k _ => (intOf k + 1).toNat)
  case atStart => exact ⟨0, Nat.zero_le _, by go_num, World.ownsRow_nil _ _ _ _, Below.refl _ _⟩
  case round =>
    obtain ⟨i, hi2, rfl, hown, hbel⟩ := hrel
    by_cases hlt : i < M
    · have h8 : (M : Int) - 1 - i = 0 ∨ (M : Int) - 1 - i = 1 ∨ (M : Int) - 1 - i = 2 ∨ (M : Int) - 1 - i = 3 ∨ (M : Int) - 1 - i = 4 ∨ (M : Int) - 1 - i = 5 ∨ (M : Int) - 1 - i = 6 ∨ (M : Int) - 1 - i = 7 := by omega
      rcases h8 with h | h | h | h | h | h | h | h
      all_goals
        rw [h]
        have HK := hide h
        clear h
      · go_wp2_with (at_builtin; refine wpList_append_own _ rfl _ _ 22 rfl w.heap.size 5 i0 (.int .u8 0) 1 1 Tryd.underlying22 hi hz0 hz1 hz2 rfl (by decide) _ _ _ rfl (hown.alloc _) ⟨wr.heap.size, 0, none⟩ 1 1 [.int .u8 (n % 256)] rfl rfl ?c1 ?c2 ?c3 ?c4 ?c5 ?_)
        case c1 =>
          intro j u hj
          match j, hj with
          | 0, hj => simp at hj; subst hj; simp [Addr.add]
        case c2 => intro u hu; simp at hu; subst hu; rfl
        case c3 => unfold maxLen; omega
        case c4 => omega
        case c5 => have := hbel.size; simp; omega
        intro v' w1 hown' hgrow _
        have R1 : Below w.heap.size w w1 := ((hbel.alloc hbel.size _)).grown hgrow (by have := hbel.size; simp; omega) (fun q hq => ((hown.lt q hq).1))
        have R2 : w1.ownsRow w.heap.size 5 1 v' (i + 1) (bs (fx n M (i + 1))) := by rw [bs_step n M i 0 (n % 256) (unhide HK) (by simp)]; exact hown'
        clear hown' hgrow hown
        go_wp2
        go_roundw
        case rel => exact ⟨i + 1, by omega, by have := unhide HK; go_num, R2, R1⟩
        case measure => simp [intOf]
      · go_wp2_with (at_builtin; refine wpList_append_own _ rfl _ _ 22 rfl w.heap.size 5 i0 (.int .u8 0) 1 1 Tryd.underlying22 hi hz0 hz1 hz2 rfl (by decide) _ _ _ rfl (hown.alloc _) ⟨wr.heap.size, 0, none⟩ 1 1 [.int .u8 (n / 256 % 256)] rfl rfl ?c1 ?c2 ?c3 ?c4 ?c5 ?_)
        case c1 =>
          intro j u hj
          match j, hj with
          | 0, hj => simp at hj; subst hj; simp [Addr.add]
        case c2 => intro u hu; simp at hu; subst hu; rfl
        case c3 => unfold maxLen; omega
        case c4 => omega
        case c5 => have := hbel.size; simp; omega
        intro v' w1 hown' hgrow _
        have R1 : Below w.heap.size w w1 := ((hbel.alloc hbel.size _)).grown hgrow (by have := hbel.size; simp; omega) (fun q hq => ((hown.lt q hq).1))
        have R2 : w1.ownsRow w.heap.size 5 1 v' (i + 1) (bs (fx n M (i + 1))) := by rw [bs_step n M i 1 (n / 256 % 256) (unhide HK) (by simp)]; exact hown'
        clear hown' hgrow hown
        go_wp2
        go_roundw
        case rel => exact ⟨i + 1, by omega, by have := unhide HK; go_num, R2, R1⟩
        case measure => simp [intOf]
      · go_wp2_with (at_builtin; refine wpList_append_own _ rfl _ _ 22 rfl w.heap.size 5 i0 (.int .u8 0) 1 1 Tryd.underlying22 hi hz0 hz1 hz2 rfl (by decide) _ _ _ rfl (hown.alloc _) ⟨wr.heap.size, 0, none⟩ 1 1 [.int .u8 (n / 65536 % 256)] rfl rfl ?c1 ?c2 ?c3 ?c4 ?c5 ?_)
        case c1 =>
          intro j u hj
          match j, hj with
          | 0, hj => simp at hj; subst hj; simp [Addr.add]
        case c2 => intro u hu; simp at hu; subst hu; rfl
        case c3 => unfold maxLen; omega
        case c4 => omega
        case c5 => have := hbel.size; simp; omega
        intro v' w1 hown' hgrow _
        have R1 : Below w.heap.size w w1 := ((hbel.alloc hbel.size _)).grown hgrow (by have := hbel.size; simp; omega) (fun q hq => ((hown.lt q hq).1))
        have R2 : w1.ownsRow w.heap.size 5 1 v' (i + 1) (bs (fx n M (i + 1))) := by rw [bs_step n M i 2 (n / 65536 % 256) (unhide HK) (by simp)]; exact hown'
        clear hown' hgrow hown
        go_wp2
        go_roundw
        case rel => exact ⟨i + 1, by omega, by have := unhide HK; go_num, R2, R1⟩
        case measure => simp [intOf]
      · go_wp2_with (at_builtin; refine wpList_append_own _ rfl _ _ 22 rfl w.heap.size 5 i0 (.int .u8 0) 1 1 Tryd.underlying22 hi hz0 hz1 hz2 rfl (by decide) _ _ _ rfl (hown.alloc _) ⟨wr.heap.size, 0, none⟩ 1 1 [.int .u8 (n / 16777216 % 256)] rfl rfl ?c1 ?c2 ?c3 ?c4 ?c5 ?_)
        case c1 =>
          intro j u hj
          match j, hj with
          | 0, hj => simp at hj; subst hj; simp [Addr.add]
        case c2 => intro u hu; simp at hu; subst hu; rfl
        case c3 => unfold maxLen; omega
        case c4 => omega
        case c5 => have := hbel.size; simp; omega
        intro v' w1 hown' hgrow _
        have R1 : Below w.heap.size w w1 := ((hbel.alloc hbel.size _)).grown hgrow (by have := hbel.size; simp; omega) (fun q hq => ((hown.lt q hq).1))
        have R2 : w1.ownsRow w.heap.size 5 1 v' (i + 1) (bs (fx n M (i + 1))) := by rw [bs_step n M i 3 (n / 16777216 % 256) (unhide HK) (by simp)]; exact hown'
        clear hown' hgrow hown
        go_wp2
        go_roundw
        case rel => exact ⟨i + 1, by omega, by have := unhide HK; go_num, R2, R1⟩
        case measure => simp [intOf]
      · go_wp2_with (at_builtin; refine wpList_append_own _ rfl _ _ 22 rfl w.heap.size 5 i0 (.int .u8 0) 1 1 Tryd.underlying22 hi hz0 hz1 hz2 rfl (by decide) _ _ _ rfl (hown.alloc _) ⟨wr.heap.size, 0, none⟩ 1 1 [.int .u8 (n / 4294967296 % 256)] rfl rfl ?c1 ?c2 ?c3 ?c4 ?c5 ?_)
        case c1 =>
          intro j u hj
          match j, hj with
          | 0, hj => simp at hj; subst hj; simp [Addr.add]
        case c2 => intro u hu; simp at hu; subst hu; rfl
        case c3 => unfold maxLen; omega
        case c4 => omega
        case c5 => have := hbel.size; simp; omega
        intro v' w1 hown' hgrow _
        have R1 : Below w.heap.size w w1 := ((hbel.alloc hbel.size _)).grown hgrow (by have := hbel.size; simp; omega) (fun q hq => ((hown.lt q hq).1))
        have R2 : w1.ownsRow w.heap.size 5 1 v' (i + 1) (bs (fx n M (i + 1))) := by rw [bs_step n M i 4 (n / 4294967296 % 256) (unhide HK) (by simp)]; exact hown'
        clear hown' hgrow hown
        go_wp2
        go_roundw
        case rel => exact ⟨i + 1, by omega, by have := unhide HK; go_num, R2, R1⟩
        case measure => simp [intOf]
      · go_wp2_with (at_builtin; refine wpList_append_own _ rfl _ _ 22 rfl w.heap.size 5 i0 (.int .u8 0) 1 1 Tryd.underlying22 hi hz0 hz1 hz2 rfl (by decide) _ _ _ rfl (hown.alloc _) ⟨wr.heap.size, 0, none⟩ 1 1 [.int .u8 (n / 1099511627776 % 256)] rfl rfl ?c1 ?c2 ?c3 ?c4 ?c5 ?_)
        case c1 =>
          intro j u hj
          match j, hj with
          | 0, hj => simp at hj; subst hj; simp [Addr.add]
        case c2 => intro u hu; simp at hu; subst hu; rfl
        case c3 => unfold maxLen; omega
        case c4 => omega
        case c5 => have := hbel.size; simp; omega
        intro v' w1 hown' hgrow _
        have R1 : Below w.heap.size w w1 := ((hbel.alloc hbel.size _)).grown hgrow (by have := hbel.size; simp; omega) (fun q hq => ((hown.lt q hq).1))
        have R2 : w1.ownsRow w.heap.size 5 1 v' (i + 1) (bs (fx n M (i + 1))) := by rw [bs_step n M i 5 (n / 1099511627776 % 256) (unhide HK) (by simp)]; exact hown'
        clear hown' hgrow hown
        go_wp2
        go_roundw
        case rel => exact ⟨i + 1, by omega, by have := unhide HK; go_num, R2, R1⟩
        case measure => simp [intOf]
      · go_wp2_with (at_builtin; refine wpList_append_own _ rfl _ _ 22 rfl w.heap.size 5 i0 (.int .u8 0) 1 1 Tryd.underlying22 hi hz0 hz1 hz2 rfl (by decide) _ _ _ rfl (hown.alloc _) ⟨wr.heap.size, 0, none⟩ 1 1 [.int .u8 (n / 281474976710656 % 256)] rfl rfl ?c1 ?c2 ?c3 ?c4 ?c5 ?_)
        case c1 =>
          intro j u hj
          match j, hj with
          | 0, hj => simp at hj; subst hj; simp [Addr.add]
        case c2 => intro u hu; simp at hu; subst hu; rfl
        case c3 => unfold maxLen; omega
        case c4 => omega
        case c5 => have := hbel.size; simp; omega
        intro v' w1 hown' hgrow _
        have R1 : Below w.heap.size w w1 := ((hbel.alloc hbel.size _)).grown hgrow (by have := hbel.size; simp; omega) (fun q hq => ((hown.lt q hq).1))
        have R2 : w1.ownsRow w.heap.size 5 1 v' (i + 1) (bs (fx n M (i + 1))) := by rw [bs_step n M i 6 (n / 281474976710656 % 256) (unhide HK) (by simp)]; exact hown'
        clear hown' hgrow hown
        go_wp2
        go_roundw
        case rel => exact ⟨i + 1, by omega, by have := unhide HK; go_num, R2, R1⟩
        case measure => simp [intOf]
      · go_wp2_with (at_builtin; refine wpList_append_own _ rfl _ _ 22 rfl w.heap.size 5 i0 (.int .u8 0) 1 1 Tryd.underlying22 hi hz0 hz1 hz2 rfl (by decide) _ _ _ rfl (hown.alloc _) ⟨wr.heap.size, 0, none⟩ 1 1 [.int .u8 (n / 72057594037927936 % 256)] rfl rfl ?c1 ?c2 ?c3 ?c4 ?c5 ?_)
        case c1 =>
          intro j u hj
          match j, hj with
          | 0, hj => simp at hj; subst hj; simp [Addr.add]
        case c2 => intro u hu; simp at hu; subst hu; rfl
        case c3 => unfold maxLen; omega
        case c4 => omega
        case c5 => have := hbel.size; simp; omega
        intro v' w1 hown' hgrow _
        have R1 : Below w.heap.size w w1 := ((hbel.alloc hbel.size _)).grown hgrow (by have := hbel.size; simp; omega) (fun q hq => ((hown.lt q hq).1))
        have R2 : w1.ownsRow w.heap.size 5 1 v' (i + 1) (bs (fx n M (i + 1))) := by rw [bs_step n M i 7 (n / 72057594037927936 % 256) (unhide HK) (by simp)]; exact hown'
        clear hown' hgrow hown
        go_wp2
        go_roundw
        case rel => exact ⟨i + 1, by omega, by have := unhide HK; go_num, R2, R1⟩
        case measure => simp [intOf]
    · obtain rfl : i = M := by omega
      have hcv := own_string Tryd.prog wr w.heap.size 22 9 5 _ _ _ Tryd.underlying22 Tryd.underlying5 Tryd.underlying9 hown
      clear hown
      go_wp2
      go_ret
      exact ⟨rfl, hbel⟩

/-! ### numbers: which are good, how many bytes they take -/
theorem l1In_any (n lo hi : Int) (w : World) :
    Calls Tryd.prog 18 #[.int .i64 n, .int .i64 lo, .int .i64 hi] w fun e w' => e = .returned (.bool (decide (lo ≤ n) && decide (n ≤ hi))) ∧ w = w' := by
  by_cases h : lo ≤ n
  · have h1 : decide (lo ≤ n) = true := by simpa using h
    go_enter Tryd.func18, Tryd.ntmps18
    go_wp2
    go_ret
    exact ⟨by rw [h1]; rfl, rfl⟩
  · have h1 : decide (lo ≤ n) = false := by simpa using h
    go_enter Tryd.func18, Tryd.ntmps18
    go_wp2
    go_ret
    exact ⟨rfl, rfl⟩
/-- a number that a varint can tell -/
def kn (n : Int) : Bool := decide (0 ≤ n) && decide (n ≤ 4611686018427387903)
def vsz (n : Int) : Nat := if n < 64 then 1 else if n < 16384 then 2 else if n < 1073741824 then 4 else 8
theorem vsz_cases (n : Int) : (n < 64 ∧ vsz n = 1) ∨ (64 ≤ n ∧ n < 16384 ∧ vsz n = 2) ∨ (16384 ≤ n ∧ n < 1073741824 ∧ vsz n = 4) ∨ (1073741824 ≤ n ∧ vsz n = 8) := by
  unfold vsz
  by_cases h1 : n < 64
  · exact Or.inl ⟨h1, by rw [if_pos h1]⟩
  · by_cases h2 : n < 16384
    · exact Or.inr (Or.inl ⟨by omega, h2, by rw [if_neg h1, if_pos h2]⟩)
    · by_cases h3 : n < 1073741824
      · exact Or.inr (Or.inr (Or.inl ⟨by omega, h3, by rw [if_neg h1, if_neg h2, if_pos h3]⟩))
      · exact Or.inr (Or.inr (Or.inr ⟨by omega, by rw [if_neg h1, if_neg h2, if_neg h3]⟩))
theorem vsz_le (n : Int) : 1 ≤ vsz n ∧ vsz n ≤ 8 := by
  rcases vsz_cases n with h | h | h | h <;> omega
theorem l1Size_any (n : Int) (w : World) :
    Calls Tryd.prog 53 #[.int .i64 n] w fun e w' => e = .returned (.int .i64 (vsz n)) ∧ w = w' := by
  rcases vsz_cases n with ⟨h1, hv⟩ | ⟨h1, h2, hv⟩ | ⟨h1, h2, hv⟩ | ⟨h1, hv⟩
  all_goals
    rw [hv]
    clear hv
    go_enter Tryd.func53, Tryd.ntmps53
    go_wp2
    go_ret
    exact ⟨rfl, rfl⟩
theorem implSize_no (n : Int) (w : World) (h : kn n = false) :
    Calls Tryd.prog 69 #[.int .i64 n] w fun e w' => e = .returned (.tuple #[.int .i64 0, .bool false]) ∧ w = w' := by
  unfold kn at h
  have h' : n < 0 ∨ 4611686018427387903 < n := by simp at h; omega
  clear h
  rcases h' with h | h
  all_goals
    go_enter Tryd.func69, Tryd.ntmps69
    go_wp2
    go_ret2
    exact ⟨rfl, rfl⟩
theorem implSize_yes (n : Int) (w : World) (h0 : 0 ≤ n) (h1 : n ≤ 4611686018427387903) :
    Calls Tryd.prog 69 #[.int .i64 n] w fun e w' => e = .returned (.tuple #[.int .i64 (vsz n), .bool true]) ∧ w = w' := by
  rcases vsz_cases n with ⟨h2, hv⟩ | ⟨h2, h3, hv⟩ | ⟨h2, h3, hv⟩ | ⟨h2, hv⟩
  all_goals
    rw [hv]
    clear hv
    go_enter Tryd.func69, Tryd.ntmps69
    go_wp2
    go_ret2
    exact ⟨rfl, rfl⟩

/-! ### a number's bytes -/
theorem or_pow (i : Nat) (x y : Int) (h0 : 0 ≤ x) (h1 : x % 2 ^ i = 0) (h2 : x < 9223372036854775808) (h3 : 0 ≤ y) (h4 : y < 2 ^ i) (h5 : y < 9223372036854775808) : bits .or .i64 x y = x + y :=
  bits_join .i64 63 (by decide) wraps_i64 i x y h0 h1 h2 h3 h4 h5
theorem or_swap (x y : Int) : bits .or .i64 x y = bits .or .i64 y x := by
  simp only [bits, BitVec.or_comm]
theorem or_two (n : Int) (h0 : 0 ≤ n) (h1 : n < 16384) : bits .or .i64 n 16384 = n + 16384 := by
  rw [or_swap, or_pow 14 _ _ (by omega) (by decide) (by omega) h0 (by omega) (by omega)]; omega
theorem or_four (n : Int) (h0 : 0 ≤ n) (h1 : n < 1073741824) : bits .or .i64 n 2147483648 = n + 2147483648 := by
  rw [or_swap, or_pow 30 _ _ (by omega) (by decide) (by omega) h0 (by omega) (by omega)]; omega
theorem or_eight (n : Int) (h0 : 0 ≤ n) (h1 : n < 4611686018427387904) : bits .or .i64 n (-4611686018427387904) = n - 4611686018427387904 := by
  obtain ⟨a, rfl⟩ := Int.eq_ofNat_of_zero_le h0
  have ha : a < 2 ^ 62 := by omega
  have e1 : (BitVec.ofInt 64 (-4611686018427387904)).toNat = 2 ^ 62 * 3 := by decide
  have e2 : a % 2 ^ 64 = a := by omega
  have e3 : bits .or .i64 (a : Int) (-4611686018427387904) = IntKind.i64.wrap ((2 ^ 62 * 3 + a : Nat) : Int) := by
    rw [or_swap, Nat.two_pow_add_eq_or_of_lt ha 3]
    show IntKind.i64.wrap ((BitVec.ofInt 64 (-4611686018427387904) ||| BitVec.ofInt 64 (a : Int)).toNat : Int) = _
    rw [BitVec.toNat_or, e1, BitVec.ofInt_natCast, BitVec.toNat_ofNat, e2]
  rw [e3, IntKind.wrap_i64]
  omega
/-- the bytes of a number, as the model has them -/
def vb (n : Int) : List UInt8 := if n < 64 then fx n 1 1 else if n < 16384 then fx (n + 16384) 2 2 else if n < 1073741824 then fx (n + 2147483648) 4 4 else fx (n - 4611686018427387904) 8 8
theorem vb_length (n : Int) : (vb n).length = vsz n := by
  unfold vb vsz
  split
  · exact fx_length _ _ _
  · split
    · exact fx_length _ _ _
    · split <;> exact fx_length _ _ _
set_option maxHeartbeats 400000 in
theorem l1Var_any (n : Int) (w : World) (h0 : 0 ≤ n) (h1 : n ≤ 4611686018427387903) :
    Calls Tryd.prog 36 #[.int .i64 n] w fun e w' => e = .returned (.string ⟨(vb n).toArray⟩) ∧ Below w.heap.size w w' := by
  have HZ := hide (fun w => l1Size_any n w)
  rcases vsz_cases n with ⟨h2, hv⟩ | ⟨h2, h3, hv⟩ | ⟨h2, h3, hv⟩ | ⟨h2, hv⟩
  · have hb : vb n = fx n 1 1 := by unfold vb; rw [if_pos h2]
    rw [hb]
    have HV := hide hv
    have HF := hide (fun w => l1Fixed_any n 1 w (by omega) (by omega))
    clear hv hb
    go_enter Tryd.func36, Tryd.ntmps36
    go_wp2_with (first | (go_at_call 53; refine (unhide HZ _).mono ?_; rintro e w' ⟨rfl, rfl⟩; rw [unhide HV]) | (go_at_call 35; refine (unhide HF _).mono ?_; rintro e w' ⟨rfl, hb⟩))
    go_ret
    exact ⟨rfl, hb⟩
  · have hb : vb n = fx (n + 16384) 2 2 := by unfold vb; rw [if_neg (by omega), if_pos h3]
    rw [hb]
    have HV := hide hv
    have hor := or_two n h0 h3
    have HF := hide (fun w => l1Fixed_any (n + 16384) 2 w (by omega) (by omega))
    clear hv hb
    go_enter Tryd.func36, Tryd.ntmps36
    go_wp2_with (first | (go_at_call 53; refine (unhide HZ _).mono ?_; rintro e w' ⟨rfl, rfl⟩; rw [unhide HV]) | (go_at_call 35; refine (unhide HF _).mono ?_; rintro e w' ⟨rfl, hb⟩))
    go_ret
    exact ⟨rfl, hb⟩
  · have hb : vb n = fx (n + 2147483648) 4 4 := by unfold vb; rw [if_neg (by omega), if_neg (by omega), if_pos h3]
    rw [hb]
    have HV := hide hv
    have hor := or_four n h0 h3
    have HF := hide (fun w => l1Fixed_any (n + 2147483648) 4 w (by omega) (by omega))
    clear hv hb
    go_enter Tryd.func36, Tryd.ntmps36
    go_wp2_with (first | (go_at_call 53; refine (unhide HZ _).mono ?_; rintro e w' ⟨rfl, rfl⟩; rw [unhide HV]) | (go_at_call 35; refine (unhide HF _).mono ?_; rintro e w' ⟨rfl, hb⟩))
    go_ret
    exact ⟨rfl, hb⟩
  · have hb : vb n = fx (n - 4611686018427387904) 8 8 := by unfold vb; rw [if_neg (by omega), if_neg (by omega), if_neg (by omega)]
    rw [hb]
    have HV := hide hv
    have hor := or_eight n h0 (by omega)
    have HF := hide (fun w => l1Fixed_any (n - 4611686018427387904) 8 w (by omega) (by omega))
    clear hv hb
    go_enter Tryd.func36, Tryd.ntmps36
    go_wp2_with (first | (go_at_call 53; refine (unhide HZ _).mono ?_; rintro e w' ⟨rfl, rfl⟩; rw [unhide HV]) | (go_at_call 35; refine (unhide HF _).mono ?_; rintro e w' ⟨rfl, hb⟩))
    go_ret
    exact ⟨rfl, hb⟩
end Go.Proofs.YtgjohakjknmngaaDoor
namespace Go.Proofs.YtgjohakjknmngaaDoor
open Go.ChangeShapes Go.WideShapes Go.ChangeAt Go.RowKit
set_option linter.unusedVariables false
set_option maxRecDepth 100000

/-- What an append to v that gives v' leaves: all but v's own row is as it was; v' lies where v lay, or in a new row. -/
structure Gr (w w' : World) (v v' : Value) : Prop where
  grown : w.grownBy w' v.ownBlock
  lies : v'.ownBlock = v.ownBlock ∨ ∃ g, v'.ownBlock = some g ∧ w.heap.size ≤ g
theorem Gr.refl (w : World) (v : Value) : Gr w w v v := ⟨⟨rfl, rfl, rfl, Nat.le_refl _, fun _ _ _ => rfl⟩, Or.inl rfl⟩
theorem Gr.trans {a b c : World} {u v x : Value} (h : Gr a b u v) (k : Gr b c v x) : Gr a c u x := by
  refine ⟨⟨k.grown.os.trans h.grown.os, k.grown.tape.trans h.grown.tape, k.grown.output.trans h.grown.output, Nat.le_trans h.grown.size k.grown.size, fun i hi hc => ?_⟩, ?_⟩
  · have e := h.grown.block i hi hc
    rw [k.grown.block i (Nat.lt_of_lt_of_le hi h.grown.size) ?_, e]
    rcases h.lies with l | ⟨g, l, hg⟩
    · rw [l]; exact hc
    · rw [l]; intro e; simp at e; omega
  · rcases k.lies with l | ⟨g, l, hg⟩
    · rw [l]; exact h.lies
    · exact Or.inr ⟨g, l, Nat.le_trans h.grown.size hg⟩
theorem Gr.alloc {a w : World} {u v : Value} (h : Gr a w u v) (o : Obj) : Gr a (w.alloc o) u v :=
  h.trans ⟨⟨rfl, rfl, rfl, by simp, fun k hk _ => Below.heap_alloc _ _ _ hk⟩, Or.inl rfl⟩
theorem Gr.drew {a w : World} {u v : Value} (h : Gr a w u v) : Gr a w.drew u v :=
  h.trans ⟨⟨rfl, rfl, rfl, Nat.le_refl _, fun k hk _ => rfl⟩, Or.inl rfl⟩
/-- Below 'base' nothing has turned, where v is owned from 'base' on. -/
theorem Gr.below {base : Nat} {w w' : World} {v v' : Value} {e : TypeId} {n : Nat} {xs : List Value} (h : Gr w w' v v') (hown : w.ownsRow base e 1 v n xs) (hb : base ≤ w.heap.size) : Below base w w' :=
  ⟨h.grown.os, h.grown.tape, h.grown.output, h.grown.size, fun k hk => h.grown.block k (by omega) (fun e => by have := (hown.lt k e.symm).1; omega)⟩
/-- A block that is not v's own row is as it was. -/
theorem Gr.keep {w w' : World} {v v' : Value} (h : Gr w w' v v') {k : Nat} {o : Obj} (hk : w.heap[k]? = some o) (hne : v.ownBlock ≠ some k) : w'.heap[k]? = some o := by
  have hl : k < w.heap.size := by
    rcases Nat.lt_or_ge k w.heap.size with h' | h'
    · exact h'
    · rw [Array.getElem?_eq_none h'] at hk; cases hk
  rw [h.grown.block k hl (fun e => hne e.symm), hk]

/-- The four cells of the table that are asked for. -/
structure Tz (w : World) : Prop where
  c0 : w.cell? ⟨1, 0, none⟩ = some (.int .u8 0)
  c1 : w.cell? ⟨1, 1, none⟩ = some (.int .u8 1)
  c3 : w.cell? ⟨1, 3, none⟩ = some (.int .u8 2)
  c7 : w.cell? ⟨1, 7, none⟩ = some (.int .u8 3)
theorem Tz.kept {base : Nat} {w w' : World} (h : Tz w) (k : Below base w w') (h1 : 1 < base) : Tz w' :=
  ⟨(k.cell (p := ⟨1, 0, none⟩) h1).trans h.c0, (k.cell (p := ⟨1, 1, none⟩) h1).trans h.c1, (k.cell (p := ⟨1, 3, none⟩) h1).trans h.c3, (k.cell (p := ⟨1, 7, none⟩) h1).trans h.c7⟩

theorem Tz.drew {w : World} (h : Tz w) : Tz w.drew := ⟨h.c0, h.c1, h.c3, h.c7⟩
theorem tz1 (w : World) (h : Tz w) : Calls Tryd.prog 70 #[.int .u64 1] w fun e w' => e = .returned (.int .i64 0) ∧ w = w' := by
  have h0 := h.c0
  have e0 : IntKind.u64.wrap (bits BinOp.and IntKind.u64 1 (IntKind.u64.wrap (-1)) * 285870213051353865) / 288230376151711744 = 0 := by decide +kernel
  go_enter Tryd.func70, Tryd.ntmps70
  go_wp2
  go_ret
  exact ⟨rfl, rfl⟩
theorem tz2 (w : World) (h : Tz w) : Calls Tryd.prog 70 #[.int .u64 2] w fun e w' => e = .returned (.int .i64 1) ∧ w = w' := by
  have h0 := h.c1
  have e0 : IntKind.u64.wrap (bits BinOp.and IntKind.u64 2 (IntKind.u64.wrap (-2)) * 285870213051353865) / 288230376151711744 = 1 := by decide +kernel
  go_enter Tryd.func70, Tryd.ntmps70
  go_wp2
  go_ret
  exact ⟨rfl, rfl⟩
theorem tz4 (w : World) (h : Tz w) : Calls Tryd.prog 70 #[.int .u64 4] w fun e w' => e = .returned (.int .i64 2) ∧ w = w' := by
  have h0 := h.c3
  have e0 : IntKind.u64.wrap (bits BinOp.and IntKind.u64 4 (IntKind.u64.wrap (-4)) * 285870213051353865) / 288230376151711744 = 3 := by decide +kernel
  go_enter Tryd.func70, Tryd.ntmps70
  go_wp2
  go_ret
  exact ⟨rfl, rfl⟩
theorem tz8 (w : World) (h : Tz w) : Calls Tryd.prog 70 #[.int .u64 8] w fun e w' => e = .returned (.int .i64 3) ∧ w = w' := by
  have h0 := h.c7
  have e0 : IntKind.u64.wrap (bits BinOp.and IntKind.u64 8 (IntKind.u64.wrap (-8)) * 285870213051353865) / 288230376151711744 = 7 := by decide +kernel
  go_enter Tryd.func70, Tryd.ntmps70
  go_wp2
  go_ret
  exact ⟨rfl, rfl⟩

/-- the loop of appendVarint: M bytes behind xs -/
def ax (xs : List UInt8) (n : Int) (M i : Nat) : List UInt8 := xs ++ fx n M i
theorem ax_step (xs : List UInt8) (n : Int) (M i k : Nat) (x : Int) (h : (M : Int) - 1 - i = k) (hx : n / 2 ^ (8 * k) % 256 = x) : bs (ax xs n M (i + 1)) = bs (ax xs n M i) ++ [.int .u8 x] := by
  unfold ax
  rw [bs_append, bs_step n M i k x h hx, bs_append, List.append_assoc]

/-! ### the highest two bits of the first byte -/
theorem or8 (a c : Int) (h0 : 0 ≤ a) (h1 : a < 64) (h2 : 0 ≤ c) (h3 : c < 256) (h4 : c % 64 = 0) : bits .or .u8 a c = a + c := by
  have e : bits .or .u8 a c = bits .or .u8 c a := by simp only [bits, BitVec.or_comm]
  rw [e, bits_join .u8 8 (by decide) wraps_u8 6 c a h2 h4 (by omega) h0 (by omega) (by omega)]
  omega
theorem bt_eq (n m : Int) (k : Nat) (h : n / 2 ^ (8 * k) % 256 = m / 2 ^ (8 * k) % 256) : bt n k = bt m k := by unfold bt; rw [h]
theorem set_first (xs ys : List UInt8) (v : Value) : (bs (xs ++ ys)).set xs.length v = bs xs ++ (bs ys).set 0 v := by
  have h : (bs xs).length = xs.length := bs_length xs
  rw [bs_append, ← h, List.set_append_right _ _ (Nat.le_refl _), Nat.sub_self]
theorem first1 (n : Int) (h0 : 0 ≤ n) (h1 : n < 64) : (bs (fx n 1 1)).set 0 (.int .u8 (bits .or .u8 (bt n 0).toNat 0)) = bs (vb n) := by
  have e : vb n = fx n 1 1 := by unfold vb; rw [if_pos h1]
  have b := bt_toNat n 0
  have b' : n / 2 ^ (8 * 0) % 256 = n := by show n / 1 % 256 = n; omega
  rw [e, or8 _ _ (by omega) (by omega) (by omega) (by omega) (by omega), Int.add_zero]
  rfl
theorem first2 (n : Int) (h0 : 64 ≤ n) (h1 : n < 16384) : (bs (fx n 2 2)).set 0 (.int .u8 (bits .or .u8 (bt n 1).toNat 64)) = bs (vb n) := by
  have e : vb n = fx (n + 16384) 2 2 := by unfold vb; rw [if_neg (by omega), if_pos h1]
  have b : ((bt n 1).toNat : Int) = n / 256 % 256 := bt_toNat n 1
  have b2 : ((bt (n + 16384) 1).toNat : Int) = (n + 16384) / 256 % 256 := bt_toNat (n + 16384) 1
  have e0 : bt n 0 = bt (n + 16384) 0 := bt_eq n (n + 16384) 0 (by show n / 1 % 256 = (n + 16384) / 1 % 256; omega)
  rw [e, or8 _ _ (by omega) (by omega) (by omega) (by omega) (by omega)]
  have e1 : ((bt n 1).toNat : Int) + 64 = (bt (n + 16384) 1).toNat := by omega
  rw [e1]
  show [_, Value.int .u8 ((bt n 0).toNat : Int)] = [_, Value.int .u8 ((bt (n + 16384) 0).toNat : Int)]
  rw [e0]
theorem first4 (n : Int) (h0 : 16384 ≤ n) (h1 : n < 1073741824) : (bs (fx n 4 4)).set 0 (.int .u8 (bits .or .u8 (bt n 3).toNat 128)) = bs (vb n) := by
  have e : vb n = fx (n + 2147483648) 4 4 := by unfold vb; rw [if_neg (by omega), if_neg (by omega), if_pos h1]
  have b : ((bt n 3).toNat : Int) = n / 16777216 % 256 := bt_toNat n 3
  have b2 : ((bt (n + 2147483648) 3).toNat : Int) = (n + 2147483648) / 16777216 % 256 := bt_toNat (n + 2147483648) 3
  have e0 : bt n 0 = bt (n + 2147483648) 0 := bt_eq _ _ 0 (by show n / 1 % 256 = (n + 2147483648) / 1 % 256; omega)
  have e1 : bt n 1 = bt (n + 2147483648) 1 := bt_eq _ _ 1 (by show n / 256 % 256 = (n + 2147483648) / 256 % 256; omega)
  have e2 : bt n 2 = bt (n + 2147483648) 2 := bt_eq _ _ 2 (by show n / 65536 % 256 = (n + 2147483648) / 65536 % 256; omega)
  rw [e, or8 _ _ (by omega) (by omega) (by omega) (by omega) (by omega)]
  have e3 : ((bt n 3).toNat : Int) + 128 = (bt (n + 2147483648) 3).toNat := by omega
  rw [e3]
  show [_, Value.int .u8 ((bt n 2).toNat : Int), Value.int .u8 ((bt n 1).toNat : Int), Value.int .u8 ((bt n 0).toNat : Int)] = [_, Value.int .u8 ((bt (n + 2147483648) 2).toNat : Int), Value.int .u8 ((bt (n + 2147483648) 1).toNat : Int), Value.int .u8 ((bt (n + 2147483648) 0).toNat : Int)]
  rw [e0, e1, e2]
theorem first8 (n : Int) (h0 : 1073741824 ≤ n) (h1 : n ≤ 4611686018427387903) : (bs (fx n 8 8)).set 0 (.int .u8 (bits .or .u8 (bt n 7).toNat 192)) = bs (vb n) := by
  have e : vb n = fx (n - 4611686018427387904) 8 8 := by unfold vb; rw [if_neg (by omega), if_neg (by omega), if_neg (by omega)]
  have b : ((bt n 7).toNat : Int) = n / 72057594037927936 % 256 := bt_toNat n 7
  have b2 : ((bt (n - 4611686018427387904) 7).toNat : Int) = (n - 4611686018427387904) / 72057594037927936 % 256 := bt_toNat (n - 4611686018427387904) 7
  have e0 : bt n 0 = bt (n - 4611686018427387904) 0 := bt_eq _ _ 0 (by show n / 1 % 256 = (n - 4611686018427387904) / 1 % 256; omega)
  have e1 : bt n 1 = bt (n - 4611686018427387904) 1 := bt_eq _ _ 1 (by show n / 256 % 256 = (n - 4611686018427387904) / 256 % 256; omega)
  have e2 : bt n 2 = bt (n - 4611686018427387904) 2 := bt_eq _ _ 2 (by show n / 65536 % 256 = (n - 4611686018427387904) / 65536 % 256; omega)
  have e3 : bt n 3 = bt (n - 4611686018427387904) 3 := bt_eq _ _ 3 (by show n / 16777216 % 256 = (n - 4611686018427387904) / 16777216 % 256; omega)
  have e4 : bt n 4 = bt (n - 4611686018427387904) 4 := bt_eq _ _ 4 (by show n / 4294967296 % 256 = (n - 4611686018427387904) / 4294967296 % 256; omega)
  have e5 : bt n 5 = bt (n - 4611686018427387904) 5 := bt_eq _ _ 5 (by show n / 1099511627776 % 256 = (n - 4611686018427387904) / 1099511627776 % 256; omega)
  have e6 : bt n 6 = bt (n - 4611686018427387904) 6 := bt_eq _ _ 6 (by show n / 281474976710656 % 256 = (n - 4611686018427387904) / 281474976710656 % 256; omega)
  rw [e, or8 _ _ (by omega) (by omega) (by omega) (by omega) (by omega)]
  have e7 : ((bt n 7).toNat : Int) + 192 = (bt (n - 4611686018427387904) 7).toNat := by omega
  rw [e7]
  show [_, Value.int .u8 ((bt n 6).toNat : Int), Value.int .u8 ((bt n 5).toNat : Int), Value.int .u8 ((bt n 4).toNat : Int), Value.int .u8 ((bt n 3).toNat : Int), Value.int .u8 ((bt n 2).toNat : Int), Value.int .u8 ((bt n 1).toNat : Int), Value.int .u8 ((bt n 0).toNat : Int)] = [_, Value.int .u8 ((bt (n - 4611686018427387904) 6).toNat : Int), Value.int .u8 ((bt (n - 4611686018427387904) 5).toNat : Int), Value.int .u8 ((bt (n - 4611686018427387904) 4).toNat : Int), Value.int .u8 ((bt (n - 4611686018427387904) 3).toNat : Int), Value.int .u8 ((bt (n - 4611686018427387904) 2).toNat : Int), Value.int .u8 ((bt (n - 4611686018427387904) 1).toNat : Int), Value.int .u8 ((bt (n - 4611686018427387904) 0).toNat : Int)]
  rw [e0, e1, e2, e3, e4, e5, e6]
theorem fin (w wr : World) (base g cap : Nat) (xs : List UInt8) (n : Int) (M : Nat) (x : Int) (v : Value) (hown : wr.ownsRow base 5 1 (.slice (some ⟨g, 0, none⟩) (xs.length + M) cap) (xs.length + M) (bs (ax xs n M M))) (hbel : Gr w wr v (.slice (some ⟨g, 0, none⟩) (xs.length + M) cap))
    (hx : (bs (fx n M M)).set 0 (.int .u8 x) = bs (vb n)) :
    ((wr.setCell ⟨g, xs.length, none⟩ (.int .u8 x)).drew).ownsRow base 5 1 (.slice (some ⟨g, 0, none⟩) (xs.length + M) cap) (xs.length + M) (bs (xs ++ vb n)) ∧ Gr w (wr.setCell ⟨g, xs.length, none⟩ (.int .u8 x)).drew v (.slice (some ⟨g, 0, none⟩) (xs.length + M) cap) := by
  have h := hown.stored xs.length (.int .u8 x)
  have e : (bs (ax xs n M M)).set xs.length (.int .u8 x) = bs (xs ++ vb n) := by
    unfold ax; rw [set_first, hx, bs_append]
  rw [e] at h
  exact ⟨h.1, (hbel.trans ⟨h.2, Or.inl rfl⟩).drew⟩

set_option maxHeartbeats 2000000 in
theorem appendVarint_any (v : Value) (xs : List UInt8) (n : Int) (w : World) (base : Nat) (hown0 : w.ownsRow base 5 1 v xs.length (bs xs)) (hbase : base ≤ w.heap.size) (htz : Tz w) (hg1 : 1 < base)
    (hlen : xs.length ≤ 1099511627776) (h0 : 0 ≤ n) (h1 : n ≤ 4611686018427387903) :
    Calls Tryd.prog 54 #[v, .int .i64 n] w fun e w' => ∃ v', e = .returned v' ∧ w'.ownsRow base 5 1 v' (xs.length + vsz n) (bs (xs ++ vb n)) ∧ Gr w w' v v' := by
  obtain ⟨i0, hi, hz0, hz1, hz2⟩ := info_parts Tryd.info5
  have HZ := hide (fun w => implSize_yes n w h0 h1)
  have hM := vsz_le n
  have HV : Hid (n < 64 ∧ vsz n = 1 ∨ 64 ≤ n ∧ n < 16384 ∧ vsz n = 2 ∨ 16384 ≤ n ∧ n < 1073741824 ∧ vsz n = 4 ∨ 1073741824 ≤ n ∧ vsz n = 8) := vsz_cases n
  generalize vsz n = M at *
  obtain ⟨hM1, hM8⟩ := hM
  have hlv : ∃ a c, v = .slice a xs.length c := by
    rcases hown0.2 with ⟨rfl, e⟩ | ⟨g, cap, cur, rfl, _⟩
    · exact ⟨none, 0, by rw [e]⟩
    · exact ⟨_, _, rfl⟩
  obtain ⟨a0, c0, rfl⟩ := hlv
  have HT := hide htz
  have H0 := hide hown0
  clear htz
  go_enter Tryd.func54, Tryd.ntmps54
  go_wp2_with (go_at_call 69; refine (unhide HZ _).mono ?_; rintro e w' ⟨rfl, rfl⟩)
  go_loopw [0, 8] (fun v k wr => ∃ i : Nat, i ≤ M ∧ k = .int .i64 ((M : Int) - 1 - i) ∧ wr.ownsRow base 5 1 v (xs.length + i) (bs (ax xs n M i)) ∧ Gr w wr (.slice a0 xs.length c0) v) (fun _ k _ => (intOf k + 1).toNat)
  case atStart => exact ⟨0, Nat.zero_le _, by go_num, by simpa [ax, fx] using hown0, Gr.refl _ _⟩
  case round =>
    obtain ⟨i, hi2, rfl, hown, hbel⟩ := hrel
    have hsz := hbel.grown.size
    have hblw := hbel.below (unhide H0) hbase
    by_cases hlt : i < M
    · have h8 : (M : Int) - 1 - i = 0 ∨ (M : Int) - 1 - i = 1 ∨ (M : Int) - 1 - i = 2 ∨ (M : Int) - 1 - i = 3 ∨ (M : Int) - 1 - i = 4 ∨ (M : Int) - 1 - i = 5 ∨ (M : Int) - 1 - i = 6 ∨ (M : Int) - 1 - i = 7 := by omega
      rcases h8 with h | h | h | h | h | h | h | h
      all_goals
        rw [h]
        have HK := hide h
        clear h
      · go_wp2_with (at_builtin; refine wpList_append_lies _ rfl _ _ 22 rfl base 5 i0 (.int .u8 0) 1 1 Tryd.underlying22 hi hz0 hz1 hz2 rfl (by decide) _ _ _ rfl (hown.alloc _) ⟨wr.heap.size, 0, none⟩ 1 1 [.int .u8 (n % 256)] rfl rfl ?c1 ?c2 (by omega) ?c3 ?c4 ?c5 (wr.heap.size + 1) (by simp) ?_)
        case c1 =>
          intro j u hj
          match j, hj with
          | 0, hj => simp at hj; subst hj; simp [Addr.add]
        case c2 => intro u hu; simp at hu; subst hu; rfl
        case c3 => unfold maxLen; omega
        case c4 => omega
        case c5 => simp; omega
        intro g' cap' w1 hown' hgrow hat hlt'
        have R1 : Gr w w1 (.slice a0 xs.length c0) (.slice (some ⟨g', 0, none⟩) (xs.length + i + 1) cap') := (hbel.alloc _).trans ⟨hgrow, by rcases hat with e | e; exact Or.inl e.symm; exact Or.inr ⟨g', rfl, by simp; omega⟩⟩
        have R2 : w1.ownsRow base 5 1 (.slice (some ⟨g', 0, none⟩) (xs.length + i + 1) cap') (xs.length + (i + 1)) (bs (ax xs n M (i + 1))) := by rw [ax_step xs n M i 0 (n % 256) (unhide HK) (by simp)]; exact hown'
        clear hown' hgrow hown hat
        go_wp2
        go_roundw
        case rel => exact ⟨i + 1, by omega, by have := unhide HK; go_num, R2, R1⟩
        case measure => simp [intOf]
      · go_wp2_with (at_builtin; refine wpList_append_lies _ rfl _ _ 22 rfl base 5 i0 (.int .u8 0) 1 1 Tryd.underlying22 hi hz0 hz1 hz2 rfl (by decide) _ _ _ rfl (hown.alloc _) ⟨wr.heap.size, 0, none⟩ 1 1 [.int .u8 (n / 256 % 256)] rfl rfl ?c1 ?c2 (by omega) ?c3 ?c4 ?c5 (wr.heap.size + 1) (by simp) ?_)
        case c1 =>
          intro j u hj
          match j, hj with
          | 0, hj => simp at hj; subst hj; simp [Addr.add]
        case c2 => intro u hu; simp at hu; subst hu; rfl
        case c3 => unfold maxLen; omega
        case c4 => omega
        case c5 => simp; omega
        intro g' cap' w1 hown' hgrow hat hlt'
        have R1 : Gr w w1 (.slice a0 xs.length c0) (.slice (some ⟨g', 0, none⟩) (xs.length + i + 1) cap') := (hbel.alloc _).trans ⟨hgrow, by rcases hat with e | e; exact Or.inl e.symm; exact Or.inr ⟨g', rfl, by simp; omega⟩⟩
        have R2 : w1.ownsRow base 5 1 (.slice (some ⟨g', 0, none⟩) (xs.length + i + 1) cap') (xs.length + (i + 1)) (bs (ax xs n M (i + 1))) := by rw [ax_step xs n M i 1 (n / 256 % 256) (unhide HK) (by simp)]; exact hown'
        clear hown' hgrow hown hat
        go_wp2
        go_roundw
        case rel => exact ⟨i + 1, by omega, by have := unhide HK; go_num, R2, R1⟩
        case measure => simp [intOf]
      · go_wp2_with (at_builtin; refine wpList_append_lies _ rfl _ _ 22 rfl base 5 i0 (.int .u8 0) 1 1 Tryd.underlying22 hi hz0 hz1 hz2 rfl (by decide) _ _ _ rfl (hown.alloc _) ⟨wr.heap.size, 0, none⟩ 1 1 [.int .u8 (n / 65536 % 256)] rfl rfl ?c1 ?c2 (by omega) ?c3 ?c4 ?c5 (wr.heap.size + 1) (by simp) ?_)
        case c1 =>
          intro j u hj
          match j, hj with
          | 0, hj => simp at hj; subst hj; simp [Addr.add]
        case c2 => intro u hu; simp at hu; subst hu; rfl
        case c3 => unfold maxLen; omega
        case c4 => omega
        case c5 => simp; omega
        intro g' cap' w1 hown' hgrow hat hlt'
        have R1 : Gr w w1 (.slice a0 xs.length c0) (.slice (some ⟨g', 0, none⟩) (xs.length + i + 1) cap') := (hbel.alloc _).trans ⟨hgrow, by rcases hat with e | e; exact Or.inl e.symm; exact Or.inr ⟨g', rfl, by simp; omega⟩⟩
        have R2 : w1.ownsRow base 5 1 (.slice (some ⟨g', 0, none⟩) (xs.length + i + 1) cap') (xs.length + (i + 1)) (bs (ax xs n M (i + 1))) := by rw [ax_step xs n M i 2 (n / 65536 % 256) (unhide HK) (by simp)]; exact hown'
        clear hown' hgrow hown hat
        go_wp2
        go_roundw
        case rel => exact ⟨i + 1, by omega, by have := unhide HK; go_num, R2, R1⟩
        case measure => simp [intOf]
      · go_wp2_with (at_builtin; refine wpList_append_lies _ rfl _ _ 22 rfl base 5 i0 (.int .u8 0) 1 1 Tryd.underlying22 hi hz0 hz1 hz2 rfl (by decide) _ _ _ rfl (hown.alloc _) ⟨wr.heap.size, 0, none⟩ 1 1 [.int .u8 (n / 16777216 % 256)] rfl rfl ?c1 ?c2 (by omega) ?c3 ?c4 ?c5 (wr.heap.size + 1) (by simp) ?_)
        case c1 =>
          intro j u hj
          match j, hj with
          | 0, hj => simp at hj; subst hj; simp [Addr.add]
        case c2 => intro u hu; simp at hu; subst hu; rfl
        case c3 => unfold maxLen; omega
        case c4 => omega
        case c5 => simp; omega
        intro g' cap' w1 hown' hgrow hat hlt'
        have R1 : Gr w w1 (.slice a0 xs.length c0) (.slice (some ⟨g', 0, none⟩) (xs.length + i + 1) cap') := (hbel.alloc _).trans ⟨hgrow, by rcases hat with e | e; exact Or.inl e.symm; exact Or.inr ⟨g', rfl, by simp; omega⟩⟩
        have R2 : w1.ownsRow base 5 1 (.slice (some ⟨g', 0, none⟩) (xs.length + i + 1) cap') (xs.length + (i + 1)) (bs (ax xs n M (i + 1))) := by rw [ax_step xs n M i 3 (n / 16777216 % 256) (unhide HK) (by simp)]; exact hown'
        clear hown' hgrow hown hat
        go_wp2
        go_roundw
        case rel => exact ⟨i + 1, by omega, by have := unhide HK; go_num, R2, R1⟩
        case measure => simp [intOf]
      · go_wp2_with (at_builtin; refine wpList_append_lies _ rfl _ _ 22 rfl base 5 i0 (.int .u8 0) 1 1 Tryd.underlying22 hi hz0 hz1 hz2 rfl (by decide) _ _ _ rfl (hown.alloc _) ⟨wr.heap.size, 0, none⟩ 1 1 [.int .u8 (n / 4294967296 % 256)] rfl rfl ?c1 ?c2 (by omega) ?c3 ?c4 ?c5 (wr.heap.size + 1) (by simp) ?_)
        case c1 =>
          intro j u hj
          match j, hj with
          | 0, hj => simp at hj; subst hj; simp [Addr.add]
        case c2 => intro u hu; simp at hu; subst hu; rfl
        case c3 => unfold maxLen; omega
        case c4 => omega
        case c5 => simp; omega
        intro g' cap' w1 hown' hgrow hat hlt'
        have R1 : Gr w w1 (.slice a0 xs.length c0) (.slice (some ⟨g', 0, none⟩) (xs.length + i + 1) cap') := (hbel.alloc _).trans ⟨hgrow, by rcases hat with e | e; exact Or.inl e.symm; exact Or.inr ⟨g', rfl, by simp; omega⟩⟩
        have R2 : w1.ownsRow base 5 1 (.slice (some ⟨g', 0, none⟩) (xs.length + i + 1) cap') (xs.length + (i + 1)) (bs (ax xs n M (i + 1))) := by rw [ax_step xs n M i 4 (n / 4294967296 % 256) (unhide HK) (by simp)]; exact hown'
        clear hown' hgrow hown hat
        go_wp2
        go_roundw
        case rel => exact ⟨i + 1, by omega, by have := unhide HK; go_num, R2, R1⟩
        case measure => simp [intOf]
      · go_wp2_with (at_builtin; refine wpList_append_lies _ rfl _ _ 22 rfl base 5 i0 (.int .u8 0) 1 1 Tryd.underlying22 hi hz0 hz1 hz2 rfl (by decide) _ _ _ rfl (hown.alloc _) ⟨wr.heap.size, 0, none⟩ 1 1 [.int .u8 (n / 1099511627776 % 256)] rfl rfl ?c1 ?c2 (by omega) ?c3 ?c4 ?c5 (wr.heap.size + 1) (by simp) ?_)
        case c1 =>
          intro j u hj
          match j, hj with
          | 0, hj => simp at hj; subst hj; simp [Addr.add]
        case c2 => intro u hu; simp at hu; subst hu; rfl
        case c3 => unfold maxLen; omega
        case c4 => omega
        case c5 => simp; omega
        intro g' cap' w1 hown' hgrow hat hlt'
        have R1 : Gr w w1 (.slice a0 xs.length c0) (.slice (some ⟨g', 0, none⟩) (xs.length + i + 1) cap') := (hbel.alloc _).trans ⟨hgrow, by rcases hat with e | e; exact Or.inl e.symm; exact Or.inr ⟨g', rfl, by simp; omega⟩⟩
        have R2 : w1.ownsRow base 5 1 (.slice (some ⟨g', 0, none⟩) (xs.length + i + 1) cap') (xs.length + (i + 1)) (bs (ax xs n M (i + 1))) := by rw [ax_step xs n M i 5 (n / 1099511627776 % 256) (unhide HK) (by simp)]; exact hown'
        clear hown' hgrow hown hat
        go_wp2
        go_roundw
        case rel => exact ⟨i + 1, by omega, by have := unhide HK; go_num, R2, R1⟩
        case measure => simp [intOf]
      · go_wp2_with (at_builtin; refine wpList_append_lies _ rfl _ _ 22 rfl base 5 i0 (.int .u8 0) 1 1 Tryd.underlying22 hi hz0 hz1 hz2 rfl (by decide) _ _ _ rfl (hown.alloc _) ⟨wr.heap.size, 0, none⟩ 1 1 [.int .u8 (n / 281474976710656 % 256)] rfl rfl ?c1 ?c2 (by omega) ?c3 ?c4 ?c5 (wr.heap.size + 1) (by simp) ?_)
        case c1 =>
          intro j u hj
          match j, hj with
          | 0, hj => simp at hj; subst hj; simp [Addr.add]
        case c2 => intro u hu; simp at hu; subst hu; rfl
        case c3 => unfold maxLen; omega
        case c4 => omega
        case c5 => simp; omega
        intro g' cap' w1 hown' hgrow hat hlt'
        have R1 : Gr w w1 (.slice a0 xs.length c0) (.slice (some ⟨g', 0, none⟩) (xs.length + i + 1) cap') := (hbel.alloc _).trans ⟨hgrow, by rcases hat with e | e; exact Or.inl e.symm; exact Or.inr ⟨g', rfl, by simp; omega⟩⟩
        have R2 : w1.ownsRow base 5 1 (.slice (some ⟨g', 0, none⟩) (xs.length + i + 1) cap') (xs.length + (i + 1)) (bs (ax xs n M (i + 1))) := by rw [ax_step xs n M i 6 (n / 281474976710656 % 256) (unhide HK) (by simp)]; exact hown'
        clear hown' hgrow hown hat
        go_wp2
        go_roundw
        case rel => exact ⟨i + 1, by omega, by have := unhide HK; go_num, R2, R1⟩
        case measure => simp [intOf]
      · go_wp2_with (at_builtin; refine wpList_append_lies _ rfl _ _ 22 rfl base 5 i0 (.int .u8 0) 1 1 Tryd.underlying22 hi hz0 hz1 hz2 rfl (by decide) _ _ _ rfl (hown.alloc _) ⟨wr.heap.size, 0, none⟩ 1 1 [.int .u8 (n / 72057594037927936)] rfl rfl ?c1 ?c2 (by omega) ?c3 ?c4 ?c5 (wr.heap.size + 1) (by simp) ?_)
        case c1 =>
          intro j u hj
          match j, hj with
          | 0, hj => simp at hj; subst hj; simp [Addr.add]
        case c2 => intro u hu; simp at hu; subst hu; rfl
        case c3 => unfold maxLen; omega
        case c4 => omega
        case c5 => simp; omega
        intro g' cap' w1 hown' hgrow hat hlt'
        have R1 : Gr w w1 (.slice a0 xs.length c0) (.slice (some ⟨g', 0, none⟩) (xs.length + i + 1) cap') := (hbel.alloc _).trans ⟨hgrow, by rcases hat with e | e; exact Or.inl e.symm; exact Or.inr ⟨g', rfl, by simp; omega⟩⟩
        have R2 : w1.ownsRow base 5 1 (.slice (some ⟨g', 0, none⟩) (xs.length + i + 1) cap') (xs.length + (i + 1)) (bs (ax xs n M (i + 1))) := by rw [ax_step xs n M i 7 (n / 72057594037927936) (unhide HK) (by show n / 72057594037927936 % 256 = _; omega)]; exact hown'
        clear hown' hgrow hown hat
        go_wp2
        go_roundw
        case rel => exact ⟨i + 1, by omega, by have := unhide HK; go_num, R2, R1⟩
        case measure => simp [intOf]
    · obtain rfl : i = M := by omega
      have hz := unhide HT
      have hz2 := hz.kept hblw hg1
      obtain ⟨g, cap, rfl⟩ : ∃ g cap, u0 = .slice (some ⟨g, 0, none⟩) (xs.length + i) cap := by
        rcases hown.2 with ⟨_, e⟩ | ⟨g, cap, cur, e, _⟩
        · omega
        · exact ⟨g, cap, e⟩
      have hc : wr.cell? ⟨g, xs.length, none⟩ = some (.int .u8 ((bt n (i - 1)).toNat : Int)) := by
        rw [hown.cellAt xs.length (by omega)]
        have hl : xs.length < (bs (ax xs n i i)).length := by simp [bs, ax, fx]; omega
        rw [List.getElem?_eq_getElem hl]
        simp [bs, ax, fx]
      have hf := hown.frozenAt xs.length
      have hix : (xs.length : Int) < ((xs.length + i : Nat) : Int) := by omega
      rcases unhide HV with ⟨hn, rfl⟩ | ⟨hn, hn2, rfl⟩ | ⟨hn, hn2, rfl⟩ | ⟨hn, rfl⟩
      · have hz3 := hz2.drew
        have F := hide (fin w wr base g cap xs n 1 (bits .or .u8 (bt n 0).toNat 0) _ hown hbel (first1 n h0 hn))
        clear hown hbel
        go_wp2_with fail
        go_region_with (go_at_call 70; refine (tz1 _ hz3).mono ?_; rintro e w' ⟨rfl, rfl⟩)
        all_goals
          go_wp2
          go_ret
          exact ⟨_, rfl, unhide F⟩
      · have hz3 := hz2.drew
        have F := hide (fin w wr base g cap xs n 2 (bits .or .u8 (bt n 1).toNat 64) _ hown hbel (first2 n hn hn2))
        clear hown hbel
        go_wp2_with fail
        go_region_with (go_at_call 70; refine (tz2 _ hz3).mono ?_; rintro e w' ⟨rfl, rfl⟩)
        all_goals
          go_wp2
          go_ret
          exact ⟨_, rfl, unhide F⟩
      · have hz3 := hz2.drew
        have F := hide (fin w wr base g cap xs n 4 (bits .or .u8 (bt n 3).toNat 128) _ hown hbel (first4 n hn hn2))
        clear hown hbel
        go_wp2_with fail
        go_region_with (go_at_call 70; refine (tz4 _ hz3).mono ?_; rintro e w' ⟨rfl, rfl⟩)
        all_goals
          go_wp2
          go_ret
          exact ⟨_, rfl, unhide F⟩
      · have hz3 := hz2.drew
        have F := hide (fin w wr base g cap xs n 8 (bits .or .u8 (bt n 7).toNat 192) _ hown hbel (first8 n hn h1))
        clear hown hbel
        go_wp2_with fail
        go_region_with (go_at_call 70; refine (tz8 _ hz3).mono ?_; rintro e w' ⟨rfl, rfl⟩)
        all_goals
          go_wp2
          go_ret
          exact ⟨_, rfl, unhide F⟩
end Go.Proofs.YtgjohakjknmngaaDoor
namespace Go.Proofs.YtgjohakjknmngaaDoor
open Go.ChangeShapes Go.WideShapes Go.ChangeAt Go.RowKit
set_option linter.unusedVariables false
set_option maxRecDepth 100000

theorem vb_le (n : Int) : (vb n).length ≤ 8 := by have := vb_length n; have := vsz_le n; omega
/-- v is the call's own slice of the bytes xs -/
def Ow (base : Nat) (w : World) (v : Value) (xs : List UInt8) : Prop := w.ownsRow base 5 1 v xs.length (bs xs)
theorem Ow.alloc {base : Nat} {w : World} {v : Value} {xs : List UInt8} (h : Ow base w v xs) (o : Obj) : Ow base (w.alloc o) v xs := World.ownsRow.alloc h o
theorem Ow.drew {base : Nat} {w : World} {v : Value} {xs : List UInt8} (h : Ow base w v xs) : Ow base w.drew v xs := h
/-- a row of whole numbers: not a row of bytes -/
theorem Ow.far {base : Nat} {w : World} {v : Value} {xs : List UInt8} (h : Ow base w v xs) {p : Nat} {cur : Array Value} {t : TypeId} {fr : Nat × Nat} (hp : w.heap[p]? = some (.cells cur t fr)) (ht : t ≠ 5) : v.ownBlock ≠ some p := by
  rcases h.2 with ⟨rfl, _⟩ | ⟨g, cap, cur', rfl, _, hg, _⟩
  · simp [Value.ownBlock]
  · intro e
    simp [Value.ownBlock] at e
    subst e
    rw [hp] at hg
    simp at hg
    exact ht hg.2.1
theorem Ow.shape {base : Nat} {w : World} {v : Value} {xs : List UInt8} (h : Ow base w v xs) : ∃ a c, v = .slice a xs.length c := by
  rcases h.2 with ⟨rfl, e⟩ | ⟨g, cap, cur, rfl, _⟩
  · exact ⟨none, 0, by rw [e]⟩
  · exact ⟨_, _, rfl⟩
theorem appendVarint_ow (v : Value) (xs : List UInt8) (n : Int) (w : World) (base : Nat) (h : Ow base w v xs) (hbase : base ≤ w.heap.size) (htz : Tz w) (hg1 : 1 < base) (hlen : xs.length ≤ 1099511627776) (h0 : 0 ≤ n) (h1 : n ≤ 4611686018427387903) :
    Calls Tryd.prog 54 #[v, .int .i64 n] w fun e w' => ∃ v', e = .returned v' ∧ Ow base w' v' (xs ++ vb n) ∧ Gr w w' v v' := by
  refine (appendVarint_any v xs n w base h hbase htz hg1 hlen h0 h1).mono ?_
  rintro e w' ⟨v', rfl, ho, hg⟩
  refine ⟨v', rfl, ?_, hg⟩
  unfold Ow
  rw [List.length_append, vb_length]
  exact ho

theorem strCells_bs (s : ByteArray) : Lib.strCells s = bs s.data.toList := by
  simp [Lib.strCells, bs]
theorem Ow.below {base : Nat} {w w' : World} {v : Value} {xs : List UInt8} (h : Ow base w v xs) (hg : w.grownBy w' v.ownBlock) (hb : base ≤ w.heap.size) : Below base w w' :=
  ⟨hg.os, hg.tape, hg.output, hg.size, fun k hk => hg.block k (by omega) (fun e => by have := (World.ownsRow.lt h k e.symm).1; omega)⟩

/-- what is no row of bytes is as it was -/
def Kn (w w' : World) : Prop := ∀ (k : Nat) (cur : Array Value) (t : TypeId) (fr : Nat × Nat), w.heap[k]? = some (.cells cur t fr) → t ≠ 5 → w'.heap[k]? = some (.cells cur t fr)
theorem Kn.trans {a b c : World} (h : Kn a b) (k : Kn b c) : Kn a c := fun i cur t fr hi ht => k i cur t fr (h i cur t fr hi ht) ht
theorem Ow.kn {base : Nat} {w w' : World} {v : Value} {xs : List UInt8} (h : Ow base w v xs) (hg : w.grownBy w' v.ownBlock) : Kn w w' := fun i cur t fr hi ht => by
  have hl : i < w.heap.size := by
    rcases Nat.lt_or_ge i w.heap.size with h' | h'
    · exact h'
    · rw [Array.getElem?_eq_none h'] at hi; cases hi
  rw [hg.block i hl (fun e => h.far hi ht e.symm), hi]

set_option maxHeartbeats 1000000 in
theorem appendSized_ow (v : Value) (xs : List UInt8) (s : ByteArray) (w : World) (base : Nat) (h : Ow base w v xs) (hbase : base ≤ w.heap.size) (htz : Tz w) (hg1 : 1 < base) (hlen : xs.length ≤ 1048576) (hs : s.size ≤ 1048576) :
    Calls Tryd.prog 37 #[v, .string s] w fun e w' => ∃ v', e = .returned v' ∧ Ow base w' v' (xs ++ (vb s.size ++ s.data.toList)) ∧ Below base w w' ∧ Kn w w' := by
  obtain ⟨i0, hi, hz0, hz1, hz2⟩ := info_parts Tryd.info5
  have HV := hide (appendVarint_ow v xs s.size w base h hbase htz hg1 (by omega) (by omega) (by omega))
  have HO := hide h
  have hvl := vb_length s.size
  have hvz := vsz_le s.size
  clear h htz
  go_enter Tryd.func37, Tryd.ntmps37
  go_wp2_with fail
  refine (unhide HV).mono ?_
  rintro e w2 ⟨v2, rfl, how2, hgr2⟩
  have hb2 := hgr2.below (unhide HO) hbase
  have hs2 := hb2.size
  go_wp2_with (at_builtin; refine Lib.wpList_append_own_string _ rfl _ _ 22 9 rfl base 5 i0 Tryd.underlying22 Tryd.underlying9 hi hz0 hz1 hz2 _ _ _ rfl how2 s rfl ?c1 ?c2 ?c3 ?_)
  case c1 => rw [List.length_append]; unfold maxLen; omega
  case c2 => rw [List.length_append]; omega
  case c3 => omega
  intro v3 w3 ho3 hg3 _
  have B3 : Below base w w3 := hb2.trans (how2.below hg3 (by omega))
  have O3 : Ow base w3 v3 (xs ++ (vb s.size ++ s.data.toList)) := by
    unfold Ow
    rw [strCells_bs, ← bs_append] at ho3
    have e : xs.length + vsz s.size + s.size = (xs ++ (vb s.size ++ s.data.toList)).length := by simp [List.length_append, hvl]; omega
    rw [e, List.append_assoc] at ho3
    exact ho3
  have K3 : Kn w w3 := ((unhide HO).kn hgr2.grown).trans (how2.kn hg3)
  clear ho3 hg3 how2 hgr2
  go_wp2
  go_ret
  exact ⟨_, rfl, O3, B3, K3⟩
theorem ow_text {base : Nat} {w w' : World} {v v' : Value} {xs : List UInt8} {s : ByteArray} (h : Ow base w v xs) {m : Nat} (ho : w'.ownsRow base 5 1 v' m (bs xs ++ Lib.strCells s)) (hm : m = xs.length + s.size) : Ow base w' v' (xs ++ s.data.toList) := by
  subst hm
  unfold Ow
  rw [strCells_bs, ← bs_append] at ho
  have e : xs.length + s.size = (xs ++ s.data.toList).length := by simp [List.length_append]
  rw [e] at ho
  exact ho
theorem Ow.later {base : Nat} {w w' : World} {v : Value} {xs : List UInt8} (h : Ow base w v xs) (hb : Below w.heap.size w w') : Ow base w' v xs := by
  refine World.ownsRow.kept h (row := none) ⟨hb.os, hb.tape, hb.output, hb.size, fun k hk _ => hb.block k hk⟩ ?_
  cases hv : v.ownBlock with
  | none => exact Or.inl rfl
  | some k => exact Or.inr (by simp)
theorem Gr.of_alloc {w w' : World} {o : Obj} {v v' : Value} (h : Gr (w.alloc o) w' v v') : Gr w w' v v' := ((Gr.refl w v).alloc o).trans h
theorem heap_new (w : World) (o : Obj) : (w.alloc o).heap[w.heap.size]? = some o := by
  show (w.heap.push o)[w.heap.size]? = _
  simp

theorem heap_old (w : World) (o : Obj) (k : Nat) (x : Obj) (h : w.heap[k]? = some x) : (w.alloc o).heap[k]? = some x := by
  have hl : k < w.heap.size := by
    rcases Nat.lt_or_ge k w.heap.size with h' | h'
    · exact h'
    · rw [Array.getElem?_eq_none h'] at h; cases h
  rw [Below.heap_alloc w o k hl]; exact h
theorem cell_in {w : World} {p : Nat} {cur : Array Value} {t : TypeId} {fr : Nat × Nat} (h : w.heap[p]? = some (.cells cur t fr)) (i : Nat) : w.cell? ⟨p, i, none⟩ = cur[i]? := cell_of_row w p i cur t fr h
theorem Tz.below {w w' : World} (h : Tz w) (hb : Below w.heap.size w w') : Tz w' := h.kept hb (World.block_lt_of_cell? w _ h.c0)


theorem hlow {w : World} {k : Nat} {x : Obj} (h : w.heap[k]? = some x) : k < w.heap.size := by
  rcases Nat.lt_or_ge k w.heap.size with h' | h'
  · exact h'
  · rw [Array.getElem?_eq_none h'] at h; cases h
end Go.Proofs.YtgjohakjknmngaaDoor
namespace Go.Proofs.YtgjohakjknmngaaDoor
open Go.ChangeShapes Go.WideShapes Go.ChangeAt Go.RowKit
set_option linter.unusedVariables false
set_option maxRecDepth 100000

/-- the bytes of the first m words -/
def wds (V : Nat → Int) : Nat → List UInt8
  | 0 => []
  | m + 1 => wds V m ++ fx (V m) 4 4
theorem wds_length (V : Nat → Int) : ∀ m, (wds V m).length = 4 * m
  | 0 => rfl
  | m + 1 => by
    have h1 := wds_length V m
    simp only [wds, List.length_append, fx_length]; omega

theorem bs_fx4 (n : Int) (h0 : 0 ≤ n) (h1 : n ≤ 4294967295) : bs (fx n 4 4) = [.int .u8 (n / 16777216), .int .u8 (n / 65536 % 256), .int .u8 (n / 256 % 256), .int .u8 (n % 256)] := by
  have h0 : ((bt n 0).toNat : Int) = n % 256 := by have := bt_toNat n 0; simpa using this
  have h1 : ((bt n 1).toNat : Int) = n / 256 % 256 := bt_toNat n 1
  have h2 : ((bt n 2).toNat : Int) = n / 65536 % 256 := bt_toNat n 2
  have h3 : ((bt n 3).toNat : Int) = n / 16777216 % 256 := bt_toNat n 3
  have h4 : n / 16777216 % 256 = n / 16777216 := by omega
  show [Value.int .u8 ((bt n 3).toNat : Int), .int .u8 ((bt n 2).toNat : Int), .int .u8 ((bt n 1).toNat : Int), .int .u8 ((bt n 0).toNat : Int)] = _
  rw [h0, h1, h2, h3, h4]
theorem ow_news {base : Nat} {w' : World} {g cap m : Nat} {xs ys : List UInt8} (h : w'.ownsRow base 5 1 (.slice (some ⟨g, 0, none⟩) m cap) m (bs xs ++ bs ys)) (hm : m = xs.length + ys.length) : Ow base w' (.slice (some ⟨g, 0, none⟩) m cap) (xs ++ ys) := by
  unfold Ow
  rw [List.length_append, bs_append, ← hm]
  exact h

set_option maxHeartbeats 2000000 in
theorem appendWords_ow (v : Value) (xs : List UInt8) (g off m cap : Nat) (V : Nat → Int) (w : World) (base : Nat) (h : Ow base w v xs) (hbase : base ≤ w.heap.size) (hlen : xs.length ≤ 1048576) (hm : m ≤ 20)
    (hc : ∀ W u, Gr w W v u → ∀ i, i < m → W.cell? ⟨g, off + i, none⟩ = some (.int .i64 (V i))) (hN : ∀ i, i < m → 0 ≤ V i ∧ V i ≤ 4294967295) :
    Calls Tryd.prog 40 #[v, .slice (some ⟨g, off, none⟩) m cap] w fun e w' => ∃ v', e = .returned v' ∧ Ow base w' v' (xs ++ wds V m) ∧ Gr w w' v v' := by
  obtain ⟨i0, hi, hz0, hz1, hz2⟩ := info_parts Tryd.info5
  have HO := hide h
  have HC := hide hc
  have HN := hide hN
  clear h hc hN
  go_enter Tryd.func40, Tryd.ntmps40
  go_wp2
  go_loopw [0, 9] (fun u i wr => ∃ q : Nat, q ≤ m ∧ i = .int .i64 q ∧ Ow base wr u (xs ++ wds V q) ∧ Gr w wr v u) (fun _ i _ => m - (intOf i).toNat)
  case atStart => exact ⟨0, Nat.zero_le _, rfl, by simpa [wds] using unhide HO, Gr.refl _ _⟩
  case round =>
    obtain ⟨q, hq, rfl, how, hgr⟩ := hrel
    by_cases hlt : q < m
    · have hcell := unhide HC wr u0 hgr q hlt
      have hn := unhide HN q hlt
      obtain ⟨hn0, hn1⟩ := hn
      have hl := wds_length V q
      have hb := hgr.below (unhide HO) hbase
      have hsz := hb.size
      obtain ⟨a0, c0, e0⟩ := how.shape
      have hL : (xs ++ wds V q).length = xs.length + 4 * q := by rw [List.length_append, hl]
      rw [hL] at e0
      subst e0
      have how2 : wr.ownsRow base 5 1 (.slice a0 (xs.length + 4 * q) c0) (xs.length + 4 * q) (bs (xs ++ wds V q)) := by have := how; unfold Ow at this; rw [hL] at this; exact this
      have HL := hide hL
      clear hl hL how
      have hcl : g < wr.heap.size := World.block_lt_of_cell? wr _ hcell
      go_wp2_with (at_builtin; refine wpList_append_lies _ rfl _ _ 22 rfl base 5 i0 (.int .u8 0) 1 1 Tryd.underlying22 hi hz0 hz1 hz2 rfl (by decide) _ _ _ rfl (how2.alloc _) ⟨wr.heap.size, 0, none⟩ 4 4 [.int .u8 (V q / 16777216), .int .u8 (V q / 65536 % 256), .int .u8 (V q / 256 % 256), .int .u8 (V q % 256)] rfl rfl ?c1 ?c2 (by omega) ?c3 ?c4 ?c5 (wr.heap.size + 1) (by simp) ?_)
      case c1 =>
        intro j u hj
        match j, hj with
        | 0, hj => simp at hj; subst hj; simp [Addr.add]
        | 1, hj => simp at hj; subst hj; simp [Addr.add]
        | 2, hj => simp at hj; subst hj; simp [Addr.add]
        | 3, hj => simp at hj; subst hj; simp [Addr.add]
      case c2 => intro u hu; simp at hu; rcases hu with rfl | rfl | rfl | rfl <;> rfl
      case c3 => unfold maxLen; omega
      case c4 => omega
      case c5 => simp; omega
      intro g' cap' w1 hown' hgrow hat hlt'
      have R1 : Gr w w1 v (.slice (some ⟨g', 0, none⟩) (xs.length + 4 * q + 4) cap') := (hgr.alloc (.cells #[.int .u8 (V q / 16777216), .int .u8 (V q / 65536 % 256), .int .u8 (V q / 256 % 256), .int .u8 (V q % 256)] 5)).trans ⟨hgrow, by rcases hat with e | e; exact Or.inl e.symm; exact Or.inr ⟨g', rfl, by simp; omega⟩⟩
      have R2 : Ow base w1 (.slice (some ⟨g', 0, none⟩) (xs.length + 4 * q + 4) cap') (xs ++ wds V (q + 1)) := by
        rw [wds, ← List.append_assoc]
        rw [← bs_fx4 _ hn0 hn1] at hown'
        exact ow_news hown' (by rw [fx_length, unhide HL])
      clear hown' hgrow hat how2
      go_wp2
      exact ⟨⟨q + 1, by omega, by go_num, R2, R1⟩, by simp [intOf]; omega⟩
    · obtain rfl : q = m := by omega
      go_wp2
      go_ret
      exact ⟨_, rfl, how, hgr⟩
end Go.Proofs.YtgjohakjknmngaaDoor
