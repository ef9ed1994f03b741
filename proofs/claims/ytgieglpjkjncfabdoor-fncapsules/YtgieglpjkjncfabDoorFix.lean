/-
  Contracts: a number in so many bytes, as the model writes it.
-/
import Derived.Test.YtgieglpjkjncfabDoorBase
import Derived.WalkKit
import Derived.ProofKit
import Derived.OpenShut
import Derived.ShutString
import Derived.WalkSpells
import Derived.Laws.IdiomStrings
import Derived.Lib.Strings
namespace Go.Proofs.YtgieglpjkjncfabDoor
open Go.ChangeShapes Go.WideShapes Go.ChangeAt Go.RowKit
set_option linter.unusedVariables false
set_option maxRecDepth 100000

theorem Tryd.info5 : (Tryd.prog.info? 5).map (fun i => (i.zero, i.size, i.bytes)) = some (some (.int .u8 0), 1, 1) := by kernel_rfl
/-- the byte at place k (from the lowest one) of a number, as Go shifts it -/
def bt (n : Int) (k : Nat) : UInt8 := UInt8.ofNat ((n / 2 ^ (8 * k)) % 256).toNat
theorem bt_toNat (n : Int) (k : Nat) : ((bt n k).toNat : Int) = n / 2 ^ (8 * k) % 256 := by
  have h0 : 0 ≤ n / 2 ^ (8 * k) % 256 := Int.emod_nonneg _ (by decide)
  have h1 : n / 2 ^ (8 * k) % 256 < 256 := Int.emod_lt_of_pos _ (by decide)
  unfold bt
  generalize n / 2 ^ (8 * k) % 256 = x at *
  simp
  omega
/-- the first i of the M bytes of a number -/
def fx (n : Int) (M i : Nat) : List UInt8 := (List.range i).map fun q => bt n (M - 1 - q)
theorem fx_snoc (n : Int) (M i : Nat) : fx n M (i + 1) = fx n M i ++ [bt n (M - 1 - i)] := by simp [fx, List.range_succ]
theorem fx_length (n : Int) (M i : Nat) : (fx n M i).length = i := by simp [fx]
/-- bytes as cells -/
def bs (l : List UInt8) : List Value := l.map fun c => Value.int .u8 (c.toNat : Int)
theorem bs_length (l : List UInt8) : (bs l).length = l.length := by simp [bs]
theorem bs_append (l r : List UInt8) : bs (l ++ r) = bs l ++ bs r := by simp [bs]

theorem bs_step (n : Int) (M i k : Nat) (x : Int) (h : (M : Int) - 1 - i = k) (hx : n / 2 ^ (8 * k) % 256 = x) : bs (fx n M (i + 1)) = bs (fx n M i) ++ [.int .u8 x] := by
  have e : M - 1 - i = k := by omega
  rw [fx_snoc, bs_append, e, ← hx]
  simp only [bs, List.map_cons, List.map_nil, bt_toNat]
theorem own_string (P : Program) (w : World) (base : Nat) (src dst e : TypeId) (v : Value) (n : Nat) (l : List UInt8) (hs : P.underlying src = some (.slice e)) (he : P.underlying e = some (.int .u8)) (hd : P.underlying dst = some .string)
    (h : w.ownsRow base e 1 v n (bs l)) : (convert src dst v).run P w = .ok (.string ⟨l.toArray⟩) w := by
  have hn : l.length = n := by have := h.1; rw [bs_length] at this; omega
  subst hn
  have hc := fun g => @World.ownsRow.cells w base e 1 v l.length (bs l) h g
  rcases h.2 with ⟨rfl, h0⟩ | ⟨g, cap, cur, rfl, _, _, _, _, _, _⟩
  · have : l = [] := List.length_eq_zero_iff.1 h0
    subst this
    exact run_convert_bytes_nil w src e hs he 0 0 dst hd
  · refine run_convert_bytes_back w src dst e ⟨g, 0, none⟩ cap l hs he hd ?_
    intro j hj
    refine hc g rfl j _ ?_
    simp [bs, hj]
theorem eight (k : Nat) (h : k < 8) : k = 0 ∨ k = 1 ∨ k = 2 ∨ k = 3 ∨ k = 4 ∨ k = 5 ∨ k = 6 ∨ k = 7 := by omega

set_option maxHeartbeats 400000 in
theorem l1Fixed_any (n : Int) (M : Nat) (w : World) (hM : M ≤ 8) (hn : -9223372036854775808 ≤ n ∧ n ≤ 9223372036854775807) :
    Calls Tryd.prog 61 #[.int .i64 n, .int .i64 M] w fun e w' => e = .returned (.string ⟨(fx n M M).toArray⟩) ∧ Below w.heap.size w w' := by
  obtain ⟨i0, hi, hz0, hz1, hz2⟩ := info_parts Tryd.info5
  go_enter Tryd.func61, Tryd.ntmps61
  go_wp2
  go_loopw [5, 6] (fun v k wr => ∃ i : Nat, i ≤ M ∧ k = .int .i64 ((M : Int) - 1 - i) ∧ wr.ownsRow w.heap.size 5 1 v i (bs (fx n M i)) ∧ Below w.heap.size w wr) (fun _ k _ => (intOf k + 1).toNat)
  case atStart => exact ⟨0, Nat.zero_le _, by go_num, World.ownsRow_nil _ _ _ _, Below.refl _ _⟩
  case round =>
    obtain ⟨i, hi2, rfl, hown, hbel⟩ := hrel
    by_cases hlt : i < M
    · have h8 : (M : Int) - 1 - i = 0 ∨ (M : Int) - 1 - i = 1 ∨ (M : Int) - 1 - i = 2 ∨ (M : Int) - 1 - i = 3 ∨ (M : Int) - 1 - i = 4 ∨ (M : Int) - 1 - i = 5 ∨ (M : Int) - 1 - i = 6 ∨ (M : Int) - 1 - i = 7 := by omega
      rcases h8 with h | h | h | h | h | h | h | h
      all_goals
        rw [h]
        have HK := hide h
        clear h
      · go_wp2_with (at_builtin; refine wpList_append_own _ rfl _ _ 22 rfl w.heap.size 5 i0 (.int .u8 0) 1 1 Tryd.underlying22 hi hz0 hz1 hz2 rfl (by decide) _ _ _ rfl (hown.alloc _) ⟨wr.heap.size, 0, none⟩ 1 1 [.int .u8 (n % 256)] rfl rfl ?c1 ?c2 ?c3 ?c4 ?c5 ?_)
        case c1 =>
          intro j u hj
          match j, hj with
          | 0, hj => simp at hj; subst hj; simp [Addr.add]
        case c2 => intro u hu; simp at hu; subst hu; rfl
        case c3 => unfold maxLen; omega
        case c4 => omega
        case c5 => have := hbel.size; simp; omega
        intro v' w1 hown' hgrow _
        have R1 : Below w.heap.size w w1 := ((hbel.alloc hbel.size _)).grown hgrow (by have := hbel.size; simp; omega) (fun q hq => ((hown.lt q hq).1))
        have R2 : w1.ownsRow w.heap.size 5 1 v' (i + 1) (bs (fx n M (i + 1))) := by rw [bs_step n M i 0 (n % 256) (unhide HK) (by simp)]; exact hown'
        clear hown' hgrow hown
        go_wp2
        go_roundw
        case rel => exact ⟨i + 1, by omega, by have := unhide HK; go_num, R2, R1⟩
        case measure => simp [intOf]
      · go_wp2_with (at_builtin; refine wpList_append_own _ rfl _ _ 22 rfl w.heap.size 5 i0 (.int .u8 0) 1 1 Tryd.underlying22 hi hz0 hz1 hz2 rfl (by decide) _ _ _ rfl (hown.alloc _) ⟨wr.heap.size, 0, none⟩ 1 1 [.int .u8 (n / 256 % 256)] rfl rfl ?c1 ?c2 ?c3 ?c4 ?c5 ?_)
        case c1 =>
          intro j u hj
          match j, hj with
          | 0, hj => simp at hj; subst hj; simp [Addr.add]
        case c2 => intro u hu; simp at hu; subst hu; rfl
        case c3 => unfold maxLen; omega
        case c4 => omega
        case c5 => have := hbel.size; simp; omega
        intro v' w1 hown' hgrow _
        have R1 : Below w.heap.size w w1 := ((hbel.alloc hbel.size _)).grown hgrow (by have := hbel.size; simp; omega) (fun q hq => ((hown.lt q hq).1))
        have R2 : w1.ownsRow w.heap.size 5 1 v' (i + 1) (bs (fx n M (i + 1))) := by rw [bs_step n M i 1 (n / 256 % 256) (unhide HK) (by simp)]; exact hown'
        clear hown' hgrow hown
        go_wp2
        go_roundw
        case rel => exact ⟨i + 1, by omega, by have := unhide HK; go_num, R2, R1⟩
        case measure => simp [intOf]
      · go_wp2_with (at_builtin; refine wpList_append_own _ rfl _ _ 22 rfl w.heap.size 5 i0 (.int .u8 0) 1 1 Tryd.underlying22 hi hz0 hz1 hz2 rfl (by decide) _ _ _ rfl (hown.alloc _) ⟨wr.heap.size, 0, none⟩ 1 1 [.int .u8 (n / 65536 % 256)] rfl rfl ?c1 ?c2 ?c3 ?c4 ?c5 ?_)
        case c1 =>
          intro j u hj
          match j, hj with
          | 0, hj => simp at hj; subst hj; simp [Addr.add]
        case c2 => intro u hu; simp at hu; subst hu; rfl
        case c3 => unfold maxLen; omega
        case c4 => omega
        case c5 => have := hbel.size; simp; omega
        intro v' w1 hown' hgrow _
        have R1 : Below w.heap.size w w1 := ((hbel.alloc hbel.size _)).grown hgrow (by have := hbel.size; simp; omega) (fun q hq => ((hown.lt q hq).1))
        have R2 : w1.ownsRow w.heap.size 5 1 v' (i + 1) (bs (fx n M (i + 1))) := by rw [bs_step n M i 2 (n / 65536 % 256) (unhide HK) (by simp)]; exact hown'
        clear hown' hgrow hown
        go_wp2
        go_roundw
        case rel => exact ⟨i + 1, by omega, by have := unhide HK; go_num, R2, R1⟩
        case measure => simp [intOf]
      · go_wp2_with (at_builtin; refine wpList_append_own _ rfl _ _ 22 rfl w.heap.size 5 i0 (.int .u8 0) 1 1 Tryd.underlying22 hi hz0 hz1 hz2 rfl (by decide) _ _ _ rfl (hown.alloc _) ⟨wr.heap.size, 0, none⟩ 1 1 [.int .u8 (n / 16777216 % 256)] rfl rfl ?c1 ?c2 ?c3 ?c4 ?c5 ?_)
        case c1 =>
          intro j u hj
          match j, hj with
          | 0, hj => simp at hj; subst hj; simp [Addr.add]
        case c2 => intro u hu; simp at hu; subst hu; rfl
        case c3 => unfold maxLen; omega
        case c4 => omega
        case c5 => have := hbel.size; simp; omega
        intro v' w1 hown' hgrow _
        have R1 : Below w.heap.size w w1 := ((hbel.alloc hbel.size _)).grown hgrow (by have := hbel.size; simp; omega) (fun q hq => ((hown.lt q hq).1))
        have R2 : w1.ownsRow w.heap.size 5 1 v' (i + 1) (bs (fx n M (i + 1))) := by rw [bs_step n M i 3 (n / 16777216 % 256) (unhide HK) (by simp)]; exact hown'
        clear hown' hgrow hown
        go_wp2
        go_roundw
        case rel => exact ⟨i + 1, by omega, by have := unhide HK; go_num, R2, R1⟩
        case measure => simp [intOf]
      · go_wp2_with (at_builtin; refine wpList_append_own _ rfl _ _ 22 rfl w.heap.size 5 i0 (.int .u8 0) 1 1 Tryd.underlying22 hi hz0 hz1 hz2 rfl (by decide) _ _ _ rfl (hown.alloc _) ⟨wr.heap.size, 0, none⟩ 1 1 [.int .u8 (n / 4294967296 % 256)] rfl rfl ?c1 ?c2 ?c3 ?c4 ?c5 ?_)
        case c1 =>
          intro j u hj
          match j, hj with
          | 0, hj => simp at hj; subst hj; simp [Addr.add]
        case c2 => intro u hu; simp at hu; subst hu; rfl
        case c3 => unfold maxLen; omega
        case c4 => omega
        case c5 => have := hbel.size; simp; omega
        intro v' w1 hown' hgrow _
        have R1 : Below w.heap.size w w1 := ((hbel.alloc hbel.size _)).grown hgrow (by have := hbel.size; simp; omega) (fun q hq => ((hown.lt q hq).1))
        have R2 : w1.ownsRow w.heap.size 5 1 v' (i + 1) (bs (fx n M (i + 1))) := by rw [bs_step n M i 4 (n / 4294967296 % 256) (unhide HK) (by simp)]; exact hown'
        clear hown' hgrow hown
        go_wp2
        go_roundw
        case rel => exact ⟨i + 1, by omega, by have := unhide HK; go_num, R2, R1⟩
        case measure => simp [intOf]
      · go_wp2_with (at_builtin; refine wpList_append_own _ rfl _ _ 22 rfl w.heap.size 5 i0 (.int .u8 0) 1 1 Tryd.underlying22 hi hz0 hz1 hz2 rfl (by decide) _ _ _ rfl (hown.alloc _) ⟨wr.heap.size, 0, none⟩ 1 1 [.int .u8 (n / 1099511627776 % 256)] rfl rfl ?c1 ?c2 ?c3 ?c4 ?c5 ?_)
        case c1 =>
          intro j u hj
          match j, hj with
          | 0, hj => simp at hj; subst hj; simp [Addr.add]
        case c2 => intro u hu; simp at hu; subst hu; rfl
        case c3 => unfold maxLen; omega
        case c4 => omega
        case c5 => have := hbel.size; simp; omega
        intro v' w1 hown' hgrow _
        have R1 : Below w.heap.size w w1 := ((hbel.alloc hbel.size _)).grown hgrow (by have := hbel.size; simp; omega) (fun q hq => ((hown.lt q hq).1))
        have R2 : w1.ownsRow w.heap.size 5 1 v' (i + 1) (bs (fx n M (i + 1))) := by rw [bs_step n M i 5 (n / 1099511627776 % 256) (unhide HK) (by simp)]; exact hown'
        clear hown' hgrow hown
        go_wp2
        go_roundw
        case rel => exact ⟨i + 1, by omega, by have := unhide HK; go_num, R2, R1⟩
        case measure => simp [intOf]
      · go_wp2_with (at_builtin; refine wpList_append_own _ rfl _ _ 22 rfl w.heap.size 5 i0 (.int .u8 0) 1 1 Tryd.underlying22 hi hz0 hz1 hz2 rfl (by decide) _ _ _ rfl (hown.alloc _) ⟨wr.heap.size, 0, none⟩ 1 1 [.int .u8 (n / 281474976710656 % 256)] rfl rfl ?c1 ?c2 ?c3 ?c4 ?c5 ?_)
        case c1 =>
          intro j u hj
          match j, hj with
          | 0, hj => simp at hj; subst hj; simp [Addr.add]
        case c2 => intro u hu; simp at hu; subst hu; rfl
        case c3 => unfold maxLen; omega
        case c4 => omega
        case c5 => have := hbel.size; simp; omega
        intro v' w1 hown' hgrow _
        have R1 : Below w.heap.size w w1 := ((hbel.alloc hbel.size _)).grown hgrow (by have := hbel.size; simp; omega) (fun q hq => ((hown.lt q hq).1))
        have R2 : w1.ownsRow w.heap.size 5 1 v' (i + 1) (bs (fx n M (i + 1))) := by rw [bs_step n M i 6 (n / 281474976710656 % 256) (unhide HK) (by simp)]; exact hown'
        clear hown' hgrow hown
        go_wp2
        go_roundw
        case rel => exact ⟨i + 1, by omega, by have := unhide HK; go_num, R2, R1⟩
        case measure => simp [intOf]
      · go_wp2_with (at_builtin; refine wpList_append_own _ rfl _ _ 22 rfl w.heap.size 5 i0 (.int .u8 0) 1 1 Tryd.underlying22 hi hz0 hz1 hz2 rfl (by decide) _ _ _ rfl (hown.alloc _) ⟨wr.heap.size, 0, none⟩ 1 1 [.int .u8 (n / 72057594037927936 % 256)] rfl rfl ?c1 ?c2 ?c3 ?c4 ?c5 ?_)
        case c1 =>
          intro j u hj
          match j, hj with
          | 0, hj => simp at hj; subst hj; simp [Addr.add]
        case c2 => intro u hu; simp at hu; subst hu; rfl
        case c3 => unfold maxLen; omega
        case c4 => omega
        case c5 => have := hbel.size; simp; omega
        intro v' w1 hown' hgrow _
        have R1 : Below w.heap.size w w1 := ((hbel.alloc hbel.size _)).grown hgrow (by have := hbel.size; simp; omega) (fun q hq => ((hown.lt q hq).1))
        have R2 : w1.ownsRow w.heap.size 5 1 v' (i + 1) (bs (fx n M (i + 1))) := by rw [bs_step n M i 7 (n / 72057594037927936 % 256) (unhide HK) (by simp)]; exact hown'
        clear hown' hgrow hown
        go_wp2
        go_roundw
        case rel => exact ⟨i + 1, by omega, by have := unhide HK; go_num, R2, R1⟩
        case measure => simp [intOf]
    · obtain rfl : i = M := by omega
      have hcv := own_string Tryd.prog wr w.heap.size 22 9 5 _ _ _ Tryd.underlying22 Tryd.underlying5 Tryd.underlying9 hown
      clear hown
      go_wp2
      go_ret
      exact ⟨rfl, hbel⟩

/-! ### numbers: which are good, how many bytes they take -/
theorem l1In_any (n lo hi : Int) (w : World) :
    Calls Tryd.prog 52 #[.int .i64 n, .int .i64 lo, .int .i64 hi] w fun e w' => e = .returned (.bool (decide (lo ≤ n) && decide (n ≤ hi))) ∧ w = w' := by
  by_cases h : lo ≤ n
  · have h1 : decide (lo ≤ n) = true := by simpa using h
    go_enter Tryd.func52, Tryd.ntmps52
    go_wp2
    go_ret
    exact ⟨by rw [h1]; rfl, rfl⟩
  · have h1 : decide (lo ≤ n) = false := by simpa using h
    go_enter Tryd.func52, Tryd.ntmps52
    go_wp2
    go_ret
    exact ⟨rfl, rfl⟩
/-- a number that a varint can tell -/
def kn (n : Int) : Bool := decide (0 ≤ n) && decide (n ≤ 4611686018427387903)
theorem l1Known_any (n : Int) (w : World) :
    Calls Tryd.prog 42 #[.int .i64 n] w fun e w' => e = .returned (.bool (kn n)) ∧ w = w' := by
  have HI := hide (fun w => l1In_any n 0 4611686018427387903 w)
  go_enter Tryd.func42, Tryd.ntmps42
  go_wp2_with (go_at_call 52; refine (unhide HI _).mono ?_; rintro e w' ⟨rfl, rfl⟩)
  go_ret
  exact ⟨rfl, rfl⟩
/-- how many bytes a number takes -/
def vsz (n : Int) : Nat := if n < 64 then 1 else if n < 16384 then 2 else if n < 1073741824 then 4 else 8
theorem vsz_cases (n : Int) : (n < 64 ∧ vsz n = 1) ∨ (64 ≤ n ∧ n < 16384 ∧ vsz n = 2) ∨ (16384 ≤ n ∧ n < 1073741824 ∧ vsz n = 4) ∨ (1073741824 ≤ n ∧ vsz n = 8) := by
  unfold vsz
  by_cases h1 : n < 64
  · exact Or.inl ⟨h1, by rw [if_pos h1]⟩
  · by_cases h2 : n < 16384
    · exact Or.inr (Or.inl ⟨by omega, h2, by rw [if_neg h1, if_pos h2]⟩)
    · by_cases h3 : n < 1073741824
      · exact Or.inr (Or.inr (Or.inl ⟨by omega, h3, by rw [if_neg h1, if_neg h2, if_pos h3]⟩))
      · exact Or.inr (Or.inr (Or.inr ⟨by omega, by rw [if_neg h1, if_neg h2, if_neg h3]⟩))
theorem vsz_le (n : Int) : 1 ≤ vsz n ∧ vsz n ≤ 8 := by
  rcases vsz_cases n with h | h | h | h <;> omega
theorem l1Size_any (n : Int) (w : World) :
    Calls Tryd.prog 60 #[.int .i64 n] w fun e w' => e = .returned (.int .i64 (vsz n)) ∧ w = w' := by
  rcases vsz_cases n with ⟨h1, hv⟩ | ⟨h1, h2, hv⟩ | ⟨h1, h2, hv⟩ | ⟨h1, hv⟩
  all_goals
    rw [hv]
    clear hv
    go_enter Tryd.func60, Tryd.ntmps60
    go_wp2
    go_ret
    exact ⟨rfl, rfl⟩
theorem implSize_no (n : Int) (w : World) (h : kn n = false) :
    Calls Tryd.prog 58 #[.int .i64 n] w fun e w' => e = .returned (.tuple #[.int .i64 0, .bool false]) ∧ w = w' := by
  unfold kn at h
  have h' : n < 0 ∨ 4611686018427387903 < n := by simp at h; omega
  clear h
  rcases h' with h | h
  all_goals
    go_enter Tryd.func58, Tryd.ntmps58
    go_wp2
    go_ret2
    exact ⟨rfl, rfl⟩
theorem implSize_yes (n : Int) (w : World) (h0 : 0 ≤ n) (h1 : n ≤ 4611686018427387903) :
    Calls Tryd.prog 58 #[.int .i64 n] w fun e w' => e = .returned (.tuple #[.int .i64 (vsz n), .bool true]) ∧ w = w' := by
  rcases vsz_cases n with ⟨h2, hv⟩ | ⟨h2, h3, hv⟩ | ⟨h2, h3, hv⟩ | ⟨h2, hv⟩
  all_goals
    rw [hv]
    clear hv
    go_enter Tryd.func58, Tryd.ntmps58
    go_wp2
    go_ret2
    exact ⟨rfl, rfl⟩

/-! ### a number's bytes -/
theorem or_pow (i : Nat) (x y : Int) (h0 : 0 ≤ x) (h1 : x % 2 ^ i = 0) (h2 : x < 9223372036854775808) (h3 : 0 ≤ y) (h4 : y < 2 ^ i) (h5 : y < 9223372036854775808) : bits .or .i64 x y = x + y :=
  bits_join .i64 63 (by decide) wraps_i64 i x y h0 h1 h2 h3 h4 h5
theorem or_swap (x y : Int) : bits .or .i64 x y = bits .or .i64 y x := by
  simp only [bits, BitVec.or_comm]
theorem or_two (n : Int) (h0 : 0 ≤ n) (h1 : n < 16384) : bits .or .i64 n 16384 = n + 16384 := by
  rw [or_swap, or_pow 14 _ _ (by omega) (by decide) (by omega) h0 (by omega) (by omega)]; omega
theorem or_four (n : Int) (h0 : 0 ≤ n) (h1 : n < 1073741824) : bits .or .i64 n 2147483648 = n + 2147483648 := by
  rw [or_swap, or_pow 30 _ _ (by omega) (by decide) (by omega) h0 (by omega) (by omega)]; omega
theorem or_eight (n : Int) (h0 : 0 ≤ n) (h1 : n < 4611686018427387904) : bits .or .i64 n (-4611686018427387904) = n - 4611686018427387904 := by
  obtain ⟨a, rfl⟩ := Int.eq_ofNat_of_zero_le h0
  have ha : a < 2 ^ 62 := by omega
  have e1 : (BitVec.ofInt 64 (-4611686018427387904)).toNat = 2 ^ 62 * 3 := by decide
  have e2 : a % 2 ^ 64 = a := by omega
  have e3 : bits .or .i64 (a : Int) (-4611686018427387904) = IntKind.i64.wrap ((2 ^ 62 * 3 + a : Nat) : Int) := by
    rw [or_swap, Nat.two_pow_add_eq_or_of_lt ha 3]
    show IntKind.i64.wrap ((BitVec.ofInt 64 (-4611686018427387904) ||| BitVec.ofInt 64 (a : Int)).toNat : Int) = _
    rw [BitVec.toNat_or, e1, BitVec.ofInt_natCast, BitVec.toNat_ofNat, e2]
  rw [e3, IntKind.wrap_i64]
  omega
/-- the bytes of a number, as the model has them -/
def vb (n : Int) : List UInt8 := if n < 64 then fx n 1 1 else if n < 16384 then fx (n + 16384) 2 2 else if n < 1073741824 then fx (n + 2147483648) 4 4 else fx (n - 4611686018427387904) 8 8
theorem vb_length (n : Int) : (vb n).length = vsz n := by
  unfold vb vsz
  split
  · exact fx_length _ _ _
  · split
    · exact fx_length _ _ _
    · split <;> exact fx_length _ _ _
set_option maxHeartbeats 400000 in
theorem l1Var_any (n : Int) (w : World) (h0 : 0 ≤ n) (h1 : n ≤ 4611686018427387903) :
    Calls Tryd.prog 43 #[.int .i64 n] w fun e w' => e = .returned (.string ⟨(vb n).toArray⟩) ∧ Below w.heap.size w w' := by
  have HZ := hide (fun w => l1Size_any n w)
  rcases vsz_cases n with ⟨h2, hv⟩ | ⟨h2, h3, hv⟩ | ⟨h2, h3, hv⟩ | ⟨h2, hv⟩
  · have hb : vb n = fx n 1 1 := by unfold vb; rw [if_pos h2]
    rw [hb]
    have HV := hide hv
    have HF := hide (fun w => l1Fixed_any n 1 w (by omega) (by omega))
    clear hv hb
    go_enter Tryd.func43, Tryd.ntmps43
    go_wp2_with (first | (go_at_call 60; refine (unhide HZ _).mono ?_; rintro e w' ⟨rfl, rfl⟩; rw [unhide HV]) | (go_at_call 61; refine (unhide HF _).mono ?_; rintro e w' ⟨rfl, hb⟩))
    go_ret
    exact ⟨rfl, hb⟩
  · have hb : vb n = fx (n + 16384) 2 2 := by unfold vb; rw [if_neg (by omega), if_pos h3]
    rw [hb]
    have HV := hide hv
    have hor := or_two n h0 h3
    have HF := hide (fun w => l1Fixed_any (n + 16384) 2 w (by omega) (by omega))
    clear hv hb
    go_enter Tryd.func43, Tryd.ntmps43
    go_wp2_with (first | (go_at_call 60; refine (unhide HZ _).mono ?_; rintro e w' ⟨rfl, rfl⟩; rw [unhide HV]) | (go_at_call 61; refine (unhide HF _).mono ?_; rintro e w' ⟨rfl, hb⟩))
    go_ret
    exact ⟨rfl, hb⟩
  · have hb : vb n = fx (n + 2147483648) 4 4 := by unfold vb; rw [if_neg (by omega), if_neg (by omega), if_pos h3]
    rw [hb]
    have HV := hide hv
    have hor := or_four n h0 h3
    have HF := hide (fun w => l1Fixed_any (n + 2147483648) 4 w (by omega) (by omega))
    clear hv hb
    go_enter Tryd.func43, Tryd.ntmps43
    go_wp2_with (first | (go_at_call 60; refine (unhide HZ _).mono ?_; rintro e w' ⟨rfl, rfl⟩; rw [unhide HV]) | (go_at_call 61; refine (unhide HF _).mono ?_; rintro e w' ⟨rfl, hb⟩))
    go_ret
    exact ⟨rfl, hb⟩
  · have hb : vb n = fx (n - 4611686018427387904) 8 8 := by unfold vb; rw [if_neg (by omega), if_neg (by omega), if_neg (by omega)]
    rw [hb]
    have HV := hide hv
    have hor := or_eight n h0 (by omega)
    have HF := hide (fun w => l1Fixed_any (n - 4611686018427387904) 8 w (by omega) (by omega))
    clear hv hb
    go_enter Tryd.func43, Tryd.ntmps43
    go_wp2_with (first | (go_at_call 60; refine (unhide HZ _).mono ?_; rintro e w' ⟨rfl, rfl⟩; rw [unhide HV]) | (go_at_call 61; refine (unhide HF _).mono ?_; rintro e w' ⟨rfl, hb⟩))
    go_ret
    exact ⟨rfl, hb⟩
end Go.Proofs.YtgieglpjkjncfabDoor
