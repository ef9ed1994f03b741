/-
  Contracts: words turned.
-/
import Derived.Test.YtpjmnnaiegdjmaaDoorBase
import Derived.Laws.BitsAllLaws
namespace Go.Proofs.YtpjmnnaiegdjmaaDoor
open Go.ChangeShapes Go.WideShapes Go.ChangeAt Go.RowKit
set_option linter.unusedVariables false

/-- a word of 32 bits turned right -/
def rr (x n : Nat) : Nat := x / 2 ^ n ||| x * 2 ^ (32 - n) % 4294967296
theorem div_lt (x n : Nat) (hx : x < 4294967296) : x / 2 ^ n < 4294967296 := Nat.lt_of_le_of_lt (Nat.div_le_self _ _) hx
theorem rr_lt (x n : Nat) (hx : x < 4294967296) : rr x n < 4294967296 := by
  have h1 := div_lt x n hx
  have h2 : x * 2 ^ (32 - n) % 4294967296 < 4294967296 := Nat.mod_lt _ (by omega)
  exact Nat.or_lt_two_pow (n := 32) h1 h2
theorem cast_div (x n : Nat) : (x : Int) / 2 ^ n = ((x / 2 ^ n : Nat) : Int) := by simp
theorem cast_mul (x n : Nat) : (x : Int) * 2 ^ n % 4294967296 = ((x * 2 ^ n % 4294967296 : Nat) : Int) := by simp
theorem rr_bits (x n : Nat) (hx : x < 4294967296) : bits .or .u32 ((x : Int) / 2 ^ n) ((x : Int) * 2 ^ (32 - n) % 4294967296) = ((rr x n : Nat) : Int) := by
  rw [cast_div, cast_mul, u32_or_nat _ _ (div_lt x n hx) (Nat.mod_lt _ (by omega))]
  rfl
theorem rr_bits' (x n : Nat) (hx : x < 4294967296) : bits .or .u32 ((x : Int) * 2 ^ (32 - n) % 4294967296) ((x : Int) / 2 ^ n) = ((rr x n : Nat) : Int) := by
  rw [cast_div, cast_mul, u32_or_nat _ _ (Nat.mod_lt _ (by omega)) (div_lt x n hx), Nat.or_comm]
  rfl
theorem mask31 : ∀ n : Nat, n < 32 → 0 < n → bits .and .u64 (IntKind.u64.wrap (-(n : Int))) 31 = ((32 - n : Nat) : Int) := by decide +kernel
theorem specRight (x n : Nat) (hx : x < 4294967296) (h0 : 0 < n) (hn : n < 32) (w : World) :
    Calls Tryd.prog 87 #[.int .u32 x, .int .u64 n] w fun e w' => e = .returned (.int .u32 (rr x n : Nat)) ∧ w' = w := by
  go_enter Tryd.func87, Tryd.ntmps87
  go_wp2
  go_ret
  exact ⟨by rw [← rr_bits x n hx]; rfl, rfl⟩
theorem implRotl (x n : Nat) (hx : x < 4294967296) (h0 : 0 < n) (hn : n < 32) (w : World) :
    Calls Tryd.prog 99 #[.int .u32 x, .int .i64 (-(n : Int))] w fun e w' => e = .returned (.int .u32 (rr x n : Nat)) ∧ w' = w := by
  have hs := mask31 n hn h0
  have hb := hide (rr_bits' x n hx)
  have h32 : 32 - (32 - n) = n := by omega
  generalize hm : 32 - n = m at *
  have hm0 : 0 < m := by omega
  have hm1 : m < 32 := by omega
  clear hm h0 hn
  go_enter Tryd.func99, Tryd.ntmps99
  go_wp2
  go_ret
  exact ⟨by rw [← unhide hb]; rfl, rfl⟩
theorem implTurned (x n : Nat) (hx : x < 4294967296) (h0 : 0 < n) (hn : n < 32) (w : World) :
    Calls Tryd.prog 98 #[.int .u32 x, .int .i64 n] w fun e w' => e = .returned (.int .u32 (rr x n : Nat)) ∧ w' = w := by
  have H := hide (fun W => implRotl x n hx h0 hn W)
  go_enter Tryd.func98, Tryd.ntmps98
  go_wp2_with (go_at_call 99; with_reducible refine (unhide H _).mono ?_; rintro e w9 ⟨rfl, rfl⟩)
  go_ret
  exact ⟨rfl, rfl⟩
end Go.Proofs.YtpjmnnaiegdjmaaDoor
