/-
  Contracts: round trips of the model: whether they are good, and a new sample.
-/
import Derived.Test.YtpjpmlopmknllaaInb
import Derived.Test.YtpjpmlopmknllaaRcs
import Derived.Deep.QuietTactic
import Derived.Deep.RegionWith
import Derived.Deep.DeepCutAuto
import Derived.BigQuiet
namespace Go.Proofs.Ytpjpmlopmknllaa.Rc
open Go.ChangeShapes Go.WideShapes Go.ChangeAt Go.RowKit Go.Deep
set_option linter.unusedVariables false
set_option maxRecDepth 100000

/-- a round trip -/
structure RttD where
  kn : Bool
  la : Int
  mi : Int
  sm : Int
  va : Int
abbrev rttC (D : RttD) : List Value := [.bool D.kn, .int .i64 D.la, .int .i64 D.mi, .int .i64 D.sm, .int .i64 D.va]
abbrev rttV (D : RttD) : Value := .agg #[.bool D.kn, .int .i64 D.la, .int .i64 D.mi, .int .i64 D.sm, .int .i64 D.va]
abbrev rttZ : Value := .agg #[.bool false, .int .i64 0, .int .i64 0, .int .i64 0, .int .i64 0]
/-- a tick -/
def tkB (n : Int) : Bool := decide (0 ≤ n) && decide (n ≤ 1000000000)
theorem tkB_yes {n : Int} (h : tkB n = true) : 0 ≤ n ∧ n ≤ 1000000000 := by unfold tkB at h; simpa using h
/-- whether a round trip is good -/
def rtB (D : RttD) : Bool := if D.kn = true then tkB D.mi && ((decide (D.mi ≤ D.la) && decide (D.la ≤ 1000000000)) && (tkB D.sm && tkB D.va)) else decide (D.la = 0) && (decide (D.mi = 0) && (decide (D.sm = 0) && decide (D.va = 0)))
/-- the least that was seen -/
def smMi (D : RttD) (la : Int) : Int := if la < D.mi then la else D.mi
/-- what a sample counts -/
def smAd (D : RttD) (la de : Int) : Int := if smMi D la ≤ la - de then la - de else la
/-- how far it is from what was -/
def smAp (D : RttD) (la de : Int) : Int := if D.sm - smAd D la de < 0 then -(D.sm - smAd D la de) else D.sm - smAd D la de
/-- a new sample -/
def smD (D : RttD) (la de : Int) : RttD := if D.kn = true then ⟨true, la, smMi D la, (7 * D.sm + smAd D la de) / 8, (3 * D.va + smAp D la de) / 4⟩ else ⟨true, la, la, la, la / 2⟩
theorem specTk (n : Int) (w : World) : Calls Try.prog 25 #[.int .i64 n] w fun e w' => e = .returned (.bool (tkB n)) ∧ w' = w := by
  have H := hide (inB n 0 1000000000)
  go_enter Try.func25, Try.ntmps25
  go_wp2_with fail
  refine (unhide H _).mono ?_
  rintro e w1 ⟨rfl, h9⟩
  rw [h9]
  clear h9 w1
  go_wp2
  go_ret
  exact ⟨rfl, rfl⟩
end Go.Proofs.Ytpjpmlopmknllaa.Rc
