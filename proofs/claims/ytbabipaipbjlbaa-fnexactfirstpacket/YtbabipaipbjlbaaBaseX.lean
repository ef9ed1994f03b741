/-
  Small words that the other texts share. Contracts: a number between two bounds. Contracts: a config as a value, its copies and its weight, GoodConfig and KindOf of both sides.
-/
import Derived.Test.YtbabipaipbjlbaaRows
import Derived.WalkKit
import Derived.ProofKit
import Derived.OpenShut
import Derived.ShutString
import Derived.WalkSpells
import Derived.WalkSmall
import Derived.Laws.IdiomStrings
import Derived.Lib.Strings
namespace Go.Proofs.Ytbabipaipbjlbaa
open Go.ChangeShapes Go.WideShapes Go.ChangeAt Go.RowKit
set_option linter.unusedVariables false

theorem hide {p : Prop} (h : p) : Hid p := h
theorem unhide {p : Prop} (h : Hid p) : p := h
theorem wraps_i64 (n : Int) (h0 : 0 ≤ n) (h1 : n < 2 ^ 63) : IntKind.i64.wrap n = n := by rw [IntKind.wrap_i64]; omega
theorem bcell {W w1 : World} {B : Nat} (hb : Below B W w1) : (∀ b o, b < B → w1.cell? ⟨b, o, none⟩ = W.cell? ⟨b, o, none⟩) ∧ (∀ b o, b < B → w1.frozen? ⟨b, o, none⟩ = W.frozen? ⟨b, o, none⟩) :=
  ⟨fun b o h => hb.cell (p := ⟨b, o, none⟩) h, fun b o h => hb.frozen (p := ⟨b, o, none⟩) h⟩
end Go.Proofs.Ytbabipaipbjlbaa
namespace Go.Proofs.Ytbabipaipbjlbaa
open Go.ChangeShapes Go.WideShapes Go.ChangeAt Go.RowKit
set_option linter.unusedVariables false
set_option maxRecDepth 100000

theorem inB (n lo hi : Int) (w : World) :
    Calls Try.prog 34 #[.int .i64 n, .int .i64 lo, .int .i64 hi] w fun e w' => e = .returned (.bool (decide (lo ≤ n) && decide (n ≤ hi))) ∧ w' = w := by
  by_cases h : lo ≤ n
  · have h1 : decide (lo ≤ n) = true := by simpa using h
    go_enter Try.func34, Try.ntmps34
    go_wp2
    go_ret
    exact ⟨by rw [h1]; rfl, rfl⟩
  · have h1 : decide (lo ≤ n) = false := by simpa using h
    go_enter Try.func34, Try.ntmps34
    go_wp2
    go_ret
    exact ⟨rfl, rfl⟩
end Go.Proofs.Ytbabipaipbjlbaa
namespace Go.Proofs.Ytbabipaipbjlbaa
open Go.ChangeShapes Go.WideShapes Go.ChangeAt Go.RowKit
set_option linter.unusedVariables false
set_option maxRecDepth 100000

/-- a config, as a value -/
abbrev kv (sl sv nc : Int) (k : ByteArray) (t : Bool) : Value := .agg #[.int .i64 sl, .int .i64 sv, .int .i64 nc, .string k, .bool t]
theorem toKey (s : ByteArray) : s.toList = [] ↔ s.size = 0 := by
  have h : s.toList.length = s.size := by rw [Lib.toList_data, Array.length_toList]; rfl
  constructor
  · intro e; rw [e] at h; simpa using h.symm
  · intro e; rw [e] at h; exact List.length_eq_zero_iff.1 h
theorem keyE (k : ByteArray) (h : ¬ k.size = 0) : k.toList.isEmpty = false := by
  cases e : k.toList with
  | nil => exact absurd ((toKey k).1 e) h
  | cons a l => rfl
theorem keyB (k : ByteArray) (h : ¬ k.toList = []) : (k.toList.isEmpty || ((k.size : Int) == 16)) = decide (k.size = 16) := by
  have h1 : k.toList.isEmpty = false := by
    cases e : k.toList with
    | nil => exact absurd e h
    | cons a l => rfl
  rw [h1, Bool.false_or]
  exact decide_eq_decide.2 (by omega)
/-- a good config -/
def gcB (sl sv nc : Int) (k : Nat) : Bool := decide (0 ≤ sl) && decide (sl ≤ 6) && (decide (1 ≤ sv) && decide (sv ≤ 15)) && (decide (4 ≤ nc) && decide (nc ≤ 18)) && decide (sv + nc ≤ 19) && (decide (k = 0) || decide (k = 16))
theorem gcB_iff (sl sv nc : Int) (k : Nat) : gcB sl sv nc k = true ↔ (0 ≤ sl ∧ sl ≤ 6 ∧ 1 ≤ sv ∧ sv ≤ 15 ∧ 4 ≤ nc ∧ nc ≤ 18 ∧ sv + nc ≤ 19 ∧ (k = 0 ∨ k = 16)) := by
  unfold gcB
  simp only [Bool.and_eq_true, Bool.or_eq_true, decide_eq_true_eq]
  constructor
  · rintro ⟨⟨⟨⟨⟨a, b⟩, c, d⟩, e, f⟩, g⟩, h⟩
    exact ⟨a, b, c, d, e, f, g, h⟩
  · rintro ⟨a, b, c, d, e, f, g, h⟩
    exact ⟨⟨⟨⟨⟨a, b⟩, c, d⟩, e, f⟩, g⟩, h⟩
set_option maxHeartbeats 1000000 in
theorem toCfg (sl sv nc : Int) (k : ByteArray) (t : Bool) (w : World) :
    Calls Try.prog 102 #[kv sl sv nc k t] w fun e w' => e = .returned (kv sl sv nc k t) ∧ Below w.heap.size w w' := by
  go_enter Try.func102, Try.ntmps102
  go_wp2
  refine bodyPost_ret (v := kv sl sv nc k t) (by simp [results, Try.results102, go_sem]) rfl ⟨rfl, ?_⟩
  exact (((Below.refl _ _).alloc (Nat.le_refl _) _).alloc (by simp) _).alloc (by simp; omega) _
theorem szCfg (sl sv nc : Int) (k : ByteArray) (t : Bool) (hk : k.size ≤ maxLen) (w : World) :
    Calls Try.prog 99 #[kv sl sv nc k t, .int .i64 1048576] w fun e w' => e = .returned (.int .i64 (if (1048576 : Int) < k.size then -1 else 1048576 - k.size)) ∧ Below w.heap.size w w' := by
  unfold maxLen at hk
  split
  · go_enter Try.func99, Try.ntmps99
    go_wp2
    go_ret
    exact ⟨rfl, (Below.refl _ _).alloc (Nat.le_refl _) _⟩
  · go_enter Try.func99, Try.ntmps99
    go_wp2
    go_ret
    exact ⟨rfl, (Below.refl _ _).alloc (Nat.le_refl _) _⟩
theorem behind_any (sl sv nc : Int) (k : ByteArray) (t : Bool) (h0 : -1000 ≤ sv) (h1 : sv ≤ 1000) (h2 : -1000 ≤ nc) (h3 : nc ≤ 1000) (w : World) :
    Calls Try.prog 122 #[kv sl sv nc k t] w fun e w' => e = .returned (.int .i64 (sv + nc)) ∧ Below w.heap.size w w' := by
  go_enter Try.func122, Try.ntmps122
  go_wp2
  go_ret
  exact ⟨by go_num, (Below.refl _ _).alloc (Nat.le_refl _) _⟩
set_option maxHeartbeats 2000000 in
theorem implGC (sl sv nc : Int) (k : ByteArray) (t : Bool) (w : World) :
    Calls Try.prog 115 #[kv sl sv nc k t] w fun e w' => e = .returned (.bool (gcB sl sv nc k.size)) ∧ Below w.heap.size w w' := by
  by_cases c0 : 0 ≤ sl
  case neg =>
    rw [show gcB sl sv nc k.size = false by rw [Bool.eq_false_iff, ne_eq, gcB_iff]; omega]
    go_enter Try.func115, Try.ntmps115
    go_wp2
    go_ret
    exact ⟨rfl, (Below.refl _ _).alloc (Nat.le_refl _) _⟩
  by_cases c1 : sl ≤ 6
  case neg =>
    rw [show gcB sl sv nc k.size = false by rw [Bool.eq_false_iff, ne_eq, gcB_iff]; omega]
    go_enter Try.func115, Try.ntmps115
    go_wp2
    go_ret
    exact ⟨rfl, (Below.refl _ _).alloc (Nat.le_refl _) _⟩
  by_cases c2 : 1 ≤ sv
  case neg =>
    rw [show gcB sl sv nc k.size = false by rw [Bool.eq_false_iff, ne_eq, gcB_iff]; omega]
    go_enter Try.func115, Try.ntmps115
    go_wp2
    go_ret
    exact ⟨rfl, (Below.refl _ _).alloc (Nat.le_refl _) _⟩
  by_cases c3 : sv ≤ 15
  case neg =>
    rw [show gcB sl sv nc k.size = false by rw [Bool.eq_false_iff, ne_eq, gcB_iff]; omega]
    go_enter Try.func115, Try.ntmps115
    go_wp2
    go_ret
    exact ⟨rfl, (Below.refl _ _).alloc (Nat.le_refl _) _⟩
  by_cases c4 : 4 ≤ nc
  case neg =>
    rw [show gcB sl sv nc k.size = false by rw [Bool.eq_false_iff, ne_eq, gcB_iff]; omega]
    go_enter Try.func115, Try.ntmps115
    go_wp2
    go_ret
    exact ⟨rfl, (Below.refl _ _).alloc (Nat.le_refl _) _⟩
  by_cases c5 : nc ≤ 18
  case neg =>
    rw [show gcB sl sv nc k.size = false by rw [Bool.eq_false_iff, ne_eq, gcB_iff]; omega]
    go_enter Try.func115, Try.ntmps115
    go_wp2
    go_ret
    exact ⟨rfl, (Below.refl _ _).alloc (Nat.le_refl _) _⟩
  have HB := hide (behind_any sl sv nc k t (by omega) (by omega) (by omega) (by omega))
  by_cases c6 : sv + nc ≤ 19
  case neg =>
    rw [show gcB sl sv nc k.size = false by rw [Bool.eq_false_iff, ne_eq, gcB_iff]; omega]
    go_enter Try.func115, Try.ntmps115
    go_wp2_with fail
    refine (unhide HB _).mono ?_
    rintro e w1 ⟨rfl, b1⟩
    go_wp2
    go_ret
    exact ⟨rfl, ((Below.refl _ _).alloc (Nat.le_refl _) _).trans (b1.mono (by simp))⟩
  by_cases c7 : k.size = 0
  · rw [show gcB sl sv nc k.size = true by rw [gcB_iff]; omega]
    have hz := (toKey k).2 c7
    go_enter Try.func115, Try.ntmps115
    go_wp2_with fail
    refine (unhide HB _).mono ?_
    rintro e w1 ⟨rfl, b1⟩
    obtain ⟨hc, hf⟩ := bcell b1
    have p5 : ∀ o, w1.cell? ⟨w.heap.size, o, none⟩ = _ := fun o => hc w.heap.size o (by simp)
    clear hc hf
    go_wp2
    go_ret
    exact ⟨rfl, ((Below.refl _ _).alloc (Nat.le_refl _) _).trans (b1.mono (by simp))⟩
  · have hz : ¬ k.toList = [] := fun q => c7 ((toKey k).1 q)
    rw [show gcB sl sv nc k.size = decide (k.size = 16) by
      by_cases c8 : k.size = 16
      · rw [decide_eq_true c8, gcB_iff]; omega
      · rw [decide_eq_false c8, Bool.eq_false_iff, ne_eq, gcB_iff]; omega]
    go_enter Try.func115, Try.ntmps115
    go_wp2_with fail
    refine (unhide HB _).mono ?_
    rintro e w1 ⟨rfl, b1⟩
    obtain ⟨hc, hf⟩ := bcell b1
    have p5 : ∀ o, w1.cell? ⟨w.heap.size, o, none⟩ = _ := fun o => hc w.heap.size o (by simp)
    clear hc hf
    go_wp2
    go_ret
    exact ⟨by rw [← keyB k hz]; rfl, ((Below.refl _ _).alloc (Nat.le_refl _) _).trans (b1.mono (by simp))⟩
theorem inYes (n lo hi : Int) (h0 : lo ≤ n) (h1 : n ≤ hi) (w : World) :
    Calls Try.prog 34 #[.int .i64 n, .int .i64 lo, .int .i64 hi] w fun e w' => e = .returned (.bool true) ∧ w' = w := by
  have h := inB n lo hi w
  rw [decide_eq_true h0, decide_eq_true h1] at h
  exact h
theorem inNo (n lo hi : Int) (h0 : ¬ (lo ≤ n ∧ n ≤ hi)) (w : World) :
    Calls Try.prog 34 #[.int .i64 n, .int .i64 lo, .int .i64 hi] w fun e w' => e = .returned (.bool false) ∧ w' = w := by
  have h := inB n lo hi w
  rw [← Bool.decide_and, decide_eq_false h0] at h
  exact h
set_option maxHeartbeats 2000000 in
theorem specGC (sl sv nc : Int) (k : ByteArray) (t : Bool) (w : World) :
    Calls Try.prog 79 #[kv sl sv nc k t] w fun e w' => e = .returned (.bool (gcB sl sv nc k.size)) ∧ Below w.heap.size w w' := by
  by_cases c0 : 0 ≤ sl ∧ sl ≤ 6
  case neg =>
    have H0 := hide (inNo sl 0 6 c0)
    rw [show gcB sl sv nc k.size = false by rw [Bool.eq_false_iff, ne_eq, gcB_iff]; omega]
    go_enter Try.func79, Try.ntmps79
    go_wp2_with fail
    refine (unhide H0 _).mono ?_
    rintro e w1 ⟨rfl, h1⟩
    subst h1
    go_wp2
    go_ret
    exact ⟨rfl, (Below.refl _ _).alloc (Nat.le_refl _) _⟩
  have H0 := hide (inYes sl 0 6 c0.1 c0.2)
  by_cases c1 : 1 ≤ sv ∧ sv ≤ 15
  case neg =>
    have H1 := hide (inNo sv 1 15 c1)
    rw [show gcB sl sv nc k.size = false by rw [Bool.eq_false_iff, ne_eq, gcB_iff]; omega]
    go_enter Try.func79, Try.ntmps79
    go_wp2_with fail
    refine (unhide H0 _).mono ?_
    rintro e w1 ⟨rfl, h1⟩
    subst h1
    go_wp2_with fail
    refine (unhide H1 _).mono ?_
    rintro e w2 ⟨rfl, h2⟩
    subst h2
    go_wp2
    go_ret
    exact ⟨rfl, (Below.refl _ _).alloc (Nat.le_refl _) _⟩
  have H1 := hide (inYes sv 1 15 c1.1 c1.2)
  by_cases c2 : 4 ≤ nc ∧ nc ≤ 18
  case neg =>
    have H2 := hide (inNo nc 4 18 c2)
    rw [show gcB sl sv nc k.size = false by rw [Bool.eq_false_iff, ne_eq, gcB_iff]; omega]
    go_enter Try.func79, Try.ntmps79
    go_wp2_with fail
    refine (unhide H0 _).mono ?_
    rintro e w1 ⟨rfl, h1⟩
    subst h1
    go_wp2_with fail
    refine (unhide H1 _).mono ?_
    rintro e w2 ⟨rfl, h2⟩
    subst h2
    go_wp2_with fail
    refine (unhide H2 _).mono ?_
    rintro e w3 ⟨rfl, h3⟩
    subst h3
    go_wp2
    go_ret
    exact ⟨rfl, (Below.refl _ _).alloc (Nat.le_refl _) _⟩
  have H2 := hide (inYes nc 4 18 c2.1 c2.2)
  by_cases c6 : sv + nc ≤ 19
  case neg =>
    rw [show gcB sl sv nc k.size = false by rw [Bool.eq_false_iff, ne_eq, gcB_iff]; omega]
    go_enter Try.func79, Try.ntmps79
    go_wp2_with fail
    refine (unhide H0 _).mono ?_
    rintro e w1 ⟨rfl, h1⟩
    subst h1
    go_wp2_with fail
    refine (unhide H1 _).mono ?_
    rintro e w2 ⟨rfl, h2⟩
    subst h2
    go_wp2_with fail
    refine (unhide H2 _).mono ?_
    rintro e w3 ⟨rfl, h3⟩
    subst h3
    go_wp2
    go_ret
    exact ⟨rfl, (Below.refl _ _).alloc (Nat.le_refl _) _⟩
  by_cases c7 : k.size = 0
  · rw [show gcB sl sv nc k.size = true by rw [gcB_iff]; omega]
    have hz := (toKey k).2 c7
    go_enter Try.func79, Try.ntmps79
    go_wp2_with fail
    refine (unhide H0 _).mono ?_
    rintro e w1 ⟨rfl, h1⟩
    subst h1
    go_wp2_with fail
    refine (unhide H1 _).mono ?_
    rintro e w2 ⟨rfl, h2⟩
    subst h2
    go_wp2_with fail
    refine (unhide H2 _).mono ?_
    rintro e w3 ⟨rfl, h3⟩
    subst h3
    go_wp2
    go_ret
    exact ⟨rfl, (Below.refl _ _).alloc (Nat.le_refl _) _⟩
  · have hz : ¬ k.toList = [] := fun q => c7 ((toKey k).1 q)
    rw [show gcB sl sv nc k.size = decide (k.size = 16) by
      by_cases c8 : k.size = 16
      · rw [decide_eq_true c8, gcB_iff]; omega
      · rw [decide_eq_false c8, Bool.eq_false_iff, ne_eq, gcB_iff]; omega]
    go_enter Try.func79, Try.ntmps79
    go_wp2_with fail
    refine (unhide H0 _).mono ?_
    rintro e w1 ⟨rfl, h1⟩
    subst h1
    go_wp2_with fail
    refine (unhide H1 _).mono ?_
    rintro e w2 ⟨rfl, h2⟩
    subst h2
    go_wp2_with fail
    refine (unhide H2 _).mono ?_
    rintro e w3 ⟨rfl, h3⟩
    subst h3
    go_wp2
    go_ret
    exact ⟨by rw [← keyB k hz]; rfl, (Below.refl _ _).alloc (Nat.le_refl _) _⟩
/-- a config's kind -/
def kdN (sv nc : Int) (k : Nat) : Int := if k = 0 then 0 else if sv + nc = 16 then 1 else 2
/-- what KindOf answers -/
def kdV (sl sv nc : Int) (k : Nat) : Value := if gcB sl sv nc k = true then .tuple #[.int .i64 (kdN sv nc k), .bool true] else .tuple #[.int .i64 0, .bool false]
end Go.Proofs.Ytbabipaipbjlbaa
