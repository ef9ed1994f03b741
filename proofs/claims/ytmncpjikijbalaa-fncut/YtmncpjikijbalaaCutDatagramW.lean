/-
  The law on CutDatagram, walked.
-/
import Derived.Test.YtmncpjikijbalaaL2k
import Derived.Test.YtmncpjikijbalaaStx
namespace Go.Proofs.Ytmncpjikijbalaa.fnExactCutDatagram
open Go.ChangeShapes Go.WideShapes Go.ChangeAt Go.RowKit
set_option linter.unusedVariables false
set_option maxRecDepth 100000

/-- the i-th text of a list -/
def LF (L : List ByteArray) (i : Nat) : ByteArray := L.getD i ⟨#[]⟩
theorem ot_sn {base : Nat} {w : World} {v : Value} {L : List ByteArray} (h : Ot base w v L) : ∃ a cap, v = .slice a L.length cap ∧ Sn base w a L.length (LF L) := by
  have hc := fun g => @World.ownsRow.cells w base 9 1 v L.length (sv L) h g
  rcases h.2 with ⟨rfl, e⟩ | ⟨g, cap, cur, rfl, hg, hgg, rest⟩
  · exact ⟨none, 0, by rw [e], Or.inl e⟩
  · refine ⟨_, _, rfl, Or.inr ⟨g, rfl, hg, (Array.getElem?_eq_some_iff.1 hgg).1, fun i hi => ?_, fun i hi => ?_⟩⟩
    · have := hc g rfl i (.string (LF L i)) (by simp [sv, LF, hi])
      rw [Addr.add_lit] at this
      simpa using this
    · simp [World.frozen?, hgg]
theorem cut_len (s : ByteArray) (short : Nat) : ∀ (n p : Nat) (L : List ByteArray), cutF s short n p = some L → L.length ≤ n
  | 0, p, L, h => by
    rw [cutF] at h
    injection h with h
    subst h
    exact Nat.le_refl _
  | n + 1, p, L, h => by
    rw [cutF] at h
    split at h
    · split at h
      · cases h
      · rename_i x _
        cases hc : cutF s short n (p + x.q) with
        | none => rw [hc] at h; cases h
        | some M =>
          rw [hc] at h
          injection h with h
          subst h
          have := cut_len s short n (p + x.q) M hc
          simp
          exact this
    · injection h with h
      subst h
      exact Nat.zero_le _
theorem Sa.kg {a a' : Option Addr} {n : Nat} {F : Nat → ByteArray} {w w' : World} (h : Sa w a n F) (k : Kg a' w w') (hne : ∀ b o g, a = some ⟨b, o, none⟩ → a' = some ⟨g, 0, none⟩ → b ≠ g) : Sa w' a n F := by
  rcases h with h | ⟨b, o, e, h⟩
  · exact Or.inl h
  · exact Or.inr ⟨b, o, e, k.sr h (fun g eg => hne b o g e eg)⟩
/-- what is answered -/
def cdR (s : ByteArray) (short : Int) : Option (List ByteArray) := if s.size ≤ 1500 ∧ 0 ≤ short ∧ short ≤ 20 then cutF s short.toNat (s.size + 1) 0 else none
theorem in_any (n lo hi : Int) (w : World) :
    Calls Try.prog 17 #[.int .i64 n, .int .i64 lo, .int .i64 hi] w fun e w' => e = .returned (.bool (decide (lo ≤ n) && decide (n ≤ hi))) ∧ w' = w := by
  by_cases h : lo ≤ n
  · have h1 : decide (lo ≤ n) = true := by simpa using h
    go_enter Try.func17, Try.ntmps17
    go_wp2
    go_ret
    exact ⟨by rw [h1]; rfl, rfl⟩
  · have h1 : decide (lo ≤ n) = false := by simpa using h
    go_enter Try.func17, Try.ntmps17
    go_wp2
    go_ret
    exact ⟨rfl, rfl⟩
theorem short_no (n : Int) (h : ¬ (0 ≤ n ∧ n ≤ 20)) (w : World) : Calls Try.prog 15 #[.int .i64 n] w fun e w' => e = .returned (.bool false) ∧ w' = w := by
  by_cases h1 : 0 ≤ n
  · have h2 : ¬ n ≤ 20 := fun h2 => h ⟨h1, h2⟩
    go_enter Try.func15, Try.ntmps15
    go_wp2
    go_ret
    exact ⟨by simp, rfl⟩
  · go_enter Try.func15, Try.ntmps15
    go_wp2
    go_ret
    exact ⟨rfl, rfl⟩
theorem implCD (s : ByteArray) (short : Int) (hl : s.size ≤ 1048576) (w : World) :
    Calls Try.prog 5 #[.string s, .int .i64 short] w (CQ w (cdR s short)) := by
  unfold cdR
  by_cases h1 : s.size ≤ 1500
  · by_cases h2 : 0 ≤ short ∧ short ≤ 20
    · rw [if_pos ⟨h1, h2⟩]
      obtain ⟨k, rfl⟩ : ∃ k : Nat, short = (k : Int) := ⟨short.toNat, by omega⟩
      rw [Int.toNat_natCast]
      exact cut_any s k w h1 (by omega)
    · rw [if_neg (fun z => h2 z.2)]
      have HG := hide (short_no short h2)
      go_enter Try.func5, Try.ntmps5
      go_wp2_with fail
      refine (unhide HG _).mono ?_
      rintro e w1 ⟨rfl, e1⟩
      rw [e1]
      clear e1 w1
      go_wp2
      go_ret2
      exact ⟨rfl, Below.refl _ _⟩
  · rw [if_neg (fun z => h1 z.1)]
    have h2 : (1500 : Int) < s.size := by omega
    go_enter Try.func5, Try.ntmps5
    go_wp2
    go_ret2
    exact ⟨rfl, Below.refl _ _⟩
theorem specCD (s : ByteArray) (short : Int) (hl : s.size ≤ 1048576) (w : World) :
    Calls Try.prog 6 #[.string s, .int .i64 short] w (CQ w (cdR s short)) := by
  unfold cdR
  by_cases h1 : s.size ≤ 1500
  · by_cases h2 : 0 ≤ short ∧ short ≤ 20
    · rw [if_pos ⟨h1, h2⟩]
      have HG : Hid (∀ W : World, Calls Try.prog 17 #[.int .i64 short, .int .i64 0, .int .i64 20] W fun e w' => e = .returned (.bool true) ∧ w' = W) := fun W => by
        have h9 := in_any short 0 20 W
        rw [decide_eq_true h2.1, decide_eq_true h2.2] at h9
        exact h9
      obtain ⟨k, rfl⟩ : ∃ k : Nat, short = (k : Int) := ⟨short.toNat, by omega⟩
      rw [Int.toNat_natCast]
      have HC := hide (fun W => specCut s k W h1 (by omega))
      generalize cutF s k (s.size + 1) 0 = r at *
      go_enter Try.func6, Try.ntmps6
      go_wp2_with fail
      refine (unhide HG _).mono ?_
      rintro e w1 ⟨rfl, e1⟩
      rw [e1]
      clear e1 w1
      go_wp2_with fail
      refine (unhide HC _).mono ?_
      rintro e w1 ⟨hr, b1⟩
      have B1 := hide b1
      clear b1
      cases r with
      | none =>
        obtain rfl := hr
        go_wp2
        go_ret2
        exact ⟨rfl, unhide B1⟩
      | some L =>
        obtain ⟨v, rfl, hO⟩ := hr
        have HO := hide hO
        clear hO
        go_wp2
        go_ret2
        exact ⟨⟨v, rfl, unhide HO⟩, unhide B1⟩
    · rw [if_neg (fun z => h2 z.2)]
      have HG : Hid (∀ W : World, Calls Try.prog 17 #[.int .i64 short, .int .i64 0, .int .i64 20] W fun e w' => e = .returned (.bool false) ∧ w' = W) := fun W => by
        have h9 := in_any short 0 20 W
        rw [show (decide (0 ≤ short) && decide (short ≤ 20)) = false by
          rw [← Bool.decide_and]; exact decide_eq_false h2] at h9
        exact h9
      go_enter Try.func6, Try.ntmps6
      go_wp2_with fail
      refine (unhide HG _).mono ?_
      rintro e w1 ⟨rfl, e1⟩
      rw [e1]
      clear e1 w1
      go_wp2
      go_ret2
      exact ⟨rfl, Below.refl _ _⟩
  · rw [if_neg (fun z => h1 z.1)]
    have h2 : (1500 : Int) < s.size := by omega
    go_enter Try.func6, Try.ntmps6
    go_wp2
    go_ret2
    exact ⟨rfl, Below.refl _ _⟩
theorem cq_sn {w w' : World} {r : Option (List ByteArray)} {e : Ending} (h : CQ w r e w') : ∃ a cap, e = .returned (.tuple #[.slice a (r.getD []).length cap, .bool r.isSome]) ∧ Sn w.heap.size w' a (r.getD []).length (LF (r.getD [])) ∧ Below w.heap.size w w' := by
  obtain ⟨h1, h2⟩ := h
  cases r with
  | none => exact ⟨none, 0, h1, Or.inl rfl, h2⟩
  | some L =>
    obtain ⟨v, he, hO⟩ := h1
    obtain ⟨a, cap, rfl, hS⟩ := ot_sn hO
    exact ⟨a, cap, he, hS, h2⟩
end Go.Proofs.Ytmncpjikijbalaa.fnExactCutDatagram
