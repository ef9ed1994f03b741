/-
  The law on CutDatagram, walked.
-/
import Derived.Test.YtbabipaipbjlbaaL2k
import Derived.Test.YtbabipaipbjlbaaStx
namespace Go.Proofs.Ytbabipaipbjlbaa.fnExactCutDatagram
open Go.ChangeShapes Go.WideShapes Go.ChangeAt Go.RowKit
set_option linter.unusedVariables false
set_option maxRecDepth 100000

/-- the i-th text of a list -/
def LF (L : List ByteArray) (i : Nat) : ByteArray := L.getD i ⟨#[]⟩
theorem ot_sn {base : Nat} {w : World} {v : Value} {L : List ByteArray} (h : Ot base w v L) : ∃ a cap, v = .slice a L.length cap ∧ Sn base w a L.length (LF L) := by
  have hc := fun g => @World.ownsRow.cells w base 9 1 v L.length (sv L) h g
  rcases h.2 with ⟨rfl, e⟩ | ⟨g, cap, cur, rfl, hg, hgg, rest⟩
  · exact ⟨none, 0, by rw [e], Or.inl e⟩
  · refine ⟨_, _, rfl, Or.inr ⟨g, rfl, hg, (Array.getElem?_eq_some_iff.1 hgg).1, fun i hi => ?_, fun i hi => ?_⟩⟩
    · have := hc g rfl i (.string (LF L i)) (by simp [sv, LF, hi])
      rw [Addr.add_lit] at this
      simpa using this
    · simp [World.frozen?, hgg]
theorem cut_len (s : ByteArray) (short : Nat) : ∀ (n p : Nat) (L : List ByteArray), cutF s short n p = some L → L.length ≤ n
  | 0, p, L, h => by
    rw [cutF] at h
    injection h with h
    subst h
    exact Nat.le_refl _
  | n + 1, p, L, h => by
    rw [cutF] at h
    split at h
    · split at h
      · cases h
      · rename_i x _
        cases hc : cutF s short n (p + x.q) with
        | none => rw [hc] at h; cases h
        | some M =>
          rw [hc] at h
          injection h with h
          subst h
          have := cut_len s short n (p + x.q) M hc
          simp
          exact this
    · injection h with h
      subst h
      exact Nat.zero_le _
theorem Sa.kg {a a' : Option Addr} {n : Nat} {F : Nat → ByteArray} {w w' : World} (h : Sa w a n F) (k : Kg a' w w') (hne : ∀ b o g, a = some ⟨b, o, none⟩ → a' = some ⟨g, 0, none⟩ → b ≠ g) : Sa w' a n F := by
  rcases h with h | ⟨b, o, e, h⟩
  · exact Or.inl h
  · exact Or.inr ⟨b, o, e, k.sr h (fun g eg => hne b o g e eg)⟩
set_option maxHeartbeats 4000000 in
theorem walk_same (s : ByteArray) (short : Int) (n : Nat) (F : Nat → ByteArray) (b : Bool) (l0 : s.size ≤ 1048576) (hn : n ≤ 1000000) (w : World)
    (HS : ∀ W, Calls Try.prog 11 #[.string s, .int .i64 short] W fun e w' => ∃ a cap, e = .returned (.tuple #[.slice a n cap, .bool b]) ∧ Sn W.heap.size w' a n F ∧ Below W.heap.size W w')
    (HI : ∀ W, Calls Try.prog 12 #[.string s, .int .i64 short] W fun e w' => ∃ a cap, e = .returned (.tuple #[.slice a n cap, .bool b]) ∧ Sn W.heap.size w' a n F ∧ Below W.heap.size W w') :
    Calls Try.prog 4 #[.string s, .int .i64 short] w fun e w' => e = .returned (.bool true) ∧ Below w.heap.size w w' := by
  have H1 := hide HS
  have H2 := hide HI
  clear HS HI
  have h0 : ¬ (1048576 : Int) < s.size := by omega
  go_enter Try.func4, Try.ntmps4
  go_wp2_with fail
  refine (unhide H1 _).mono ?_
  rintro e w1 ⟨a0, cap0, rfl, S1, b1⟩
  have B1 := hide b1
  have hlt0 : Hid (∀ b o, a0 = some ⟨b, o, none⟩ → n = 0 ∨ b < w1.heap.size) := by
    intro b o e
    rcases S1 with h | ⟨g, eg, h⟩
    · exact Or.inl h
    · rw [e] at eg
      injection eg with eg
      injection eg with eg _ _
      subst eg
      exact Or.inr h.lt
  have S1 := hide S1.sa
  clear b1
  go_wp2_with fail
  refine (unhide H2 _).mono ?_
  rintro e w2 ⟨a1, cap1, rfl, S2, b2⟩
  have B2 := hide ((unhide B1).trans (b2.mono (unhide B1).size))
  have T2 := hide ((unhide S1).kept b2)
  have S2 := hide S2
  have hw12 := b2.size
  clear b2 S1
  go_wp2_with fail
  refine (eqS_same a1 a0 n cap1 cap0 F _ (by omega) (unhide S2).sa (unhide T2)).mono ?_
  rintro e w3 ⟨rfl, b3⟩
  have b3s := b3.size
  have B3 := hide ((unhide B2).trans (b3.mono (unhide B2).size))
  have T3 := hide ((unhide T2).kept b3)
  have S3 := hide ((unhide S2).kept b3)
  clear b3 T2 S2 B2
  go_wp2_with fail
  have hw3 := (unhide B3).size
  have hw13 : w1.heap.size ≤ w3.heap.size := Nat.le_trans hw12 b3s
  refine (markS w1.heap.size a1 n cap1 1 F _ (by omega) (by omega) (by omega) hw13 (unhide S3)).mono ?_
  rintro e w4 ⟨rfl, s4, k4, b4⟩
  have B4 := hide ((unhide B3).trans (b4.mono (unhide B1).size))
  have T4 : Hid (Sa w4 a0 n F) := by
    by_cases hz0 : n = 0
    · exact Or.inl hz0
    rcases s4 with hz | ⟨g, eg, h4⟩
    · exact Or.inl hz
    · refine Sa.kg (unhide T3) k4 ?_
      intro b' o' g' e1 e2
      rw [eg] at e2
      injection e2 with e2
      injection e2 with e2 _ _
      rcases unhide hlt0 b' o' e1 with h9 | h9
      · exact absurd h9 (by have := hz0; omega)
      · have := h4.ge
        omega
  have S4 := hide s4
  clear s4 k4 b4 T3 S3 B3
  go_wp2_with fail
  refine (heldS a1 n cap1 1 _ (by omega) (by omega) (by omega) (unhide S4).sa).mono ?_
  rintro e w5 ⟨rfl, b5⟩
  have B5 := hide ((unhide B4).trans (b5.mono (unhide B4).size))
  have T5 := hide ((unhide T4).kept b5)
  have S5 := hide ((unhide S4).kept b5)
  clear b5 T4 S4 B4
  generalize hm : 1 + n = m at *
  have hm0 : ¬ ((m : Nat) : Int) < 0 := by omega
  go_wp2_with fail
  refine (unhide H2 _).mono ?_
  rintro e w6 ⟨a2, cap2, rfl, S6, b6⟩
  have B6 := hide ((unhide B5).trans (b6.mono (unhide B5).size))
  have T6 := hide ((unhide T5).kept b6)
  have U6 := hide ((unhide S5).kept b6)
  have S6 := hide S6
  clear b6 T5 S5 B5
  go_wp2_with fail
  refine (eqS_same a2 a0 n cap2 cap0 F _ (by omega) (unhide S6).sa (unhide T6)).mono ?_
  rintro e w7 ⟨rfl, b7⟩
  have B7 := hide ((unhide B6).trans (b7.mono (unhide B6).size))
  have U7 := hide ((unhide U6).kept b7)
  clear b7 T6 S6 U6 B6
  go_wp2_with fail
  refine (heldS a1 n cap1 1 _ (by omega) (by omega) (by omega) (unhide U7).sa).mono ?_
  rintro e w8 ⟨rfl, b8⟩
  have B8 := hide ((unhide B7).trans (b8.mono (unhide B7).size))
  clear b8 U7 B7
  rw [hm]
  go_wp2
  go_ret
  exact ⟨rfl, unhide B8⟩
/-- what is answered -/
def cdR (s : ByteArray) (short : Int) : Option (List ByteArray) := if s.size ≤ 1500 ∧ 0 ≤ short ∧ short ≤ 20 then cutF s short.toNat (s.size + 1) 0 else none
theorem in_any (n lo hi : Int) (w : World) :
    Calls Try.prog 34 #[.int .i64 n, .int .i64 lo, .int .i64 hi] w fun e w' => e = .returned (.bool (decide (lo ≤ n) && decide (n ≤ hi))) ∧ w' = w := by
  by_cases h : lo ≤ n
  · have h1 : decide (lo ≤ n) = true := by simpa using h
    go_enter Try.func34, Try.ntmps34
    go_wp2
    go_ret
    exact ⟨by rw [h1]; rfl, rfl⟩
  · have h1 : decide (lo ≤ n) = false := by simpa using h
    go_enter Try.func34, Try.ntmps34
    go_wp2
    go_ret
    exact ⟨rfl, rfl⟩
theorem short_no (n : Int) (h : ¬ (0 ≤ n ∧ n ≤ 20)) (w : World) : Calls Try.prog 36 #[.int .i64 n] w fun e w' => e = .returned (.bool false) ∧ w' = w := by
  by_cases h1 : 0 ≤ n
  · have h2 : ¬ n ≤ 20 := fun h2 => h ⟨h1, h2⟩
    go_enter Try.func36, Try.ntmps36
    go_wp2
    go_ret
    exact ⟨by simp, rfl⟩
  · go_enter Try.func36, Try.ntmps36
    go_wp2
    go_ret
    exact ⟨rfl, rfl⟩
theorem implCD (s : ByteArray) (short : Int) (hl : s.size ≤ 1048576) (w : World) :
    Calls Try.prog 12 #[.string s, .int .i64 short] w (CQ w (cdR s short)) := by
  unfold cdR
  by_cases h1 : s.size ≤ 1500
  · by_cases h2 : 0 ≤ short ∧ short ≤ 20
    · rw [if_pos ⟨h1, h2⟩]
      obtain ⟨k, rfl⟩ : ∃ k : Nat, short = (k : Int) := ⟨short.toNat, by omega⟩
      rw [Int.toNat_natCast]
      exact cut_any s k w h1 (by omega)
    · rw [if_neg (fun z => h2 z.2)]
      have HG := hide (short_no short h2)
      go_enter Try.func12, Try.ntmps12
      go_wp2_with fail
      refine (unhide HG _).mono ?_
      rintro e w1 ⟨rfl, e1⟩
      rw [e1]
      clear e1 w1
      go_wp2
      go_ret2
      exact ⟨rfl, Below.refl _ _⟩
  · rw [if_neg (fun z => h1 z.1)]
    have h2 : (1500 : Int) < s.size := by omega
    go_enter Try.func12, Try.ntmps12
    go_wp2
    go_ret2
    exact ⟨rfl, Below.refl _ _⟩
theorem specCD (s : ByteArray) (short : Int) (hl : s.size ≤ 1048576) (w : World) :
    Calls Try.prog 11 #[.string s, .int .i64 short] w (CQ w (cdR s short)) := by
  unfold cdR
  by_cases h1 : s.size ≤ 1500
  · by_cases h2 : 0 ≤ short ∧ short ≤ 20
    · rw [if_pos ⟨h1, h2⟩]
      have HG : Hid (∀ W : World, Calls Try.prog 34 #[.int .i64 short, .int .i64 0, .int .i64 20] W fun e w' => e = .returned (.bool true) ∧ w' = W) := fun W => by
        have h9 := in_any short 0 20 W
        rw [decide_eq_true h2.1, decide_eq_true h2.2] at h9
        exact h9
      obtain ⟨k, rfl⟩ : ∃ k : Nat, short = (k : Int) := ⟨short.toNat, by omega⟩
      rw [Int.toNat_natCast]
      have HC := hide (fun W => specCut s k W h1 (by omega))
      generalize cutF s k (s.size + 1) 0 = r at *
      go_enter Try.func11, Try.ntmps11
      go_wp2_with fail
      refine (unhide HG _).mono ?_
      rintro e w1 ⟨rfl, e1⟩
      rw [e1]
      clear e1 w1
      go_wp2_with fail
      refine (unhide HC _).mono ?_
      rintro e w1 ⟨hr, b1⟩
      have B1 := hide b1
      clear b1
      cases r with
      | none =>
        obtain rfl := hr
        go_wp2
        go_ret2
        exact ⟨rfl, unhide B1⟩
      | some L =>
        obtain ⟨v, rfl, hO⟩ := hr
        have HO := hide hO
        clear hO
        go_wp2
        go_ret2
        exact ⟨⟨v, rfl, unhide HO⟩, unhide B1⟩
    · rw [if_neg (fun z => h2 z.2)]
      have HG : Hid (∀ W : World, Calls Try.prog 34 #[.int .i64 short, .int .i64 0, .int .i64 20] W fun e w' => e = .returned (.bool false) ∧ w' = W) := fun W => by
        have h9 := in_any short 0 20 W
        rw [show (decide (0 ≤ short) && decide (short ≤ 20)) = false by
          rw [← Bool.decide_and]; exact decide_eq_false h2] at h9
        exact h9
      go_enter Try.func11, Try.ntmps11
      go_wp2_with fail
      refine (unhide HG _).mono ?_
      rintro e w1 ⟨rfl, e1⟩
      rw [e1]
      clear e1 w1
      go_wp2
      go_ret2
      exact ⟨rfl, Below.refl _ _⟩
  · rw [if_neg (fun z => h1 z.1)]
    have h2 : (1500 : Int) < s.size := by omega
    go_enter Try.func11, Try.ntmps11
    go_wp2
    go_ret2
    exact ⟨rfl, Below.refl _ _⟩
theorem cq_sn {w w' : World} {r : Option (List ByteArray)} {e : Ending} (h : CQ w r e w') : ∃ a cap, e = .returned (.tuple #[.slice a (r.getD []).length cap, .bool r.isSome]) ∧ Sn w.heap.size w' a (r.getD []).length (LF (r.getD [])) ∧ Below w.heap.size w w' := by
  obtain ⟨h1, h2⟩ := h
  cases r with
  | none => exact ⟨none, 0, h1, Or.inl rfl, h2⟩
  | some L =>
    obtain ⟨v, he, hO⟩ := h1
    obtain ⟨a, cap, rfl, hS⟩ := ot_sn hO
    exact ⟨a, cap, he, hS, h2⟩
theorem walk (a0 : ByteArray) (k0 : a0.size ≤ maxLen) (a1 : Int) (k1 : (Lit.int .i64 a1).wf = true) (w : World) :
    Calls Try.prog 4 #[.string a0, .int .i64 a1] w fun e w' => e = .returned (.bool true) ∧ Below w.heap.size w w' := by
  unfold maxLen at k0
  by_cases l0 : (1048576 : Int) < a0.size
  · go_enter Try.func4, Try.ntmps4
    go_wp2
    go_ret
    exact ⟨rfl, Below.refl _ _⟩
  · have hlen : ((cdR a0 a1).getD []).length ≤ 1000000 := by
      unfold cdR
      split
      · rename_i h
        cases hc : cutF a0 a1.toNat (a0.size + 1) 0 with
        | none => exact Nat.zero_le _
        | some L =>
          have := cut_len _ _ _ _ _ hc
          show L.length ≤ _
          omega
      · exact Nat.zero_le _
    exact walk_same a0 a1 _ _ _ (by omega) hlen w (fun W => (specCD a0 a1 (by omega) W).mono fun e w' h => cq_sn h) (fun W => (implCD a0 a1 (by omega) W).mono fun e w' h => cq_sn h)
end Go.Proofs.Ytbabipaipbjlbaa.fnExactCutDatagram
