/-
  Contracts of the program: whether cuts are good, the pieces that they make.
-/
import Derived.Test.YtmicpknilhiliaaLws
import Derived.Test.YtmicpknilhiliaaRci
import Derived.Test.YtmicpknilhiliaaSty
namespace Go.Proofs.Ytmicpknilhiliaa.Rc
open Go.ChangeShapes Go.WideShapes Go.ChangeAt Go.RowKit Go.Deep
set_option linter.unusedVariables false
set_option maxRecDepth 100000

/-- cuts from a least one on, as the program asks -/
def gC (n : Int) : Int → List Int → Bool
  | _, [] => true
  | lo, k :: ks => (decide (lo ≤ k) && decide (k ≤ n)) && gC n (k + 1) ks
theorem gC_false (n : Int) : ∀ (L : List Int) (at' : Int), 0 ≤ at' → cuB n false at' L = gC n (at' + 1) L
  | [], _, _ => rfl
  | k :: ks, at', h => by
    show ((decide (0 ≤ k) && decide (k ≤ n)) && ((false || decide (at' < k)) && cuB n false k ks)) = ((decide (at' + 1 ≤ k) && decide (k ≤ n)) && gC n (k + 1) ks)
    by_cases h1 : at' + 1 ≤ k
    · rw [gC_false n ks k (by omega), decide_eq_true (show 0 ≤ k by omega), decide_eq_true (show at' < k by omega), decide_eq_true h1]
      simp
    · rw [decide_eq_false h1, decide_eq_false (show ¬ at' < k by omega)]
      simp
theorem gC_true (n : Int) (L : List Int) : cuB n true 0 L = gC n 0 L := by
  cases L with
  | nil => rfl
  | cons k ks =>
    show ((decide (0 ≤ k) && decide (k ≤ n)) && ((true || decide (0 < k)) && cuB n false k ks)) = ((decide (0 ≤ k) && decide (k ≤ n)) && gC n (k + 1) ks)
    by_cases h1 : 0 ≤ k
    · rw [gC_false n ks k h1]
      simp
    · rw [decide_eq_false h1]
      simp
set_option maxHeartbeats 4000000 in
theorem implGC (L : List Int) (n : Int) (W : World) (a : Option Addr) (c : Nat) (hn : 0 ≤ n) (hn1 : n ≤ 1099511627776) (hL : L.length ≤ 1048576) (h : Rd intK W a L) :
    Calls Try.prog 12 #[.slice a L.length c, .int .i64 n] W fun e w' => e = .returned (.bool (decide (L.length ≤ 40) && cuB n true 0 L)) ∧ w' = W := by
  have HR := hide h
  rw [gC_true]
  clear h
  by_cases h40 : L.length ≤ 40
  · have t40 : ¬ (40 : Int) < (L.length : Int) := by omega
    rw [decide_eq_true h40]
    obtain ⟨g, hg⟩ : ∃ g, (true && gC n 0 L) = g := ⟨_, rfl⟩
    have HG : Hid (g = gC n 0 (L.drop 0)) := hg.symm
    rw [hg]
    clear hg
    go_enter Try.func12, Try.ntmps12
    go_wp2_with fail
    go_loopw [5, 7, 13] (fun v5 _ iv wr => ∃ (k : Nat) (lo : Int), k ≤ L.length ∧ v5 = .int .i64 lo ∧ iv = .int .i64 k ∧ (0 ≤ lo ∧ lo ≤ 1099511627777) ∧ Hid (g = gC n lo (L.drop k)) ∧ wr = W) (fun _ _ iv _ => L.length - (intOf iv).toNat)
    case atStart => exact ⟨0, 0, Nat.zero_le _, rfl, rfl, by omega, HG, rfl⟩
    case round =>
      obtain ⟨k, lo, hk, rfl, rfl, ⟨lo0, lo1⟩, hg, hwr⟩ := hrel
      subst hwr
      clear HG
      by_cases hlt : k < L.length
      · rcases unhide HR with h9 | ⟨b, o, rfl, _, hel⟩
        · rw [h9] at hlt; exact absurd hlt (Nat.not_lt_zero _)
        have c0 := int_r hel hlt
        have HD : Hid (g = ((decide (lo ≤ gt intK L k) && decide (gt intK L k ≤ n)) && gC n (gt intK L k + 1) (L.drop (k + 1)))) := by show _ = _; rw [unhide hg, dropI hlt]; rfl
        generalize gt intK L k = x at *
        have HBT := hide (bt4 lo x n)
        have hnk : (k : Int) < (L.length : Int) := by omega
        have hk0' : (0 : Int) ≤ (k : Int) := by omega
        clear hel hg
        by_cases hin : lo ≤ x ∧ x ≤ n
        · have t1 : (decide (lo ≤ x) && decide (x ≤ n)) = true := by rw [decide_eq_true hin.1, decide_eq_true hin.2]; rfl
          rw [t1] at HD HBT
          have hw : IntKind.i64.wrap (x + 1) = x + 1 := by rw [IntKind.wrap_i64]; omega
          have lx : 0 ≤ x + 1 ∧ x + 1 ≤ 1099511627777 := by omega
          clear hin t1
          go_wp2_with (go_at_call 15; (with_reducible refine (unhide HBT _).mono ?_); rintro e w9 ⟨rfl, h9⟩; rw [h9]; clear h9 w9)
          exact ⟨⟨k + 1, x + 1, by omega, by first | rfl | rw [hw], by go_num, lx, unhide HD, trivial⟩, by simp [intOf]; omega⟩
        · have t1 : (decide (lo ≤ x) && decide (x ≤ n)) = false := by
            by_cases h1 : lo ≤ x
            · rw [decide_eq_false (show ¬ x ≤ n from fun q => hin ⟨h1, q⟩)]; simp
            · rw [decide_eq_false h1]; rfl
          rw [t1] at HD HBT
          have e9 : Hid (g = false) := unhide HD
          clear hin t1 HD
          go_wp2_with (go_at_call 15; (with_reducible refine (unhide HBT _).mono ?_); rintro e w9 ⟨rfl, h9⟩; rw [h9]; clear h9 w9)
          go_ret
          exact ⟨by rw [unhide e9]; rfl, rfl⟩
      · obtain rfl : k = L.length := by omega
        rw [List.drop_length] at hg
        have e9 : Hid (g = true) := unhide hg
        clear hg
        go_wp2
        go_ret
        exact ⟨by rw [unhide e9]; rfl, rfl⟩
  · have t40 : (40 : Int) < (L.length : Int) := by omega
    rw [decide_eq_false h40]
    go_enter Try.func12, Try.ntmps12
    go_wp2
    go_ret
    exact ⟨rfl, rfl⟩
set_option maxHeartbeats 8000000 in
theorem implCA (d : ByteArray) (cuts : List Int) (W : World) (a : Option Addr) (c : Nat) (hd : d.size ≤ 4000) (hn : cuts.length ≤ 40) (hb : cuB d.size true 0 cuts = true) (h : Rd intK W a cuts) :
    Calls Try.prog 13 #[.string d, .slice a cuts.length c] W fun e w' => ∃ (a' : Option Addr) (c' : Nat), e = .returned (.slice a' (cutP d 0 cuts).length c') ∧ Ro pieceK 53 W.heap.size w' (.slice a' (cutP d 0 cuts).length c') (cutP d 0 cuts) ∧ Below W.heap.size W w' := by
  have HR := hide (fun V (b : Below W.heap.size W V) => h.below b)
  rw [gC_true] at hb
  have G0 : Hid (gC d.size 0 (cuts.drop 0) = true) := hb
  have C0 : Hid (cutP d 0 cuts = [] ++ cutP d ((0 : Nat) : Int) (cuts.drop 0)) := rfl
  have O0 : Hid (Ro pieceK 53 W.heap.size W (.slice none 0 0) ([] : List PieceD)) := Ro.nil _ _ _ _
  clear h hb
  go_enter Try.func13, Try.ntmps13
  go_wp2_with fail
  go_loopw [5, 6, 8, 11] (fun v5 v6 _ iv wr => ∃ (k m : Nat) (lo : Int) (Q : List PieceD), k ≤ cuts.length ∧ v6 = .int .i64 m ∧ iv = .int .i64 k ∧ Q.length = k ∧ m ≤ d.size ∧ (m : Int) ≤ lo ∧ Hid (gC d.size lo (cuts.drop k) = true) ∧ Hid (cutP d 0 cuts = Q ++ cutP d m (cuts.drop k)) ∧ Hid (Ro pieceK 53 W.heap.size wr v5 Q) ∧ Hid (Below W.heap.size W wr)) (fun _ _ _ iv _ => cuts.length - (intOf iv).toNat)
  case atStart => exact ⟨0, 0, 0, [], Nat.zero_le _, rfl, rfl, rfl, Nat.zero_le _, by omega, G0, C0, O0, Below.refl _ _⟩
  case round =>
    obtain ⟨k, m, lo, Q, hk, rfl, rfl, hQ, hm, hml, hg, hcp, hO, hB⟩ := hrel
    clear G0 C0 O0
    by_cases hlt : k < cuts.length
    · rcases unhide HR wr (unhide hB) with h9 | ⟨b, oo, rfl, _, hel⟩
      · rw [h9] at hlt; exact absurd hlt (Nat.not_lt_zero _)
      have c0 := int_r hel hlt
      have HG : Hid (((decide (lo ≤ gt intK cuts k) && decide (gt intK cuts k ≤ d.size)) && gC d.size (gt intK cuts k + 1) (cuts.drop (k + 1))) = true) := by show _ = _; have := unhide hg; rw [dropI hlt] at this; exact this
      have HP : Hid (cutP d 0 cuts = (Q ++ [⟨m, d.extract m (gt intK cuts k).toNat⟩]) ++ cutP d (gt intK cuts k) (cuts.drop (k + 1))) := by show _ = _; rw [unhide hcp, dropI hlt, List.append_assoc]; rfl
      generalize gt intK cuts k = x at *
      have hg2 := unhide HG
      simp only [Bool.and_eq_true, decide_eq_true_eq] at hg2
      obtain ⟨⟨x1, x2⟩, hg3⟩ := hg2
      have GN := hide hg3
      obtain ⟨q, rfl⟩ : ∃ q : Nat, x = q := ⟨x.toNat, by omega⟩
      have n4 : ((q : Int)).toNat = q := rfl
      have n5 : ((m : Int)).toNat = m := rfl
      rw [n4] at HP
      have hq1 : q ≤ d.size := by omega
      have mq : (m : Int) ≤ (q : Int) := by omega
      have n1 : (0 : Int) ≤ (m : Int) := by omega
      have n2 : (q : Int) ≤ (d.size : Int) := by omega
      have n3 : (0 : Int) ≤ (q : Int) := by omega
      have hnk : (k : Int) < (cuts.length : Int) := by omega
      have hk0' : (0 : Int) ≤ (k : Int) := by omega
      obtain ⟨v6, w6, run6, o6, b6, h6⟩ := pushPiece wr W.heap.size u5 Q ⟨(m : Int), d.extract m q⟩ (unhide hO) (by omega) (unhide hB).size
      have O4 := hide o6
      have B4 := hide ((unhide hB).trans b6)
      have RUN6 := hide run6
      have sQ := hide hQ
      clear run6 o6 b6 h6 hO hB hg hg3 HG x1 x2 hel hcp hQ
      go_wp2_with (at_builtin; refine wpl_app rfl _ _ 37 rfl _ _ _ _ rfl rfl (unhide RUN6) ?_)
      exact ⟨⟨k + 1, q, (q : Int) + 1, Q ++ [⟨(m : Int), d.extract m q⟩], by omega, rfl, by go_num, by simp [unhide sQ], hq1, by omega, GN, HP, O4, B4⟩, by simp [intOf]; omega⟩
    · obtain rfl : k = cuts.length := by omega
      have HP : Hid (cutP d 0 cuts = Q ++ [⟨m, d.extract m d.size⟩]) := by show _ = _; rw [unhide hcp, List.drop_length]; rfl
      have n1 : (0 : Int) ≤ (m : Int) := by omega
      have n2 : (m : Int) ≤ (d.size : Int) := by omega
      have n5 : ((m : Int)).toNat = m := rfl
      have hwd : IntKind.i64.wrap (d.size : Int) = (d.size : Int) := by rw [IntKind.wrap_i64]; omega
      obtain ⟨v6, w6, run6, o6, b6, h6⟩ := pushPiece wr W.heap.size u5 Q ⟨(m : Int), d.extract m d.size⟩ (unhide hO) (by omega) (unhide hB).size
      rw [← unhide HP] at o6
      obtain ⟨a3, c3, e3⟩ := o6.opens
      rw [e3] at run6 o6
      have O4 := hide o6
      have B4 := hide ((unhide hB).trans b6)
      have RUN6 := hide run6
      clear run6 o6 b6 h6 hO hB hg hcp hQ e3
      go_wp2_with (at_builtin; refine wpl_app rfl _ _ 37 rfl _ _ _ _ rfl rfl (unhide RUN6) ?_)
      go_ret
      exact ⟨a3, c3, rfl, unhide O4, unhide B4⟩
end Go.Proofs.Ytmicpknilhiliaa.Rc
