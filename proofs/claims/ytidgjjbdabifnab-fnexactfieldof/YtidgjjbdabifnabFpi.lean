/-
  Contracts: FieldOf, of both sides.
-/
import Derived.Test.YtidgjjbdabifnabFph
import Derived.Test.YtidgjjbdabifnabShelf
import Derived.Laws.Cover1
namespace Go.Proofs.Ytidgjjbdabifnab.Rc
open Go.ChangeShapes Go.WideShapes Go.ChangeAt Go.RowKit Go.Deep
set_option linter.unusedVariables false
set_option maxRecDepth 100000

theorem toList_inj {s t : ByteArray} : (s.toList == t.toList) = decide (s = t) := by
  rw [Bool.eq_iff_iff, beq_iff_eq, decide_eq_true_eq, ByteArray.toList_eq, ByteArray.toList_eq]
  constructor
  · intro h
    exact ByteArray.ext (Array.toList_inj.1 h)
  · intro h
    rw [h]
/-- the first with a name -/
def fnd : List FieldD → ByteArray → Option ByteArray
  | [], _ => none
  | D :: L, s => if D.f0 = s then some D.f1 else fnd L s
/-- what FieldOf answers -/
def foB (L : List FieldD) (s : ByteArray) : Option ByteArray := if gdF L = true then fnd L s else none
theorem fnd_at : ∀ (L : List FieldD) (s : ByteArray) (k : Nat), k < L.length → (∀ i, i < k → (gt fieldK L i).f0 ≠ s) → (gt fieldK L k).f0 = s → fnd L s = some (gt fieldK L k).f1
  | [], _, _, h, _, _ => absurd h (Nat.not_lt_zero _)
  | D :: L, s, 0, _, _, h => by unfold fnd; exact if_pos h
  | D :: L, s, k + 1, h, ha, he => by
    unfold fnd
    rw [if_neg (show ¬ D.f0 = s from ha 0 (by omega))]
    exact fnd_at L s k (by simpa using h) (fun i hi => ha (i + 1) (by omega)) he
theorem fnd_no : ∀ (L : List FieldD) (s : ByteArray), (∀ i, i < L.length → (gt fieldK L i).f0 ≠ s) → fnd L s = none
  | [], _, _ => rfl
  | D :: L, s, ha => by
    unfold fnd
    rw [if_neg (show ¬ D.f0 = s from ha 0 (by simp))]
    exact fnd_no L s (fun i hi => ha (i + 1) (by simpa using hi))
theorem cloneF (s : ByteArray) (w : World) (hs : s.size ≤ 1048576) :
    Calls Try.prog 20 #[.string s] w fun e w' => e = .returned (.string s) ∧ Below w.heap.size w w' := by
  have HC := hide (fun W => Try.stringslite_Clone s W (by omega))
  go_enter Try.func20, Try.ntmps20
  go_wp2_with (go_at_call 37; refine (unhide HC _).mono ?_; rintro e w1 ⟨rfl, hb1⟩)
  go_ret
  exact ⟨rfl, hb1⟩
/-- an answer that may be none -/
abbrev optV (o : Option ByteArray) : Value := .tuple #[.string (o.getD ⟨#[]⟩), .bool o.isSome]
set_option maxHeartbeats 4000000 in
theorem implFO (L : List FieldD) (s : ByteArray) (a : Option Addr) (c : Nat) (w : World) (hm : L.length ≤ 1048576) (ho : ∀ i, i < L.length → (gt fieldK L i).f0.size ≤ 1048576 ∧ (gt fieldK L i).f1.size ≤ 1048576) (h : Rd fieldK w a L) :
    Calls Try.prog 8 #[.slice a L.length c, .string s] w fun e w' => e = .returned (optV (foB L s)) ∧ Below w.heap.size w w' := by
  have HG := hide (implGF L a c w hm ho h)
  have HR := hide h
  have HO := hide ho
  clear h ho
  unfold foB
  cases hg : gdF L with
  | false =>
    rw [hg] at HG
    clear hg
    go_enter Try.func8, Try.ntmps8
    go_wp2_with fail
    refine (unhide HG).mono ?_
    rintro e w1 ⟨rfl, b1⟩
    go_wp2
    go_ret2
    exact ⟨rfl, b1⟩
  | true =>
    rw [hg] at HG
    clear hg
    rw [if_pos rfl]
    go_enter Try.func8, Try.ntmps8
    go_wp2_with fail
    refine (unhide HG).mono ?_
    rintro e w1 ⟨rfl, b1⟩
    go_wp2_with fail
    go_loopw [13] (fun i wr => ∃ k : Nat, k ≤ L.length ∧ i = .int .i64 k ∧ Hid (∀ i, i < k → (gt fieldK L i).f0 ≠ s) ∧ Below w.heap.size w wr) (fun i _ => L.length - (intOf i).toNat)
    case atStart => exact ⟨0, Nat.zero_le _, rfl, fun i hi => absurd hi (Nat.not_lt_zero _), b1⟩
    case round =>
      obtain ⟨k, hk, rfl, hA, hbel⟩ := hrel
      by_cases hlt : k < L.length
      · rcases (unhide HR).below hbel with h0 | ⟨b, o, rfl, _, hel⟩
        · rw [h0] at hlt; exact absurd hlt (Nat.not_lt_zero _)
        have x0 := field_r0 hel hlt
        have x1 := field_r1 hel hlt
        clear hel
        have HY := hide (fun q => fnd_at L s k hlt (unhide hA) q)
        have HN := hide (show (gt fieldK L k).f0 ≠ s → ∀ i, i < k + 1 → (gt fieldK L i).f0 ≠ s from fun q i hi => by
          by_cases e : i = k
          · subst e; exact q
          · exact unhide hA i (by omega))
        obtain ⟨z0, z1⟩ := unhide HO k hlt
        have HC := hide (fun W => cloneF (gt fieldK L k).f1 W z1)
        generalize gt fieldK L k = D at *
        obtain ⟨nm, vl⟩ := D
        dsimp only at x0 x1 z0 z1 HY HN HC
        have HB := hide hbel
        clear hbel z0 z1 hA
        obtain ⟨V, hV⟩ : ∃ V, V = wr.alloc (.cells #[.string nm, .string vl] 42) := ⟨_, rfl⟩
        have hBV : Below w.heap.size w V := by rw [hV]; exact (unhide HB).alloc (unhide HB).size _
        have hbx : Bx V wr.heap.size [.string nm, .string vl] := by rw [hV]; exact Bx.new wr _ _
        have y0 := hbx.cv
        have yl := hbx.lt
        have HBV := hide hBV
        have HVV := hide hV
        clear hV hBV hbx
        have tl := toList_inj (s := nm) (t := s)
        go_upto_region 6 with fail
        rw [← unhide HVV]
        clear HVV
        by_cases hq : nm = s
        · have HE := hide (unhide HY hq)
          rw [decide_eq_true hq] at tl
          clear hq
          go_wp2_with fail
          refine (unhide HC _).mono ?_
          rintro e w2 ⟨rfl, b2⟩
          have B2 := hide ((unhide HBV).trans (b2.mono (unhide HBV).size))
          clear b2
          go_wp2
          go_ret2
          exact ⟨by rw [unhide HE]; rfl, unhide B2⟩
        · have HE := hide (unhide HN hq)
          rw [decide_eq_false hq] at tl
          clear hq
          go_wp2
          exact ⟨⟨k + 1, by omega, by go_num, HE, unhide HBV⟩, by simp [intOf]; omega⟩
      · obtain rfl : k = L.length := by omega
        have HE := hide (fnd_no L s (unhide hA))
        go_wp2
        go_ret2
        exact ⟨by rw [unhide HE]; rfl, hbel⟩
set_option maxHeartbeats 4000000 in
theorem specFO (L : List FieldD) (s : ByteArray) (a : Option Addr) (c : Nat) (w : World) (hm : L.length ≤ 1048576) (ho : ∀ i, i < L.length → (gt fieldK L i).f0.size ≤ 1048576 ∧ (gt fieldK L i).f1.size ≤ 1048576) (h : Rd fieldK w a L) :
    Calls Try.prog 6 #[.slice a L.length c, .string s] w fun e w' => e = .returned (optV (foB L s)) ∧ Below w.heap.size w w' := by
  have HG := hide (specGF L a c w hm ho h)
  have HR := hide h
  have HO := hide ho
  clear h ho
  unfold foB
  cases hg : gdF L with
  | false =>
    rw [hg] at HG
    clear hg
    go_enter Try.func6, Try.ntmps6
    go_wp2_with fail
    refine (unhide HG).mono ?_
    rintro e w1 ⟨rfl, b1⟩
    go_wp2
    go_ret2
    exact ⟨rfl, b1⟩
  | true =>
    rw [hg] at HG
    clear hg
    rw [if_pos rfl]
    go_enter Try.func6, Try.ntmps6
    go_wp2_with fail
    refine (unhide HG).mono ?_
    rintro e w1 ⟨rfl, b1⟩
    go_wp2_with fail
    go_loopw [13] (fun i wr => ∃ k : Nat, k ≤ L.length ∧ i = .int .i64 k ∧ Hid (∀ i, i < k → (gt fieldK L i).f0 ≠ s) ∧ Below w.heap.size w wr) (fun i _ => L.length - (intOf i).toNat)
    case atStart => exact ⟨0, Nat.zero_le _, rfl, fun i hi => absurd hi (Nat.not_lt_zero _), b1⟩
    case round =>
      obtain ⟨k, hk, rfl, hA, hbel⟩ := hrel
      by_cases hlt : k < L.length
      · rcases (unhide HR).below hbel with h0 | ⟨b, o, rfl, _, hel⟩
        · rw [h0] at hlt; exact absurd hlt (Nat.not_lt_zero _)
        have x0 := field_r0 hel hlt
        have x1 := field_r1 hel hlt
        clear hel
        have HY := hide (fun q => fnd_at L s k hlt (unhide hA) q)
        have HN := hide (show (gt fieldK L k).f0 ≠ s → ∀ i, i < k + 1 → (gt fieldK L i).f0 ≠ s from fun q i hi => by
          by_cases e : i = k
          · subst e; exact q
          · exact unhide hA i (by omega))
        obtain ⟨z0, z1⟩ := unhide HO k hlt
        generalize gt fieldK L k = D at *
        obtain ⟨nm, vl⟩ := D
        dsimp only at x0 x1 z0 z1 HY HN
        have HB := hide hbel
        clear hbel z0 z1 hA
        obtain ⟨V, hV⟩ : ∃ V, V = wr.alloc (.cells #[.string nm, .string vl] 42) := ⟨_, rfl⟩
        have hBV : Below w.heap.size w V := by rw [hV]; exact (unhide HB).alloc (unhide HB).size _
        have hbx : Bx V wr.heap.size [.string nm, .string vl] := by rw [hV]; exact Bx.new wr _ _
        have y0 := hbx.cv
        have yl := hbx.lt
        have HBV := hide hBV
        have HVV := hide hV
        clear hV hBV hbx
        have tl := toList_inj (s := nm) (t := s)
        go_upto_region 6 with fail
        rw [← unhide HVV]
        clear HVV
        by_cases hq : nm = s
        · have HE := hide (unhide HY hq)
          rw [decide_eq_true hq] at tl
          clear hq
          go_wp2
          go_ret2
          exact ⟨by rw [unhide HE]; rfl, unhide HBV⟩
        · have HE := hide (unhide HN hq)
          rw [decide_eq_false hq] at tl
          clear hq
          go_wp2
          exact ⟨⟨k + 1, by omega, by go_num, HE, unhide HBV⟩, by simp [intOf]; omega⟩
      · obtain rfl : k = L.length := by omega
        have HE := hide (fnd_no L s (unhide hA))
        go_wp2
        go_ret2
        exact ⟨by rw [unhide HE]; rfl, hbel⟩
end Go.Proofs.Ytidgjjbdabifnab.Rc
