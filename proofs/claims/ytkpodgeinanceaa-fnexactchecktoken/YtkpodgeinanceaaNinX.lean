/-
  Contracts: the number of eight bytes, as the program reads it. Contracts: a token's shape of the program. Contracts: AgeOf of the program.
-/
import Derived.Test.YtkpodgeinanceaaL5w
import Derived.Test.YtkpodgeinanceaaStxX
import Derived.Test.YtkpodgeinanceaaMnt
namespace Go.Proofs.Ytkpodgeinanceaa
open Go.ChangeShapes Go.WideShapes Go.ChangeAt Go.RowKit
set_option linter.unusedVariables false
set_option maxRecDepth 100000

set_option maxHeartbeats 1000000 in
theorem implNum8 (s : ByteArray) (hs : s.size = 8) (w : World) :
    Calls Try.prog 43 #[.string s] w fun e w' => e = .returned (.int .i64 (IntKind.i64.wrap (nbW s 8 : Nat))) ∧ w' = w := by
  go_enter Try.func43, Try.ntmps43
  go_wp2_with fail
  go_loopw [3, 7] (fun n i wr => ∃ k : Nat, k ≤ 8 ∧ i = .int .i64 k ∧ n = .int .i64 (IntKind.i64.wrap (nbW s k : Nat)) ∧ wr = w) (fun _ i _ => 8 - (intOf i).toNat)
  case atStart => exact ⟨0, by omega, rfl, rfl, rfl⟩
  case round =>
    obtain ⟨k, hk, rfl, rfl, rfl⟩ := hrel
    by_cases hlt : k < 8
    · have hn := nbW_lt s k
      have h4 : 256 ^ k ≤ 256 ^ 7 := Nat.pow_le_pow_right (by omega) (by omega)
      have HS : Hid (nbW s (k + 1) = nbW s k * 256 + at8 s k) := rfl
      have hb : nbW s k < 72057594037927936 := by omega
      have ha := at8_lt s k
      have EO := hide (orW (nbW s k) (at8 s k) hb ha)
      have hw0 : IntKind.i64.wrap (nbW s k : Nat) = ((nbW s k : Nat) : Int) := wraps_i64 _ (by omega) (by omega)
      rw [hw0]
      have ea := at8_in s k (by omega)
      rw [ea] at EO HS
      clear h4 hn ha ea hw0
      have W8 : Hid (wrap64 ((s[k]'(by omega)).toNat : Int) = ((s[k]'(by omega)).toNat : Int)) := by
        have := UInt8.toNat_lt (s[k]'(by omega))
        exact (show wrap64 ((s[k]'(by omega)).toNat : Int) = ((s[k]'(by omega)).toNat : Int) by unfold wrap64; omega)
      generalize nbW s k = x at *
      go_wp2
      exact ⟨⟨k + 1, by omega, by go_num, by rw [unhide HS, ← unhide EO, unhide W8, wrap64_i], by first | trivial | rfl⟩, by simp [intOf]; omega⟩
    · obtain rfl : k = 8 := by omega
      go_wp2
      go_ret
      exact ⟨rfl, rfl⟩
end Go.Proofs.Ytkpodgeinanceaa
namespace Go.Proofs.Ytkpodgeinanceaa
open Go.ChangeShapes Go.WideShapes Go.ChangeAt Go.RowKit
set_option linter.unusedVariables false
set_option maxRecDepth 100000

/-- a token's shape -/
def tsB (tk : ByteArray) : Bool := decide (37 ≤ tk.size ∧ tk.size ≤ 57 ∧ at8 tk 0 ≤ 1)
theorem first_list (tk : ByteArray) (h : 0 < tk.size) : (tk.extract 0 1).toList = [tk[0]] := by
  have hz : (tk.extract 0 1).size = 1 := by rw [ByteArray.size_extract]; omega
  rw [Lib.toList_data]
  have hl : (tk.extract 0 1).data.toList.length = 1 := by rw [Array.length_toList]; exact hz
  obtain ⟨x, hx⟩ := List.length_eq_one_iff.1 hl
  rw [hx]
  have h0 : (tk.extract 0 1).data.toList[0]? = some x := by rw [hx]; rfl
  rw [Array.getElem?_toList, ByteArray.data_extract, Array.getElem?_extract] at h0
  have h2 : tk.data[0]? = some x := by
    have hs : 0 < min 1 tk.data.size - 0 := by have : tk.data.size = tk.size := rfl; omega
    rw [if_pos hs] at h0
    simpa using h0
  have h3 : tk.data[0]? = some tk[0] := Array.getElem?_eq_getElem (show 0 < tk.data.size from h)
  rw [h3] at h2
  rw [Option.some.inj h2]
theorem first_le (tk : ByteArray) (h : 0 < tk.size) : (Go.Op.bytesLess (tk.extract 0 1).toList (⟨#[1]⟩ : ByteArray).toList || ((tk.extract 0 1).toList == (⟨#[1]⟩ : ByteArray).toList)) = decide (at8 tk 0 ≤ 1) := by
  have e1 : (⟨#[1]⟩ : ByteArray).toList = [1] := by rw [Lib.toList_data]
  rw [first_list tk h, e1, at8_in tk 0 h]
  generalize tk[0] = b
  have hb : b < 1 ↔ b.toNat < 1 := UInt8.lt_iff_toNat_lt
  have he : b = 1 ↔ b.toNat = 1 := ⟨fun e => by rw [e]; rfl, fun e => UInt8.toNat_inj.1 (by rw [e]; rfl)⟩
  unfold Go.Op.bytesLess Go.Op.bytesLess
  rw [Bool.eq_iff_iff]
  simp [hb, he]
  omega
set_option maxHeartbeats 1000000 in
theorem implTS (tk : ByteArray) (hl : tk.size ≤ 1048576) (w : World) :
    Calls Try.prog 24 #[.string tk] w fun e w' => e = .returned (.bool (tsB tk)) ∧ w' = w := by
  unfold tsB
  by_cases h0 : 37 ≤ tk.size
  case neg =>
    rw [decide_eq_false (by omega)]
    have g0 : ¬ (37 : Int) ≤ (tk.size : Int) := by omega
    go_enter Try.func24, Try.ntmps24
    go_wp2
    go_ret
    exact ⟨rfl, rfl⟩
  by_cases h1 : tk.size ≤ 57
  case neg =>
    rw [decide_eq_false (by omega)]
    have g0 : (37 : Int) ≤ (tk.size : Int) := by omega
    have g1 : ¬ (tk.size : Int) ≤ 57 := by omega
    go_enter Try.func24, Try.ntmps24
    go_wp2
    go_ret
    exact ⟨rfl, rfl⟩
  rw [show decide (37 ≤ tk.size ∧ tk.size ≤ 57 ∧ at8 tk 0 ≤ 1) = decide (at8 tk 0 ≤ 1) from decide_eq_decide.2 (by omega)]
  have g0 : (37 : Int) ≤ (tk.size : Int) := by omega
  have g1 : (tk.size : Int) ≤ 57 := by omega
  have g2 : (1 : Int) ≤ (tk.size : Int) := by omega
  have g3 : 1 ≤ tk.size := by omega
  have lq : ∀ W : World, Sem.run Try.prog (binOp .leq 9 (.string (tk.extract 0 1)) (.string ⟨#[1]⟩)) W = .ok (.bool (decide (at8 tk 0 ≤ 1))) W := fun W => by
    rw [← first_le tk (by omega)]
    simp [binOp, Go.Op.stringOp]
  generalize decide (at8 tk 0 ≤ 1) = r at *
  go_enter Try.func24, Try.ntmps24
  go_wp2
  go_ret
  exact ⟨rfl, rfl⟩
end Go.Proofs.Ytkpodgeinanceaa
namespace Go.Proofs.Ytkpodgeinanceaa
open Go.ChangeShapes Go.WideShapes Go.ChangeAt Go.RowKit
set_option linter.unusedVariables false
set_option maxRecDepth 100000

/-- an age -/
def agP (t now : Int) : Prop := (0 ≤ t ∧ t ≤ 1000000000) ∧ (0 ≤ now ∧ now ≤ 1000000000) ∧ t ≤ now
set_option maxHeartbeats 1000000 in
theorem implAg_ok (d : ByteArray) (t : Int) (b : Bool) (now : Int) (hd : d.size ≤ 20) (h : agP t now) (w : World) :
    Calls Try.prog 15 #[mnV d t b, .int .i64 now] w fun e w' => e = .returned (.tuple #[.int .i64 (now - t), .bool true]) ∧ Below w.heap.size w w' := by
  obtain ⟨h1, h2, h3⟩ := h
  have HG := hide (goodMd d t b (by omega))
  rw [decide_eq_true ⟨hd, h1⟩] at HG
  have HN := hide (goodTm now)
  rw [decide_eq_true h2] at HN
  have g3 : ¬ now < t := by omega
  go_enter Try.func15, Try.ntmps15
  go_wp2_with fail
  refine (unhide HG _).mono ?_
  rintro e w1 ⟨rfl, b1⟩
  have B1 : Hid (Below w.heap.size w w1) := ((Below.refl _ _).alloc (Nat.le_refl _) _).trans (b1.mono (by simp))
  obtain ⟨hc1, hf1⟩ := bcell b1
  have p1 : ∀ o, w1.cell? ⟨w.heap.size, o, none⟩ = _ := fun o => hc1 w.heap.size o (by simp)
  clear b1 hc1 hf1
  go_wp2_with fail
  refine (unhide HN _).mono ?_
  rintro e w2 ⟨rfl, h9⟩
  rw [h9]
  clear h9 w2
  go_wp2
  go_ret2
  exact ⟨by go_num, unhide B1⟩
set_option maxHeartbeats 1000000 in
theorem implAg_no (d : ByteArray) (t : Int) (b : Bool) (now : Int) (hl : d.size ≤ 1048576) (h : ¬ (d.size ≤ 20 ∧ agP t now)) (w : World) :
    Calls Try.prog 15 #[mnV d t b, .int .i64 now] w fun e w' => e = .returned (.tuple #[.int .i64 0, .bool false]) ∧ Below w.heap.size w w' := by
  have HG := hide (goodMd d t b hl)
  by_cases h1 : d.size ≤ 20 ∧ 0 ≤ t ∧ t ≤ 1000000000
  case neg =>
    rw [decide_eq_false h1] at HG
    clear h1 h
    go_enter Try.func15, Try.ntmps15
    go_wp2_with fail
    refine (unhide HG _).mono ?_
    rintro e w1 ⟨rfl, b1⟩
    go_wp2
    go_ret2
    exact ⟨rfl, ((Below.refl _ _).alloc (Nat.le_refl _) _).trans (b1.mono (by simp))⟩
  rw [decide_eq_true h1] at HG
  have HN := hide (goodTm now)
  by_cases h2 : 0 ≤ now ∧ now ≤ 1000000000
  case neg =>
    rw [decide_eq_false h2] at HN
    clear h1 h h2
    go_enter Try.func15, Try.ntmps15
    go_wp2_with fail
    refine (unhide HG _).mono ?_
    rintro e w1 ⟨rfl, b1⟩
    have B1 : Hid (Below w.heap.size w w1) := ((Below.refl _ _).alloc (Nat.le_refl _) _).trans (b1.mono (by simp))
    clear b1
    go_wp2_with fail
    refine (unhide HN _).mono ?_
    rintro e w2 ⟨rfl, h9⟩
    rw [h9]
    clear h9 w2
    go_wp2
    go_ret2
    exact ⟨rfl, unhide B1⟩
  rw [decide_eq_true h2] at HN
  have g3 : now < t := by
    have : ¬ t ≤ now := fun x => h ⟨h1.1, h1.2, h2, x⟩
    omega
  clear h1 h h2
  go_enter Try.func15, Try.ntmps15
  go_wp2_with fail
  refine (unhide HG _).mono ?_
  rintro e w1 ⟨rfl, b1⟩
  have B1 : Hid (Below w.heap.size w w1) := ((Below.refl _ _).alloc (Nat.le_refl _) _).trans (b1.mono (by simp))
  obtain ⟨hc1, hf1⟩ := bcell b1
  have p1 : ∀ o, w1.cell? ⟨w.heap.size, o, none⟩ = _ := fun o => hc1 w.heap.size o (by simp)
  clear b1 hc1 hf1
  go_wp2_with fail
  refine (unhide HN _).mono ?_
  rintro e w2 ⟨rfl, h9⟩
  rw [h9]
  clear h9 w2
  go_wp2
  go_ret2
  exact ⟨rfl, unhide B1⟩
end Go.Proofs.Ytkpodgeinanceaa
