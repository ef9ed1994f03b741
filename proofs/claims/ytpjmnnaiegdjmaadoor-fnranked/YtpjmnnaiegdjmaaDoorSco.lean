/-
  Contracts: scores, of both sides.
-/
import Derived.Test.YtpjmnnaiegdjmaaDoorLnw
import Derived.Test.YtpjmnnaiegdjmaaDoorBkd
import Derived.Test.YtpjmnnaiegdjmaaDoorBxs
namespace Go.Proofs.YtpjmnnaiegdjmaaDoor
open Go.ChangeShapes Go.WideShapes Go.ChangeAt Go.RowKit
set_option linter.unusedVariables false
set_option maxRecDepth 100000

theorem orI7 (n c : Nat) (hn : n < 281474976710656) (hc : c < 256) : bits .or .i64 ((n : Int) * 256) (c : Int) = ((n * 256 + c : Nat) : Int) := by
  have h1 := Nat.two_pow_add_eq_or_of_lt (i := 8) (b := c) (by omega) n
  rw [show (n : Int) * 256 = ((n * 256 : Nat) : Int) by omega]
  have h : n * 256 < 2 ^ 63 := by omega
  rw [(bits_nat .i64 63 (by decide) (fun n h0 h1 => wraps_i64 n h0 h1) _ _ h (by omega)).2]
  rw [Nat.mul_comm] at h1
  rw [h1]
theorem specBig7 (s : ByteArray) (hs : s.size = 7) (w : World) :
    Calls Tryd.prog 58 #[.string s] w fun e w' => e = .returned (.int .i64 (nbW s 7 : Nat)) ∧ w' = w := by
  go_enter Tryd.func58, Tryd.ntmps58
  go_wp2_with fail
  go_loopw [3, 4] (fun n i wr => ∃ k : Nat, k ≤ 7 ∧ i = .int .i64 k ∧ n = .int .i64 (nbW s k : Nat) ∧ wr = w) (fun _ i _ => 7 - (intOf i).toNat)
  case atStart => exact ⟨0, by omega, rfl, rfl, rfl⟩
  case round =>
    obtain ⟨k, hk, rfl, rfl, rfl⟩ := hrel
    by_cases hlt : k < 7
    · have hn := nbW_lt s k
      have h4 : 256 ^ k ≤ 256 ^ 6 := Nat.pow_le_pow_right (by omega) (by omega)
      have HS : Hid (nbW s (k + 1) = nbW s k * 256 + at8 s k) := rfl
      have hb : nbW s k < 281474976710656 := by omega
      have ha := at8_lt s k
      have EO := hide (orI7 (nbW s k) (at8 s k) (by omega) ha)
      have ea := at8_in s k (by omega)
      rw [ea] at EO HS
      clear h4 hn ha ea
      have W8 : Hid (wrap64 ((s[k]'(by omega)).toNat : Int) = ((s[k]'(by omega)).toNat : Int)) := by
        have := UInt8.toNat_lt (s[k]'(by omega))
        exact (show wrap64 ((s[k]'(by omega)).toNat : Int) = ((s[k]'(by omega)).toNat : Int) by unfold wrap64; omega)
      generalize nbW s k = x at *
      go_wp2
      exact ⟨⟨k + 1, by omega, by go_num, by rw [unhide HS, ← unhide EO, unhide W8], by first | trivial | rfl⟩, by simp [intOf]; omega⟩
    · obtain rfl : k = 7 := by omega
      go_wp2
      go_ret
      exact ⟨rfl, rfl⟩
theorem implNum7 (s : ByteArray) (hs : s.size = 7) (w : World) :
    Calls Tryd.prog 63 #[.string s] w fun e w' => e = .returned (.int .i64 (nbW s 7 : Nat)) ∧ w' = w := by
  go_enter Tryd.func63, Tryd.ntmps63
  go_wp2_with fail
  go_loopw [3, 7] (fun n i wr => ∃ k : Nat, k ≤ 7 ∧ i = .int .i64 k ∧ n = .int .i64 (nbW s k : Nat) ∧ wr = w) (fun _ i _ => 7 - (intOf i).toNat)
  case atStart => exact ⟨0, by omega, rfl, rfl, rfl⟩
  case round =>
    obtain ⟨k, hk, rfl, rfl, rfl⟩ := hrel
    by_cases hlt : k < 7
    · have hn := nbW_lt s k
      have h4 : 256 ^ k ≤ 256 ^ 6 := Nat.pow_le_pow_right (by omega) (by omega)
      have HS : Hid (nbW s (k + 1) = nbW s k * 256 + at8 s k) := rfl
      have hb : nbW s k < 281474976710656 := by omega
      have ha := at8_lt s k
      have EO := hide (orI7 (nbW s k) (at8 s k) (by omega) ha)
      have ea := at8_in s k (by omega)
      rw [ea] at EO HS
      clear h4 hn ha ea
      have W8 : Hid (wrap64 ((s[k]'(by omega)).toNat : Int) = ((s[k]'(by omega)).toNat : Int)) := by
        have := UInt8.toNat_lt (s[k]'(by omega))
        exact (show wrap64 ((s[k]'(by omega)).toNat : Int) = ((s[k]'(by omega)).toNat : Int) by unfold wrap64; omega)
      generalize nbW s k = x at *
      go_wp2
      exact ⟨⟨k + 1, by omega, by go_num, by rw [unhide HS, ← unhide EO, unhide W8], by first | trivial | rfl⟩, by simp [intOf]; omega⟩
    · obtain rfl : k = 7 := by omega
      go_wp2
      go_ret
      exact ⟨rfl, rfl⟩
/-- what is hashed -/
def scT (b k : ByteArray) : ByteArray := b ++ ⟨#[0]⟩ ++ k
theorem scT_size (b k : ByteArray) : (scT b k).size = b.size + 1 + k.size := by
  unfold scT
  rw [ByteArray.size_append, ByteArray.size_append]
  rfl
/-- the score of a backend for a key -/
def scN (b k : ByteArray) : Nat := nbW ((shW (scT b k)).extract 0 7) 7
theorem scN_lt (b k : ByteArray) : scN b k < 72057594037927936 := nbW_lt _ 7
theorem sh7 (t : ByteArray) : ((shW t).extract 0 7).size = 7 := by
  rw [ByteArray.size_extract]
  unfold shW
  rw [bq_size]
  rfl
theorem scT_mid (b k : ByteArray) (hb : b.size ≤ 1000) : (b ++ (⟨#[0]⟩ : ByteArray)).size = b.size + 1 := by rw [ByteArray.size_append]; rfl
set_option maxHeartbeats 1000000 in
theorem implNew (b k : ByteArray) (hb : b.size ≤ 1000) (hk : k.size ≤ 1000) (w : World) (hT : Rt w) :
    Calls Tryd.prog 35 #[.string b, .string k] w fun e w' => e = .returned (.agg #[.string b, .int .i64 (scN b k : Nat)]) ∧ Below w.heap.size w w' := by
  have HT := hide (fun W (q : Below w.heap.size w W) => hT.kept q)
  clear hT
  have ad1 := fun W : World => run_string_add_sum (P := Tryd.prog) (w := W) b (⟨#[0]⟩ : ByteArray) (by show b.size + 1 ≤ _; omega)
  have ad2 := fun W : World => run_string_add_sum (P := Tryd.prog) (w := W) (b ++ (⟨#[0]⟩ : ByteArray)) k (by rw [scT_mid b k hb]; omega)
  have HH := hide (fun W (hW : Rt W) => implHashOf (scT b k) (by rw [scT_size]; omega) W hW)
  have HN := hide (fun W : World => implNum7 ((shW (scT b k)).extract 0 7) (sh7 _) W)
  have hs7 : (shW (scT b k)).size = 32 := by unfold shW; rw [bq_size]
  have hsc : Hid (nbW ((shW (scT b k)).extract 0 7) 7 = scN b k) := rfl
  rw [unhide hsc] at HN
  generalize scN b k = n at *
  clear hsc
  unfold scT at HH HN hs7
  generalize shW (b ++ (⟨#[0]⟩ : ByteArray) ++ k) = h at *
  generalize b ++ (⟨#[0]⟩ : ByteArray) = b0 at *
  generalize b0 ++ k = b1 at *
  have i7 : (7 : Int) ≤ (h.size : Int) := by omega
  have i8 : 7 ≤ h.size := by omega
  go_enter Tryd.func35, Tryd.ntmps35
  go_wp2_with fail
  refine (unhide HH _ (unhide HT _ ((Below.refl _ _).alloc (Nat.le_refl _) _))).mono ?_
  rintro e w1 ⟨rfl, q1⟩
  have R1 : Bx w1 w.heap.size [.string ⟨#[]⟩, .int .i64 0] := (Bx.new w _ _).below q1
  have B1 := hide (((Below.refl w.heap.size w).alloc (Nat.le_refl _) _).trans (q1.mono (by simp)))
  have r1 := R1.cv
  have r2 := R1.fz
  clear R1 q1
  go_wp2_with fail
  refine (unhide HN _).mono ?_
  rintro e w2 ⟨rfl, e2⟩
  subst w2
  go_wp2
  refine bodyPost_ret (v := .agg #[.string b, .int .i64 n]) (by simp [results, Tryd.results35, go_sem, r1]) rfl ⟨rfl, ?_⟩
  iterate 2 refine Below.setCell ?_ (by simp) _
  exact unhide B1
set_option maxHeartbeats 1000000 in
theorem specScore (b k : ByteArray) (hb : b.size ≤ 1000) (hk : k.size ≤ 1000) (w : World) (p gw cw gf cf : Nat) (h4 : L4 w p gw cw gf cf) :
    Calls Tryd.prog 31 #[.pointer (some ⟨p, 0, none⟩), .string b, .string k] w fun e w' => e = .returned (.int .i64 (scN b k : Nat)) ∧ Below w.heap.size w w' := by
  have ad1 := fun W : World => run_string_add_sum (P := Tryd.prog) (w := W) b (⟨#[0]⟩ : ByteArray) (by show b.size + 1 ≤ _; omega)
  have ad2 := fun W : World => run_string_add_sum (P := Tryd.prog) (w := W) (b ++ (⟨#[0]⟩ : ByteArray)) k (by rw [scT_mid b k hb]; omega)
  have HH : Hid (Calls Tryd.prog 59 #[.pointer (some ⟨p, 0, none⟩), .string (scT b k)] w fun e w' => e = .returned (.string (shW (scT b k))) ∧ Below w.heap.size w w') := specSum (scT b k) (by rw [scT_size]; omega) w p gw cw gf cf h4
  have HN := hide (fun W : World => specBig7 ((shW (scT b k)).extract 0 7) (sh7 _) W)
  have hs7 : (shW (scT b k)).size = 32 := by unfold shW; rw [bq_size]
  have hsc : Hid (nbW ((shW (scT b k)).extract 0 7) 7 = scN b k) := rfl
  rw [unhide hsc] at HN
  clear h4
  generalize scN b k = n at *
  clear hsc
  unfold scT at HH HN hs7
  generalize shW (b ++ (⟨#[0]⟩ : ByteArray) ++ k) = h at *
  generalize b ++ (⟨#[0]⟩ : ByteArray) = b0 at *
  generalize b0 ++ k = b1 at *
  have i7 : (7 : Int) ≤ (h.size : Int) := by omega
  have i8 : 7 ≤ h.size := by omega
  go_enter Tryd.func31, Tryd.ntmps31
  go_wp2_with fail
  refine (unhide HH).mono ?_
  rintro e w1 ⟨rfl, q1⟩
  have B1 := hide q1
  clear q1
  go_wp2_with fail
  refine (unhide HN _).mono ?_
  rintro e w2 ⟨rfl, e2⟩
  subst w2
  go_wp2
  go_ret
  exact ⟨rfl, unhide B1⟩
theorem fld1 (b : ByteArray) (n : Int) (W : World) : (Instr.field 47 (.agg #[.string b, .int .i64 n]) 1).run Tryd.prog W = .ok (.int .i64 n) W := by kernel_rfl
theorem fld0 (b : ByteArray) (n : Int) (W : World) : (Instr.field 47 (.agg #[.string b, .int .i64 n]) 0).run Tryd.prog W = .ok (.string b) W := by kernel_rfl
/-- what ScoreOf answers -/
def soR (b k : ByteArray) : Value := if bkB b = true ∧ k.size ≤ 100 then .tuple #[.int .i64 (scN b k : Nat), .bool true] else .tuple #[.int .i64 0, .bool false]
set_option maxHeartbeats 1000000 in
theorem implSc (b k : ByteArray) (hb : b.size ≤ 1048576) (hk : k.size ≤ 1048576) (w : World) (hT : Rt w) :
    Calls Tryd.prog 10 #[.string b, .string k] w fun e w' => e = .returned (soR b k) ∧ Below w.heap.size w w' := by
  have HG := hide (fun W => implGB b W (by unfold maxLen; omega))
  unfold soR
  by_cases c : bkB b = true
  case neg =>
    rw [if_neg (fun z => c z.1)]
    rw [Bool.eq_false_iff.2 c] at HG
    go_enter Tryd.func10, Tryd.ntmps10
    go_wp2_with fail
    refine (unhide HG _).mono ?_
    rintro e w1 ⟨rfl, e1⟩
    subst w1
    go_wp2
    go_ret2
    exact ⟨rfl, Below.refl _ _⟩
  have hb12 : b.size ≤ 12 := by
    unfold bkB at c
    rw [Bool.and_eq_true, Bool.and_eq_true] at c
    exact of_decide_eq_true c.1.2
  rw [c] at HG
  have HW := hide (fun W g q hc => within_one k 100 (by omega) hk W g q hc)
  by_cases h1 : k.size ≤ 100
  case neg =>
    rw [if_neg (fun z => h1 z.2)]
    rw [decide_eq_false h1] at HW
    clear c
    go_enter Tryd.func10, Tryd.ntmps10
    go_wp2_with fail
    refine (unhide HG _).mono ?_
    rintro e w1 ⟨rfl, e1⟩
    subst w1
    go_wp2_with fail
    refine (unhide HW _ _ _ (by simp)).mono ?_
    rintro e w2 ⟨rfl, e2⟩
    subst w2
    go_wp2
    go_ret2
    exact ⟨rfl, (Below.refl _ _).alloc (Nat.le_refl _) _⟩
  rw [if_pos ⟨c, h1⟩]
  rw [decide_eq_true h1] at HW
  have HN := hide (fun W (q : Below w.heap.size w W) => implNew b k (by omega) (by omega) W (hT.kept q))
  clear c hT
  have fd := fld1 b (scN b k : Nat)
  generalize scN b k = n at *
  go_enter Tryd.func10, Tryd.ntmps10
  go_wp2_with fail
  refine (unhide HG _).mono ?_
  rintro e w1 ⟨rfl, e1⟩
  subst w1
  go_wp2_with fail
  refine (unhide HW _ _ _ (by simp)).mono ?_
  rintro e w2 ⟨rfl, e2⟩
  subst w2
  go_wp2_with fail
  refine (unhide HN _ ((Below.refl _ _).alloc (Nat.le_refl _) _)).mono ?_
  rintro e w3 ⟨rfl, q3⟩
  have B3 := hide (((Below.refl w.heap.size w).alloc (Nat.le_refl _) _).trans (q3.mono (by simp)))
  clear q3
  go_wp2
  go_ret2
  exact ⟨rfl, unhide B3⟩
set_option maxHeartbeats 1000000 in
theorem specSc (b k : ByteArray) (hb : b.size ≤ 1048576) (hk : k.size ≤ 1048576) (w : World) :
    Calls Tryd.prog 9 #[.string b, .string k] w fun e w' => e = .returned (soR b k) ∧ Below w.heap.size w w' := by
  have HG := hide (fun W => specBk b W (by unfold maxLen; omega))
  unfold soR
  by_cases c : bkB b = true
  case neg =>
    rw [if_neg (fun z => c z.1)]
    rw [Bool.eq_false_iff.2 c] at HG
    go_enter Tryd.func9, Tryd.ntmps9
    go_wp2_with fail
    refine (unhide HG _).mono ?_
    rintro e w1 ⟨rfl, e1⟩
    subst w1
    go_wp2
    go_ret2
    exact ⟨rfl, Below.refl _ _⟩
  have hb12 : b.size ≤ 12 := by
    unfold bkB at c
    rw [Bool.and_eq_true, Bool.and_eq_true] at c
    exact of_decide_eq_true c.1.2
  rw [c] at HG
  by_cases h1 : k.size ≤ 100
  case neg =>
    rw [if_neg (fun z => h1 z.2)]
    clear c
    go_enter Tryd.func9, Tryd.ntmps9
    go_wp2_with fail
    refine (unhide HG _).mono ?_
    rintro e w1 ⟨rfl, e1⟩
    subst w1
    go_wp2
    go_ret2
    exact ⟨rfl, Below.refl _ _⟩
  rw [if_pos ⟨c, h1⟩]
  have HN := hide (fun W p gw cw gf cf (h4 : L4 W p gw cw gf cf) => specScore b k (by omega) (by omega) W p gw cw gf cf h4)
  clear c
  generalize scN b k = n at *
  go_enter Tryd.func9, Tryd.ntmps9
  go_wp2_with fail
  refine (unhide HG _).mono ?_
  rintro e w1 ⟨rfl, e1⟩
  subst w1
  go_wp2_with fail
  refine (specNew _).mono ?_
  rintro e w2 ⟨p, gw, cw, gf, cf, rfl, h4, b2⟩
  have H4 := hide h4
  have B2 := hide b2
  clear h4 b2
  go_wp2_with fail
  refine (unhide HN _ _ _ _ _ _ (unhide H4)).mono ?_
  rintro e w3 ⟨rfl, q3⟩
  have B3 := hide ((unhide B2).trans (q3.mono (unhide B2).size))
  clear q3
  go_wp2
  go_ret2
  exact ⟨rfl, unhide B3⟩
end Go.Proofs.YtpjmnnaiegdjmaaDoor
