/-
  Contracts: CoverOf and NonceOf of both sides.
-/
import Derived.Test.YtfbecgclgffkiaaXot
import Derived.Test.YtfbecgclgffkiaaLbl
import Derived.Test.YtfbecgclgffkiaaL6f
namespace Go.Proofs.Ytfbecgclgffkiaa
open Go.ChangeShapes Go.WideShapes Go.ChangeAt Go.RowKit
set_option linter.unusedVariables false
set_option maxRecDepth 100000

/-- what covers -/
def cvrW (k s : ByteArray) : ByteArray := (abW k s).extract 0 5
theorem implCV_ok (k b : ByteArray) (h : k.size = 16 ∧ b.size = 16) (w : World) :
    Calls Try.prog 8 #[.string k, .string b] w fun e w' => e = .returned (.tuple #[.string (cvrW k b), .bool true]) ∧ Below w.heap.size w w' := by
  unfold cvrW
  have HA := hide (implABk_ok k b h)
  have hz := abW_size k b
  generalize abW k b = r at *
  go_enter Try.func8, Try.ntmps8
  go_wp2_with fail
  refine (unhide HA _).mono ?_
  rintro e w1 ⟨rfl, b1⟩
  have B1 := hide b1
  clear b1
  go_wp2
  go_ret2
  exact ⟨rfl, unhide B1⟩
theorem implCV_no (k b : ByteArray) (h : ¬ (k.size = 16 ∧ b.size = 16)) (hl : k.size ≤ 1048576) (hl2 : b.size ≤ 1048576) (w : World) :
    Calls Try.prog 8 #[.string k, .string b] w fun e w' => e = .returned (.tuple #[.string ⟨#[]⟩, .bool false]) ∧ Below w.heap.size w w' := by
  have HA := hide (implABk_no k b h hl hl2)
  go_enter Try.func8, Try.ntmps8
  go_wp2_with fail
  refine (unhide HA _).mono ?_
  rintro e w1 ⟨rfl, b1⟩
  have B1 := hide b1
  clear b1
  go_wp2
  go_ret2
  exact ⟨rfl, unhide B1⟩
theorem specCV_ok (k b : ByteArray) (h : k.size = 16 ∧ b.size = 16) (w : World) :
    Calls Try.prog 7 #[.string k, .string b] w fun e w' => e = .returned (.tuple #[.string (cvrW k b), .bool true]) ∧ Below w.heap.size w w' := by
  unfold cvrW
  have HA := hide (specBlock k b h.1 h.2)
  have hz := abW_size k b
  generalize abW k b = r at *
  obtain ⟨h1, h2⟩ := h
  go_enter Try.func7, Try.ntmps7
  go_wp2_with fail
  refine (unhide HA _).mono ?_
  rintro e w1 ⟨rfl, b1⟩
  have B1 := hide b1
  clear b1
  go_wp2
  go_ret2
  exact ⟨rfl, unhide B1⟩
theorem specCV_no (k b : ByteArray) (h : ¬ (k.size = 16 ∧ b.size = 16)) (hl : k.size ≤ 1048576) (hl2 : b.size ≤ 1048576) (w : World) :
    Calls Try.prog 7 #[.string k, .string b] w fun e w' => e = .returned (.tuple #[.string ⟨#[]⟩, .bool false]) ∧ Below w.heap.size w w' := by
  by_cases h1 : k.size = 16
  · have h2 : ((b.size : Int) != 16) = true := by simp; omega
    clear h
    go_enter Try.func7, Try.ntmps7
    go_wp2
    go_ret2
    exact ⟨rfl, Below.refl _ _⟩
  · have h2 : ((k.size : Int) != 16) = true := by simp; omega
    clear h
    go_enter Try.func7, Try.ntmps7
    go_wp2
    go_ret2
    exact ⟨rfl, Below.refl _ _⟩
theorem lo_zero : loW 0 4 = ⟨#[0, 0, 0, 0]⟩ := by
  unfold loW
  rw [bq_congr (g := fun _ => 0) (fun i hi => by unfold nB; simp)]
  rfl
/-- a packet's nonce -/
def ncW (nonce : ByteArray) (n : Nat) : ByteArray := xoW nonce (⟨#[0, 0, 0, 0]⟩ ++ loW n 8)
theorem nc_size (n : Nat) : ((⟨#[0, 0, 0, 0]⟩ : ByteArray) ++ loW n 8).size = 12 := by rw [ByteArray.size_append, loW_size]; rfl
theorem goodN (n : Int) (w : World) :
    Calls Try.prog 11 #[.int .i64 n] w fun e w' => e = .returned (.bool (decide (0 ≤ n) && decide (n ≤ 4611686018427387903))) ∧ w' = w := by
  by_cases h : 0 ≤ n
  · have h1 : decide (0 ≤ n) = true := by simpa using h
    go_enter Try.func11, Try.ntmps11
    go_wp2
    go_ret
    exact ⟨by rw [h1]; rfl, rfl⟩
  · have h1 : decide (0 ≤ n) = false := by simpa using h
    go_enter Try.func11, Try.ntmps11
    go_wp2
    go_ret
    exact ⟨rfl, rfl⟩
set_option maxHeartbeats 1000000 in
theorem implNC_ok (nonce : ByteArray) (n : Int) (h : nonce.size = 12 ∧ 0 ≤ n ∧ n ≤ 4611686018427387903) (w : World) :
    Calls Try.prog 6 #[.string nonce, .int .i64 n] w fun e w' => e = .returned (.tuple #[.string (ncW nonce n.toNat), .bool true]) ∧ Below w.heap.size w w' := by
  obtain ⟨h0, h1, h2⟩ := h
  have HG : Hid (∀ W : World, Calls Try.prog 11 #[.int .i64 n] W fun e w' => e = .returned (.bool true) ∧ w' = W) := fun W => by
    have h9 := goodN n W
    rw [decide_eq_true h1, decide_eq_true h2] at h9
    exact h9
  obtain ⟨m, rfl⟩ : ∃ m : Nat, n = (m : Int) := ⟨n.toNat, by omega⟩
  rw [Int.toNat_natCast]
  have HL := hide (implLow m 8 (by omega) (by omega))
  have HZ : Hid (∀ W : World, Calls Try.prog 13 #[.int .i64 0, .int .i64 4] W fun e w' => e = .returned (.string ⟨#[0, 0, 0, 0]⟩) ∧ Below W.heap.size W w') := fun W => by
    have h9 := implLow 0 4 (by omega) (by omega) W
    rw [lo_zero] at h9
    exact h9
  have ad := fun W : World => run_string_add_sum (P := Try.prog) (w := W) (⟨#[0, 0, 0, 0]⟩ : ByteArray) (loW m 8) (by rw [loW_size]; show 4 + 8 ≤ _; omega)
  have HX := hide (implXT_ok nonce (⟨#[0, 0, 0, 0]⟩ ++ loW m 8) (by rw [nc_size]; exact h0) (by omega))
  unfold ncW
  generalize xoW nonce (⟨#[0, 0, 0, 0]⟩ ++ loW m 8) = r at *
  generalize (⟨#[0, 0, 0, 0]⟩ : ByteArray) ++ loW m 8 = y at *
  generalize loW m 8 = z at *
  generalize (⟨#[0, 0, 0, 0]⟩ : ByteArray) = z0 at *
  go_enter Try.func6, Try.ntmps6
  go_wp2_with fail
  refine (unhide HG _).mono ?_
  rintro e w1 ⟨rfl, e1⟩
  rw [e1]
  clear e1 w1
  go_wp2_with fail
  refine (unhide HZ _).mono ?_
  rintro e w1 ⟨rfl, b1⟩
  have B1 := hide b1
  clear b1
  go_wp2_with fail
  refine (unhide HL _).mono ?_
  rintro e w2 ⟨rfl, b2⟩
  have B2 := hide ((unhide B1).trans (b2.mono (unhide B1).size))
  clear b2 B1
  go_wp2_with fail
  refine (unhide HX _).mono ?_
  rintro e w3 ⟨rfl, b3⟩
  have B3 := hide ((unhide B2).trans (b3.mono (unhide B2).size))
  clear b3 B2
  go_wp2
  go_ret2
  exact ⟨rfl, unhide B3⟩
theorem implNC_no (nonce : ByteArray) (n : Int) (h : ¬ (nonce.size = 12 ∧ 0 ≤ n ∧ n ≤ 4611686018427387903)) (hl : nonce.size ≤ 1048576) (kn : (Lit.int .i64 n).wf = true) (w : World) :
    Calls Try.prog 6 #[.string nonce, .int .i64 n] w fun e w' => e = .returned (.tuple #[.string ⟨#[]⟩, .bool false]) ∧ Below w.heap.size w w' := by
  clear kn
  by_cases h1 : nonce.size = 12
  · have HG : Hid (∀ W : World, Calls Try.prog 11 #[.int .i64 n] W fun e w' => e = .returned (.bool false) ∧ w' = W) := fun W => by
      have h9 := goodN n W
      rw [show (decide (0 ≤ n) && decide (n ≤ 4611686018427387903)) = false by
        rw [← Bool.decide_and]; exact decide_eq_false (fun x => h ⟨h1, x⟩)] at h9
      exact h9
    clear h
    go_enter Try.func6, Try.ntmps6
    go_wp2_with fail
    refine (unhide HG _).mono ?_
    rintro e w1 ⟨rfl, e1⟩
    rw [e1]
    clear e1 w1
    go_wp2
    go_ret2
    exact ⟨rfl, Below.refl _ _⟩
  · have h2 : ((nonce.size : Int) != 12) = true := by simp; omega
    clear h
    go_enter Try.func6, Try.ntmps6
    go_wp2
    go_ret2
    exact ⟨rfl, Below.refl _ _⟩
set_option maxHeartbeats 1000000 in
theorem specNonce (nonce : ByteArray) (m : Nat) (h0 : nonce.size = 12) (h2 : m ≤ 4611686018427387903) (w : World) :
    Calls Try.prog 10 #[.string nonce, .int .i64 m] w fun e w' => e = .returned (.string (ncW nonce m)) ∧ Below w.heap.size w w' := by
  have HL := hide (specFx m 8 (by omega) (by omega))
  have ad := fun W : World => run_string_add_sum (P := Try.prog) (w := W) (⟨#[0, 0, 0, 0]⟩ : ByteArray) (loW m 8) (by rw [loW_size]; show 4 + 8 ≤ _; omega)
  have hy := nc_size m
  unfold ncW
  generalize hY : (⟨#[0, 0, 0, 0]⟩ : ByteArray) ++ loW m 8 = y at *
  generalize loW m 8 = z at *
  clear hY
  go_enter Try.func10, Try.ntmps10
  go_wp2_with fail
  obtain ⟨cap, W, hcv, hbW, hcW, hsz⟩ := conv_ar w nonce
  rw [hcv, h0]
  rw [h0] at hcW
  have B1 := hide hbW
  have A1 := hide hcW
  clear hcv hcW hbW hsz
  go_wp2_with fail
  refine (unhide HL _).mono ?_
  rintro e w2 ⟨rfl, b2⟩
  have A2 := hide ((unhide A1).below b2 (unhide A1).lt)
  have B2 := hide ((unhide B1).trans (b2.mono (unhide B1).size))
  clear b2 B1 A1
  go_wp2_with fail
  obtain ⟨cap2, W2, hcv, hbW, hcW, hsz⟩ := conv_ar w2 y
  rw [hcv, hy]
  rw [hy] at hcW
  have B3 := hide ((unhide B2).trans (hbW.mono (unhide B2).size))
  have A3 := hide ((unhide A2).below hbW (unhide A2).lt)
  have A4 := hide hcW
  clear hcv hcW hbW hsz A2 B2
  go_wp2_with fail
  refine (specXorN 12 (by omega) _ _ _ _ _ _ (at8 nonce) (at8 y) (at8_lt nonce) (at8_lt y) _ (unhide A3) (unhide A4)).mono ?_
  rintro e w4 ⟨g, hg, rfl, h4, b4⟩
  have hst := ar_string h4 (fun i _ => xor_lt _ _ (at8_lt nonce i) (at8_lt y i)) 12
  have B4 := hide ((unhide B3).trans (b4.mono (unhide B3).size))
  clear h4 b4 A3 A4 B3
  go_wp2
  go_ret
  unfold xoW
  rw [h0]
  exact ⟨rfl, unhide B4⟩
theorem specNC_ok (nonce : ByteArray) (n : Int) (h : nonce.size = 12 ∧ 0 ≤ n ∧ n ≤ 4611686018427387903) (w : World) :
    Calls Try.prog 5 #[.string nonce, .int .i64 n] w fun e w' => e = .returned (.tuple #[.string (ncW nonce n.toNat), .bool true]) ∧ Below w.heap.size w w' := by
  obtain ⟨h0, h1, h2⟩ := h
  have HG : Hid (∀ W : World, Calls Try.prog 9 #[.int .i64 n, .int .i64 0, .int .i64 4611686018427387903] W fun e w' => e = .returned (.bool true) ∧ w' = W) := fun W => by
    have h9 := inB n 0 4611686018427387903 W
    rw [decide_eq_true h1, decide_eq_true h2] at h9
    exact h9
  obtain ⟨m, rfl⟩ : ∃ m : Nat, n = (m : Int) := ⟨n.toNat, by omega⟩
  rw [Int.toNat_natCast]
  have HN := hide (specNonce nonce m h0 (by omega))
  generalize ncW nonce m = r at *
  go_enter Try.func5, Try.ntmps5
  go_wp2_with fail
  refine (unhide HG _).mono ?_
  rintro e w1 ⟨rfl, e1⟩
  rw [e1]
  clear e1 w1
  go_wp2_with fail
  refine (unhide HN _).mono ?_
  rintro e w1 ⟨rfl, b1⟩
  have B1 := hide b1
  clear b1
  go_wp2
  go_ret2
  exact ⟨rfl, unhide B1⟩
theorem specNC_no (nonce : ByteArray) (n : Int) (h : ¬ (nonce.size = 12 ∧ 0 ≤ n ∧ n ≤ 4611686018427387903)) (hl : nonce.size ≤ 1048576) (kn : (Lit.int .i64 n).wf = true) (w : World) :
    Calls Try.prog 5 #[.string nonce, .int .i64 n] w fun e w' => e = .returned (.tuple #[.string ⟨#[]⟩, .bool false]) ∧ Below w.heap.size w w' := by
  clear kn
  by_cases h1 : nonce.size = 12
  · have HG : Hid (∀ W : World, Calls Try.prog 9 #[.int .i64 n, .int .i64 0, .int .i64 4611686018427387903] W fun e w' => e = .returned (.bool false) ∧ w' = W) := fun W => by
      have h9 := inB n 0 4611686018427387903 W
      rw [show (decide (0 ≤ n) && decide (n ≤ 4611686018427387903)) = false by
        rw [← Bool.decide_and]; exact decide_eq_false (fun x => h ⟨h1, x⟩)] at h9
      exact h9
    clear h
    go_enter Try.func5, Try.ntmps5
    go_wp2_with fail
    refine (unhide HG _).mono ?_
    rintro e w1 ⟨rfl, e1⟩
    rw [e1]
    clear e1 w1
    go_wp2
    go_ret2
    exact ⟨rfl, Below.refl _ _⟩
  · have h2 : ((nonce.size : Int) != 12) = true := by simp; omega
    clear h
    go_enter Try.func5, Try.ntmps5
    go_wp2
    go_ret2
    exact ⟨rfl, Below.refl _ _⟩
end Go.Proofs.Ytfbecgclgffkiaa
