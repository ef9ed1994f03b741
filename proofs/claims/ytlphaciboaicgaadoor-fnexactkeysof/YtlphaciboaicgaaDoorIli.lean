/-
  Contracts: what a label tells, the program's.
-/
import Derived.Test.YtlphaciboaicgaaDoorIex
namespace Go.Proofs.YtlphaciboaicgaaDoor
open Go.ChangeShapes Go.WideShapes Go.ChangeAt Go.RowKit
set_option linter.unusedVariables false

/-- the six bytes ahead of a label -/
def mkT : ByteArray := ⟨#[116, 108, 115, 49, 51, 32]⟩
/-- the bytes of what a label tells -/
def liB (label : ByteArray) (a b i : Nat) : Nat :=
  if i < 3 then (if i = 0 then a else if i = 1 then b else 6 + label.size) else if i < 9 then at8 mkT (i - 3) else if i < 9 + label.size then at8 label (i - 9) else 0
theorem liB_lt (label : ByteArray) (a b i : Nat) (ha : a < 256) (hb : b < 256) (hl : label.size ≤ 100) : liB label a b i < 256 := by
  unfold liB
  by_cases h3 : i < 3
  · rw [if_pos h3]
    by_cases h0 : i = 0
    · rw [if_pos h0]; exact ha
    · rw [if_neg h0]
      by_cases h1 : i = 1
      · rw [if_pos h1]; exact hb
      · rw [if_neg h1]; omega
  · rw [if_neg h3]
    by_cases h9 : i < 9
    · rw [if_pos h9]; exact at8_lt _ _
    · rw [if_neg h9]
      by_cases hl9 : i < 9 + label.size
      · rw [if_pos hl9]; exact at8_lt _ _
      · rw [if_neg hl9]; omega
theorem Ob.new (w : World) (base n : Nat) (f : Nat → Nat) (hb : base ≤ w.heap.size) (hn : n ≤ 1048576) : Ob base (w.alloc (.cells (us n f).toArray 5)) (.slice (some ⟨w.heap.size, 0, none⟩) n n) n f := by
  refine ⟨by rw [us_length]; omega, .inr ⟨w.heap.size, n, (us n f).toArray, rfl, hb, heap_alloc_new w _, Nat.le_refl _, by unfold maxLen; omega, by rw [us_size]; omega, ?_⟩⟩
  rw [Nat.mul_one]
  exact List.take_of_length_le (by rw [us_length]; exact Nat.le_refl _)
set_option maxRecDepth 100000 in
set_option maxHeartbeats 1000000 in
theorem implLabelInfo (label : ByteArray) (n : Int) (hl : label.size ≤ 100) (w : World) :
    Calls Tryd.prog 18 #[.string label, .int .i64 n] w fun e w' => e = .returned (.string (bq (10 + label.size) (liB label (n / 256 % 256).toNat (n % 256).toNat))) ∧ Below w.heap.size w w' := by
  obtain ⟨i0, hi0, hz0, hz1, hz2⟩ := info_u8j
  obtain ⟨a, ha⟩ : ∃ a : Nat, a = (n / 256 % 256).toNat := ⟨_, rfl⟩
  obtain ⟨b, hb⟩ : ∃ b : Nat, b = (n % 256).toNat := ⟨_, rfl⟩
  have ha2 : n / 256 % 256 = (a : Int) := by omega
  have hb2 : n % 256 = (b : Int) := by omega
  have ha3 : a < 256 := by omega
  have hb3 : b < 256 := by omega
  rw [← ha, ← hb]
  have HAB := hide (And.intro ha2 hb2)
  have e3 : (us 3 (liB label a b)).toArray = #[.int .u8 (a : Int), .int .u8 (b : Int), .int .u8 (6 + (label.size : Int))] := by
    rw [us_def]
    simp [liB, List.range_succ]
  have O0 := Ob.new w w.heap.size 3 (liB label a b) (Nat.le_refl _) (by omega)
  rw [e3, ← ha2, ← hb2] at O0
  have e6 : Go.Lib.strCells mkT = us 6 (fun i => liB label a b (3 + i)) := by
    rw [str_us]
    refine us_congr fun i hi => ?_
    have hi2 : i < 6 := hi
    show at8 mkT i = liB label a b (3 + i)
    unfold liB
    rw [if_neg (by omega), if_pos (by omega), Nat.add_sub_cancel_left]
  have el : Go.Lib.strCells label = us label.size (fun i => liB label a b (3 + 6 + i)) := by
    rw [str_us]
    refine us_congr fun i hi => ?_
    show at8 label i = liB label a b (3 + 6 + i)
    unfold liB
    rw [if_neg (by omega), if_neg (by omega), if_pos (by omega), show 3 + 6 + i - 9 = i by omega]
  have hend : liB label a b (3 + 6 + label.size) = 0 := by
    unfold liB
    rw [if_neg (by omega), if_neg (by omega), if_neg (by omega)]
  have HLT := hide (fun i => liB_lt label a b i ha3 hb3 hl)
  have HO0 := hide O0
  have HE6 := hide e6
  have HEL := hide el
  have HEN := hide hend
  have hm6 : mkT.size = 6 := rfl
  have B0 := hide ((Below.refl w.heap.size w).alloc (Nat.le_refl _) (.cells #[.int .u8 (n / 256 % 256), .int .u8 (n % 256), .int .u8 (6 + (label.size : Int))] 5))
  have hz3 : w.heap.size ≤ (w.alloc (.cells #[.int .u8 (n / 256 % 256), .int .u8 (n % 256), .int .u8 (6 + (label.size : Int))] 5)).heap.size := by rw [World.size_alloc]; omega
  clear O0 e3 e6 el hend ha hb ha2 hb2
  go_enter Tryd.func18, Tryd.ntmps18
  go_wp2_with (at_builtin; refine Go.Lib.wpList_append_own_string (w := w.alloc (.cells #[.int .u8 (n / 256 % 256), .int .u8 (n % 256), .int .u8 (6 + (label.size : Int))] 5)) rfl _ _ 46 9 rfl w.heap.size 5 i0 Tryd.underlying46 Tryd.underlying9 hi0 hz0 hz1 hz2 _ 3 _ rfl (unhide HO0) mkT rfl ?c1 ?c2 hz3 ?_)
  case c1 => rw [hm6]; unfold maxLen; omega
  case c2 => rw [hm6]; omega
  intro v1 W1 hown hgrow hne
  rw [unhide HE6] at hown
  have O1 := hide (Ob.grow (n := 3) (m := 6) hown)
  have b1 := Ob.below (unhide HO0) hgrow hz3
  have B1 := hide ((unhide B0).trans b1)
  have hs1 := Nat.le_trans hz3 b1.size
  clear hown hgrow hne b1 HO0 B0 HE6 hz3
  go_wp2_with (at_builtin; refine Go.Lib.wpList_append_own_string (w := W1) rfl _ _ 46 9 rfl w.heap.size 5 i0 Tryd.underlying46 Tryd.underlying9 hi0 hz0 hz1 hz2 _ (3 + 6) _ rfl (unhide O1) label rfl ?c1 ?c2 hs1 ?_)
  case c1 => unfold maxLen; omega
  case c2 => omega
  intro v2 W2 hown hgrow hne
  rw [unhide HEL] at hown
  have O2 := Ob.grow (n := 3 + 6) (m := label.size) hown
  have b2 := Ob.below (unhide O1) hgrow hs1
  have B2 := hide ((unhide B1).trans b2)
  have hs2 := Nat.le_trans hs1 b2.size
  have al := (Below.refl W2.heap.size W2).alloc (Nat.le_refl _) (.cells #[.int .u8 0] 5)
  have O3 := hide (O2.kept al)
  have B3 := hide ((unhide B2).trans (al.mono hs2))
  have hnw := Ar.new W2 1 (fun _ => 0) 5
  have e1 : (us 1 (fun _ => 0)).toArray = #[.int .u8 0] := by rw [us_def]; rfl
  rw [e1] at hnw
  have hnew : Hid (∀ j u, (us 1 (fun _ => 0))[j]? = some u → (W2.alloc (.cells #[.int .u8 0] 5)).cell? ((⟨W2.heap.size, 0, none⟩ : Addr).add j) = some u) := fun j u hu => by rw [Addr.add_mid]; exact hnw.range j u hu
  have hone := hide (us_oneL 1 (fun _ => 0))
  have hz3 : (W2.alloc (.cells #[.int .u8 0] 5)).heap.size = W2.heap.size + 1 := by simp
  clear hown hgrow hne b2 O1 B1 HEL O2 al hnw e1 B2
  go_wp2_with (at_builtin; refine wpList_append_lies _ rfl _ _ 46 rfl w.heap.size 5 i0 (.int .u8 0) 1 1 Tryd.underlying46 hi0 hz0 hz1 hz2 rfl (by decide) _ _ _ rfl (unhide O3) ⟨W2.heap.size, 0, none⟩ 1 1 (us 1 (fun _ => 0)) rfl ?c0 (unhide hnew) (unhide hone) (by omega) ?c3 ?c4 ?c5 (W2.heap.size + 1) ?c6 ?_)
  case c0 => rw [us_length]
  case c3 => unfold maxLen; omega
  case c4 => omega
  case c5 => omega
  case c6 => exact hz3
  intro g cap' w' hown hgrow hat hlt'
  rw [show us 1 (fun _ => 0) = us 1 (fun j => liB label a b (3 + 6 + label.size + j)) from us_congr fun j hj => by obtain rfl : j = 0 := (by omega); exact (unhide HEN).symm] at hown
  have O4 := Ob.grow (n := 3 + 6 + label.size) (m := 1) hown
  have hst := O4.string (fun i _ => unhide HLT i)
  have b4 := Ob.below (unhide O3) hgrow (by rw [hz3]; omega)
  have B4 := hide ((unhide B3).trans b4)
  clear hown hgrow hat O4 b4 O3 B3 hnew hone
  go_wp2
  go_ret
  exact ⟨by rw [show 10 + label.size = 9 + label.size + 1 by omega]; rfl, unhide B4⟩
/-- what a label tells, of so many bytes -/
def liW (label : ByteArray) (m : Nat) : ByteArray := bq (10 + label.size) (liB label 0 m)
theorem liW_size (label : ByteArray) (m : Nat) : (liW label m).size = 10 + label.size := bq_size _ _
theorem implInfo (label : ByteArray) (m : Nat) (hl : label.size ≤ 100) (hm : m ≤ 255) (w : World) :
    Calls Tryd.prog 18 #[.string label, .int .i64 m] w fun e w' => e = .returned (.string (liW label m)) ∧ Below w.heap.size w w' := by
  have h := implLabelInfo label m hl w
  rw [show ((m : Int) / 256 % 256).toNat = 0 by omega, show ((m : Int) % 256).toNat = m by omega] at h
  exact h
theorem implLabel_ok (secret label : ByteArray) (n : Int) (h : secret.size ≤ 500 ∧ label.size ≤ 40 ∧ 0 ≤ n ∧ n ≤ 255) (w : World) (hT : Rt w) :
    Calls Tryd.prog 12 #[.string secret, .string label, .int .i64 n] w fun e w' => e = .returned (.tuple #[.string (bq n.toNat (dvW secret (liW label n.toNat))), .bool true]) ∧ Below w.heap.size w w' := by
  obtain ⟨h1, h2, h3, h4⟩ := h
  have HT := hide hT
  clear hT
  obtain ⟨m, rfl⟩ : ∃ m : Nat, n = (m : Int) := ⟨n.toNat, by omega⟩
  have HX := hide (fun W (h9 : Rt W) => implExpand_ok secret (liW label m) m ⟨h1, by rw [liW_size]; omega, h3, h4⟩ W h9)
  rw [Int.toNat_natCast] at *
  have HI := hide (fun W => implInfo label m (by omega) (by omega) W)
  have HC : Hid (∀ W g c, W.cell? ⟨g, 0, none⟩ = some (.string label) → Calls Tryd.prog 16 #[.int .i64 40, .slice (some ⟨g, 0, none⟩) 1 c] W fun e w' => e = .returned (.bool true) ∧ w' = W) := fun W g c hc => by
    have h9 := within_one label 40 (by omega) (by omega) W g c hc
    rw [decide_eq_true h2] at h9
    exact h9
  go_enter Tryd.func12, Tryd.ntmps12
  go_wp2_with fail
  refine (unhide HC _ _ _ (by simp)).mono ?_
  rintro e w1 ⟨rfl, e1⟩
  rw [e1]
  clear e1 w1
  have al := (Below.refl w.heap.size w).alloc (Nat.le_refl _) (.cells #[.string label] 9)
  generalize w.alloc (.cells #[.string label] 9) = W at al ⊢
  have T1 := hide ((unhide HT).kept al)
  have AL := hide al
  clear al HC
  go_wp2_with fail
  refine (unhide HI _).mono ?_
  rintro e w2 ⟨rfl, b2⟩
  have T2 := hide ((unhide T1).kept b2)
  have B2 := hide ((unhide AL).trans (b2.mono (unhide AL).size))
  clear b2 AL T1 HI
  go_wp2_with fail
  refine (unhide HX _ (unhide T2)).mono ?_
  rintro e w3 ⟨rfl, b3⟩
  have B3 := hide ((unhide B2).trans (b3.mono (unhide B2).size))
  clear b3 B2 T2 HX
  go_wp2
  go_ret2
  exact ⟨rfl, unhide B3⟩
theorem implLabel_no (secret label : ByteArray) (n : Int) (h : ¬ (secret.size ≤ 500 ∧ label.size ≤ 40 ∧ 0 ≤ n ∧ n ≤ 255)) (hl : secret.size ≤ 1048576) (hl2 : label.size ≤ 1048576) (hn : (Lit.int .i64 n).wf = true) (w : World) :
    Calls Tryd.prog 12 #[.string secret, .string label, .int .i64 n] w fun e w' => e = .returned (.tuple #[.string ⟨#[]⟩, .bool false]) ∧ Below w.heap.size w w' := by
  by_cases h2 : label.size ≤ 40
  · have HX := hide (fun W => implExpand_no secret (bq (10 + label.size) (liB label (n / 256 % 256).toNat (n % 256).toNat)) n (fun x => h ⟨x.1, h2, x.2.2.1, x.2.2.2⟩) hl (by rw [bq_size]; omega) hn W)
    have HI := hide (fun W => implLabelInfo label n (by omega) W)
    have HC : Hid (∀ W g c, W.cell? ⟨g, 0, none⟩ = some (.string label) → Calls Tryd.prog 16 #[.int .i64 40, .slice (some ⟨g, 0, none⟩) 1 c] W fun e w' => e = .returned (.bool true) ∧ w' = W) := fun W g c hc => by
      have h9 := within_one label 40 (by omega) (by omega) W g c hc
      rw [decide_eq_true h2] at h9
      exact h9
    clear h
    generalize bq (10 + label.size) (liB label (n / 256 % 256).toNat (n % 256).toNat) = x at *
    go_enter Tryd.func12, Tryd.ntmps12
    go_wp2_with fail
    refine (unhide HC _ _ _ (by simp)).mono ?_
    rintro e w1 ⟨rfl, e1⟩
    rw [e1]
    clear e1 w1
    have al := (Below.refl w.heap.size w).alloc (Nat.le_refl _) (.cells #[.string label] 9)
    generalize w.alloc (.cells #[.string label] 9) = W at al ⊢
    have AL := hide al
    clear al HC
    go_wp2_with fail
    refine (unhide HI _).mono ?_
    rintro e w2 ⟨rfl, b2⟩
    have B2 := hide ((unhide AL).trans (b2.mono (unhide AL).size))
    clear b2 AL HI
    go_wp2_with fail
    refine (unhide HX _).mono ?_
    rintro e w3 ⟨rfl, b3⟩
    have B3 := hide ((unhide B2).trans (b3.mono (unhide B2).size))
    clear b3 B2 HX
    go_wp2
    go_ret2
    exact ⟨rfl, unhide B3⟩
  · have HC : Hid (∀ W g c, W.cell? ⟨g, 0, none⟩ = some (.string label) → Calls Tryd.prog 16 #[.int .i64 40, .slice (some ⟨g, 0, none⟩) 1 c] W fun e w' => e = .returned (.bool false) ∧ w' = W) := fun W g c hc => by
      have h9 := within_one label 40 (by omega) hl2 W g c hc
      rw [decide_eq_false h2] at h9
      exact h9
    clear h
    go_enter Tryd.func12, Tryd.ntmps12
    go_wp2_with fail
    refine (unhide HC _ _ _ (by simp)).mono ?_
    rintro e w1 ⟨rfl, e1⟩
    rw [e1]
    clear e1 w1
    go_wp2
    go_ret2
    exact ⟨rfl, (Below.refl w.heap.size w).alloc (Nat.le_refl _) _⟩
end Go.Proofs.YtlphaciboaicgaaDoor
