/-
  Contracts of the functions that read a varint: the model's and the program's.
-/
import Derived.Test.YtgieglpjkjncfabDoorBase
import Derived.WalkKit
import Derived.ProofKit
import Derived.OpenShut
import Derived.ShutString
import Derived.WalkSpells
import Derived.Laws.IdiomStrings
import Derived.Lib.Strings
namespace Go.Proofs.YtgieglpjkjncfabDoor
open Go.ChangeShapes Go.WideShapes Go.ChangeAt Go.RowKit
set_option linter.unusedVariables false

theorem ret_int {k : IntKind} {a b : Int} (h : a = b) : Ending.returned (.int k a) = .returned (.int k b) := by rw [h]
theorem take_snoc (s : ByteArray) (k : Nat) (h : k < s.size) : s.data.toList.take (k + 1) = s.data.toList.take k ++ [s[k]] := by
  rw [List.take_succ_eq_append_getElem (by simpa using h)]; rfl
/-- one byte more, as both texts put it behind: shifted by eight, or-ed -/
def st (m : Int) (c : UInt8) : Int := bits .or .i64 (wrap64 (m * 256)) (wrap64 (c.toNat : Int))
def big (m : Int) (l : List UInt8) : Int := l.foldl st m
theorem big_snoc (m : Int) (l : List UInt8) (c : UInt8) : big m (l ++ [c]) = st (big m l) c := by simp [big]

set_option maxHeartbeats 400000 in
theorem l1Big_any (s : ByteArray) (w : World) (hs : s.size ≤ maxLen) :
    Calls Tryd.prog 64 #[.string s] w fun e w' => e = .returned (.int .i64 (big 0 s.data.toList)) ∧ w = w' := by
  unfold maxLen at hs
  go_enter Tryd.func64, Tryd.ntmps64
  go_wp2
  go_loop [3, 4] (fun n i => ∃ k : Nat, k ≤ s.size ∧ i = .int .i64 k ∧ n = .int .i64 (big 0 (s.data.toList.take k))) (fun _ i => s.size - (intOf i).toNat)
  case atStart => exact ⟨0, Nat.zero_le _, rfl, rfl⟩
  case round =>
    obtain ⟨k, hk, rfl, rfl⟩ := hrel
    by_cases hlt : k < s.size
    · have HS : Hid (big 0 (s.data.toList.take (k + 1)) = st (big 0 (s.data.toList.take k)) s[k]) := by show _ = _; rw [take_snoc s k hlt, big_snoc]
      go_wp2
      exact ⟨⟨k + 1, by omega, by go_num, by rw [HS.out]; rfl⟩, by simp [intOf]; omega⟩
    · go_wp2
      go_ret
      exact ⟨ret_int (by rw [List.take_of_length_le (by simp; omega)]), rfl⟩

theorem big_tail_snoc (s : ByteArray) (m : Int) (k : Nat) (h : k + 1 < s.size) : big m (s.data.toList.tail.take (k + 1)) = st (big m (s.data.toList.tail.take k)) s[k + 1] := by
  rw [List.take_succ_eq_append_getElem (by simp; omega), big_snoc]
  congr 1
  simp; rfl

theorem implTake_none (s : ByteArray) (w : World) (h0 : s.size = 0) :
    Calls Tryd.prog 65 #[.string s] w fun e w' => e = .returned (.tuple #[.int .i64 0, .int .i64 0]) ∧ w = w' := by
  have hne : ((s.size : Int) == 0) = true := beq_iff_eq.2 (by omega)
  go_enter Tryd.func65, Tryd.ntmps65
  go_wp2
  go_ret2
  exact ⟨rfl, rfl⟩

set_option maxHeartbeats 400000 in
theorem implTake_short1 (s : ByteArray) (w : World) (hs : s.size ≤ maxLen) (h0 : 0 < s.size) (hq : (s[0].toNat : Int) / 64 = 0) (h4 : (s.size : Int) < 1) :
    Calls Tryd.prog 65 #[.string s] w fun e w' => e = .returned (.tuple #[.int .i64 0, .int .i64 0]) ∧ w = w' := by
  unfold maxLen at hs
  have hne : ((s.size : Int) == 0) = false := beq_eq_false_iff_ne.2 (by omega)
  go_enter Tryd.func65, Tryd.ntmps65
  go_wp2
  go_ret2
  exact ⟨rfl, rfl⟩

set_option maxHeartbeats 400000 in
theorem implTake1 (s : ByteArray) (w : World) (hs : s.size ≤ maxLen) (h0 : 0 < s.size) (hq : (s[0].toNat : Int) / 64 = 0) (h4 : ¬ (s.size : Int) < 1) :
    Calls Tryd.prog 65 #[.string s] w fun e w' => e = .returned (.tuple #[.int .i64 (big (s[0].toNat % 64) (s.data.toList.tail.take 0)), .int .i64 1]) ∧ w = w' := by
  unfold maxLen at hs
  have hne : ((s.size : Int) == 0) = false := beq_eq_false_iff_ne.2 (by omega)
  go_enter Tryd.func65, Tryd.ntmps65
  go_wp2
  go_loop [5, 6] (fun n i => ∃ k : Nat, k + 1 ≤ 1 ∧ i = .int .i64 (k + 1) ∧ n = .int .i64 (big (s[0].toNat % 64) (s.data.toList.tail.take k))) (fun _ i => 1 - (intOf i).toNat)
  case atStart => exact ⟨0, by omega, rfl, rfl⟩
  case round =>
    obtain ⟨k, hk, rfl, rfl⟩ := hrel
    have HK : Hid (k = 0) := by show k = 0; omega
    go_wp2
    go_ret2
    exact ⟨by rw [HK.out]; rfl, rfl⟩

set_option maxHeartbeats 400000 in
theorem implTake_short2 (s : ByteArray) (w : World) (hs : s.size ≤ maxLen) (h0 : 0 < s.size) (hq : (s[0].toNat : Int) / 64 = 1) (h4 : (s.size : Int) < 2) :
    Calls Tryd.prog 65 #[.string s] w fun e w' => e = .returned (.tuple #[.int .i64 0, .int .i64 0]) ∧ w = w' := by
  unfold maxLen at hs
  have hne : ((s.size : Int) == 0) = false := beq_eq_false_iff_ne.2 (by omega)
  go_enter Tryd.func65, Tryd.ntmps65
  go_wp2
  go_ret2
  exact ⟨rfl, rfl⟩

set_option maxHeartbeats 400000 in
theorem implTake2 (s : ByteArray) (w : World) (hs : s.size ≤ maxLen) (h0 : 0 < s.size) (hq : (s[0].toNat : Int) / 64 = 1) (h4 : ¬ (s.size : Int) < 2) :
    Calls Tryd.prog 65 #[.string s] w fun e w' => e = .returned (.tuple #[.int .i64 (big (s[0].toNat % 64) (s.data.toList.tail.take 1)), .int .i64 2]) ∧ w = w' := by
  unfold maxLen at hs
  have hne : ((s.size : Int) == 0) = false := beq_eq_false_iff_ne.2 (by omega)
  go_enter Tryd.func65, Tryd.ntmps65
  go_wp2
  go_loop [5, 6] (fun n i => ∃ k : Nat, k + 1 ≤ 2 ∧ i = .int .i64 (k + 1) ∧ n = .int .i64 (big (s[0].toNat % 64) (s.data.toList.tail.take k))) (fun _ i => 2 - (intOf i).toNat)
  case atStart => exact ⟨0, by omega, rfl, rfl⟩
  case round =>
    obtain ⟨k, hk, rfl, rfl⟩ := hrel
    by_cases hlt : k + 1 < 2
    · have HS : Hid (big (s[0].toNat % 64) (s.data.toList.tail.take (k + 1)) = st (big (s[0].toNat % 64) (s.data.toList.tail.take k)) s[k + 1]) := big_tail_snoc s _ k (by omega)
      go_wp2
      exact ⟨⟨k + 1, by omega, by go_num, by rw [HS.out]; rfl⟩, by simp [intOf]; omega⟩
    · have HK : Hid (k = 1) := by show k = 1; omega
      go_wp2
      go_ret2
      exact ⟨by rw [HK.out]; rfl, rfl⟩

set_option maxHeartbeats 400000 in
theorem implTake_short4 (s : ByteArray) (w : World) (hs : s.size ≤ maxLen) (h0 : 0 < s.size) (hq : (s[0].toNat : Int) / 64 = 2) (h4 : (s.size : Int) < 4) :
    Calls Tryd.prog 65 #[.string s] w fun e w' => e = .returned (.tuple #[.int .i64 0, .int .i64 0]) ∧ w = w' := by
  unfold maxLen at hs
  have hne : ((s.size : Int) == 0) = false := beq_eq_false_iff_ne.2 (by omega)
  go_enter Tryd.func65, Tryd.ntmps65
  go_wp2
  go_ret2
  exact ⟨rfl, rfl⟩

set_option maxHeartbeats 400000 in
theorem implTake4 (s : ByteArray) (w : World) (hs : s.size ≤ maxLen) (h0 : 0 < s.size) (hq : (s[0].toNat : Int) / 64 = 2) (h4 : ¬ (s.size : Int) < 4) :
    Calls Tryd.prog 65 #[.string s] w fun e w' => e = .returned (.tuple #[.int .i64 (big (s[0].toNat % 64) (s.data.toList.tail.take 3)), .int .i64 4]) ∧ w = w' := by
  unfold maxLen at hs
  have hne : ((s.size : Int) == 0) = false := beq_eq_false_iff_ne.2 (by omega)
  go_enter Tryd.func65, Tryd.ntmps65
  go_wp2
  go_loop [5, 6] (fun n i => ∃ k : Nat, k + 1 ≤ 4 ∧ i = .int .i64 (k + 1) ∧ n = .int .i64 (big (s[0].toNat % 64) (s.data.toList.tail.take k))) (fun _ i => 4 - (intOf i).toNat)
  case atStart => exact ⟨0, by omega, rfl, rfl⟩
  case round =>
    obtain ⟨k, hk, rfl, rfl⟩ := hrel
    by_cases hlt : k + 1 < 4
    · have HS : Hid (big (s[0].toNat % 64) (s.data.toList.tail.take (k + 1)) = st (big (s[0].toNat % 64) (s.data.toList.tail.take k)) s[k + 1]) := big_tail_snoc s _ k (by omega)
      go_wp2
      exact ⟨⟨k + 1, by omega, by go_num, by rw [HS.out]; rfl⟩, by simp [intOf]; omega⟩
    · have HK : Hid (k = 3) := by show k = 3; omega
      go_wp2
      go_ret2
      exact ⟨by rw [HK.out]; rfl, rfl⟩

set_option maxHeartbeats 400000 in
theorem implTake_short8 (s : ByteArray) (w : World) (hs : s.size ≤ maxLen) (h0 : 0 < s.size) (hq : (s[0].toNat : Int) / 64 = 3) (h4 : (s.size : Int) < 8) :
    Calls Tryd.prog 65 #[.string s] w fun e w' => e = .returned (.tuple #[.int .i64 0, .int .i64 0]) ∧ w = w' := by
  unfold maxLen at hs
  have hne : ((s.size : Int) == 0) = false := beq_eq_false_iff_ne.2 (by omega)
  go_enter Tryd.func65, Tryd.ntmps65
  go_wp2
  go_ret2
  exact ⟨rfl, rfl⟩

set_option maxHeartbeats 400000 in
theorem implTake8 (s : ByteArray) (w : World) (hs : s.size ≤ maxLen) (h0 : 0 < s.size) (hq : (s[0].toNat : Int) / 64 = 3) (h4 : ¬ (s.size : Int) < 8) :
    Calls Tryd.prog 65 #[.string s] w fun e w' => e = .returned (.tuple #[.int .i64 (big (s[0].toNat % 64) (s.data.toList.tail.take 7)), .int .i64 8]) ∧ w = w' := by
  unfold maxLen at hs
  have hne : ((s.size : Int) == 0) = false := beq_eq_false_iff_ne.2 (by omega)
  go_enter Tryd.func65, Tryd.ntmps65
  go_wp2
  go_loop [5, 6] (fun n i => ∃ k : Nat, k + 1 ≤ 8 ∧ i = .int .i64 (k + 1) ∧ n = .int .i64 (big (s[0].toNat % 64) (s.data.toList.tail.take k))) (fun _ i => 8 - (intOf i).toNat)
  case atStart => exact ⟨0, by omega, rfl, rfl⟩
  case round =>
    obtain ⟨k, hk, rfl, rfl⟩ := hrel
    by_cases hlt : k + 1 < 8
    · have HS : Hid (big (s[0].toNat % 64) (s.data.toList.tail.take (k + 1)) = st (big (s[0].toNat % 64) (s.data.toList.tail.take k)) s[k + 1]) := big_tail_snoc s _ k (by omega)
      go_wp2
      exact ⟨⟨k + 1, by omega, by go_num, by rw [HS.out]; rfl⟩, by simp [intOf]; omega⟩
    · have HK : Hid (k = 7) := by show k = 7; omega
      go_wp2
      go_ret2
      exact ⟨by rw [HK.out]; rfl, rfl⟩

theorem conv_bytes (P : Program) (w : World) (src dst e : TypeId) (s : ByteArray) (hs : P.underlying src = some .string) (hd : P.underlying dst = some (.slice e)) (he : P.underlying e = some (.int .u8)) :
    ∃ (cap : Nat) (W : World), (convert src dst (.string s)).run P w = .ok (.slice (some ⟨w.heap.size, 0, none⟩) s.size cap) W ∧ Below w.heap.size w W ∧ (∀ j (h : j < s.size), W.cell? ⟨w.heap.size, j, none⟩ = some (.int .u8 s[j].toNat)) ∧ (∀ j, j < s.size → W.frozen? ⟨w.heap.size, j, none⟩ = false) ∧ W.heap.size = w.heap.size + 1 := by
  refine ⟨_, _, run_bytes_of_string w src dst e s hs hd he, ?_, ?_, ?_, ?_⟩
  · exact ((Below.refl _ _).drew).alloc (Nat.le_refl _) _
  · intro j h
    have := World.cell?_alloc_mark w.drew (bytesRow s (grownCap w s.size 0 e)) e ((bytesRow s (grownCap w s.size 0 e)).size, (bytesRow s (grownCap w s.size 0 e)).size + 1) j
    rw [World.size_drew] at this
    rw [this]
    simp [bytesRow, Array.getElem?_append, h]
    rfl
  · intro j h
    have := World.frozen?_alloc_mark w.drew (bytesRow s (grownCap w s.size 0 e)) e (bytesRow s (grownCap w s.size 0 e)).size ((bytesRow s (grownCap w s.size 0 e)).size + 1) j
    rw [World.size_drew] at this
    rw [this]
    simp [bytesRow]
    omega
  · simp

theorem empty_yes (s : ByteArray) (h0 : s.size = 0) : s.toList.isEmpty = true := by
  rw [ByteArray.toList_eq, List.isEmpty_iff, ← List.length_eq_zero_iff]; simpa using h0
theorem empty_no (s : ByteArray) (h0 : 0 < s.size) : s.toList.isEmpty = false := by
  rw [ByteArray.toList_eq]; cases h : s.data.toList with
  | nil => have : s.data.toList.length = s.size := by simp
           rw [h] at this; simp at this; omega
  | cons a l => rfl
theorem extract_get (s : ByteArray) (M j : Nat) (h : j < (s.extract 0 M).size) (h0 : j < s.size) : (s.extract 0 M)[j] = s[j] := by
  rw [ByteArray.getElem_extract]; congr 1; omega
theorem extract_head (s : ByteArray) (M : Nat) (h : 0 < (s.extract 0 M).size) (h0 : 0 < s.size) : (s.extract 0 M)[0] = s[0] := extract_get s M 0 h h0
theorem or_byte (x y : Int) (h0 : 0 ≤ x) (h1 : x % 256 = 0) (h2 : x < 9223372036854775808) (h3 : 0 ≤ y) (h4 : y < 256) : bits .or .i64 x y = x + y :=
  bits_join .i64 63 (by decide) wraps_i64 8 x y h0 h1 h2 h3 h4 (by omega)
/-- the first bytes, the highest two bits of the first one taken away -/
def masked (s : ByteArray) (h0 : 0 < s.size) (M : Nat) : List UInt8 := UInt8.ofNat (s[0].toNat % 64) :: s.data.toList.tail.take M
theorem st_zero (n : Nat) (h : n < 64) : st 0 (UInt8.ofNat n) = n := by
  have e : (UInt8.ofNat n).toNat = n := by simp; omega
  unfold st
  rw [e]
  have e2 : wrap64 (n : Int) = n := by unfold wrap64; omega
  have e3 : wrap64 (0 * 256) = 0 := by unfold wrap64; omega
  rw [e2, e3, or_byte _ _ (by omega) (by omega) (by omega) (by omega) (by omega)]
  omega
theorem big_masked (s : ByteArray) (h0 : 0 < s.size) (M : Nat) : big 0 (masked s h0 M) = big (s[0].toNat % 64) (s.data.toList.tail.take M) := by
  unfold masked big
  rw [List.foldl_cons, st_zero _ (by omega)]
  simp
theorem masked_length (s : ByteArray) (h0 : 0 < s.size) (M : Nat) (h : M < s.size) : (masked s h0 M).length = M + 1 := by
  simp [masked]; omega
theorem back_bytes (P : Program) (W : World) (h : Nat) (s : ByteArray) (h0 : 0 < s.size) (M cap : Nat) (src dst e : TypeId) (hs : P.underlying src = some (.slice e)) (he : P.underlying e = some (.int .u8)) (hd : P.underlying dst = some .string) (hM : M < s.size)
    (hcell : ∀ j (hj : j < (s.extract 0 (M + 1)).size), W.cell? ⟨h, j, none⟩ = some (.int .u8 (s.extract 0 (M + 1))[j].toNat)) :
    (convert src dst (.slice (some ⟨h, 0, none⟩) (M + 1) cap)).run P (W.setCell ⟨h, 0, none⟩ (.int .u8 (s[0].toNat % 64))) = .ok (.string ⟨(masked s h0 M).toArray⟩) (W.setCell ⟨h, 0, none⟩ (.int .u8 (s[0].toNat % 64))) := by
  have hx : (s.extract 0 (M + 1)).size = M + 1 := by simp; omega
  have hl := masked_length s h0 M hM
  have := run_convert_bytes_back (P := P) (W.setCell ⟨h, 0, none⟩ (.int .u8 (s[0].toNat % 64))) src dst e ⟨h, 0, none⟩ cap (masked s h0 M) hs he hd ?_
  · rw [hl] at this; exact this
  · intro j hj
    rw [hl] at hj
    cases j with
    | zero =>
      rw [show (⟨h, 0, none⟩ : Addr).add 0 = ⟨h, 0, none⟩ from rfl, World.cell?_setCell_same _ _ _ (hcell 0 (by omega))]
      simp [masked]
      omega
    | succ j =>
      rw [show (⟨h, 0, none⟩ : Addr).add (j + 1) = ⟨h, j + 1, none⟩ from by simp [Addr.add], World.cell?_setCell_other _ _ _ _ (by simp), hcell (j + 1) (by omega), extract_get s (M + 1) (j + 1) (by omega) (by omega)]
      simp [masked]
      rfl

theorem specTake_none (s : ByteArray) (w : World) (h0 : s.size = 0) :
    Calls Tryd.prog 49 #[.string s] w fun e w' => e = .returned (.tuple #[.int .i64 0, .int .i64 0]) ∧ Below w.heap.size w w' := by
  have hne : s.toList.isEmpty = true := empty_yes s h0
  go_enter Tryd.func49, Tryd.ntmps49
  go_wp2
  go_ret2
  exact ⟨rfl, Below.refl _ _⟩

set_option maxHeartbeats 400000 in
theorem specTake_short1 (s : ByteArray) (w : World) (hs : s.size ≤ maxLen) (h0 : 0 < s.size) (hq : (s[0].toNat : Int) / 64 = 0) (h4 : (s.size : Int) < 1) :
    Calls Tryd.prog 49 #[.string s] w fun e w' => e = .returned (.tuple #[.int .i64 0, .int .i64 0]) ∧ Below w.heap.size w w' := by
  unfold maxLen at hs
  have hne : s.toList.isEmpty = false := empty_no s h0
  go_enter Tryd.func49, Tryd.ntmps49
  go_wp2
  go_ret2
  exact ⟨rfl, Below.refl _ _⟩

set_option maxHeartbeats 400000 in
theorem specTake1 (s : ByteArray) (w : World) (hs : s.size ≤ maxLen) (h0 : 0 < s.size) (hq : (s[0].toNat : Int) / 64 = 0) (h4 : ¬ (s.size : Int) < 1) :
    Calls Tryd.prog 49 #[.string s] w fun e w' => e = .returned (.tuple #[.int .i64 (big (s[0].toNat % 64) (s.data.toList.tail.take 0)), .int .i64 1]) ∧ Below w.heap.size w w' := by
  unfold maxLen at hs
  have hne : s.toList.isEmpty = false := empty_no s h0
  have hx : (s.extract 0 1).size = 1 := by simp; omega
  obtain ⟨cap, W, hrun, hb, hcell, hfr, hsz⟩ := conv_bytes Tryd.prog w 9 22 5 (s.extract 0 1) Tryd.underlying9 Tryd.underlying22 Tryd.underlying5
  rw [hx] at hrun
  have hc0 : W.cell? ⟨w.heap.size, 0, none⟩ = some (.int .u8 s[0].toNat) := by rw [hcell 0 (by omega), extract_head s 1 (by omega) h0]
  have hf0 := hfr 0 (by omega)
  have hback := back_bytes Tryd.prog W w.heap.size s h0 0 cap 22 9 5 Tryd.underlying22 Tryd.underlying5 Tryd.underlying9 (by omega) hcell
  have hms : (⟨(masked s h0 0).toArray⟩ : ByteArray).size ≤ maxLen := by
    have := masked_length s h0 0 (by omega)
    simp [ByteArray.size, this, maxLen]
  have hbig : big 0 (⟨(masked s h0 0).toArray⟩ : ByteArray).data.toList = big (s[0].toNat % 64) (s.data.toList.tail.take 0) := big_masked s h0 0
  clear hcell hfr
  generalize masked s h0 0 = ms at *
  have HB := hide hbig
  clear hbig
  go_enter Tryd.func49, Tryd.ntmps49
  go_wp2_with (go_at_call 64; refine (l1Big_any _ _ hms).mono ?_; rintro e w' ⟨rfl, rfl⟩; rw [unhide HB])
  go_ret2
  exact ⟨rfl, hb.setCell (Nat.le_refl _) _⟩

set_option maxHeartbeats 400000 in
theorem specTake_short2 (s : ByteArray) (w : World) (hs : s.size ≤ maxLen) (h0 : 0 < s.size) (hq : (s[0].toNat : Int) / 64 = 1) (h4 : (s.size : Int) < 2) :
    Calls Tryd.prog 49 #[.string s] w fun e w' => e = .returned (.tuple #[.int .i64 0, .int .i64 0]) ∧ Below w.heap.size w w' := by
  unfold maxLen at hs
  have hne : s.toList.isEmpty = false := empty_no s h0
  go_enter Tryd.func49, Tryd.ntmps49
  go_wp2
  go_ret2
  exact ⟨rfl, Below.refl _ _⟩

set_option maxHeartbeats 400000 in
theorem specTake2 (s : ByteArray) (w : World) (hs : s.size ≤ maxLen) (h0 : 0 < s.size) (hq : (s[0].toNat : Int) / 64 = 1) (h4 : ¬ (s.size : Int) < 2) :
    Calls Tryd.prog 49 #[.string s] w fun e w' => e = .returned (.tuple #[.int .i64 (big (s[0].toNat % 64) (s.data.toList.tail.take 1)), .int .i64 2]) ∧ Below w.heap.size w w' := by
  unfold maxLen at hs
  have hne : s.toList.isEmpty = false := empty_no s h0
  have hx : (s.extract 0 2).size = 2 := by simp; omega
  obtain ⟨cap, W, hrun, hb, hcell, hfr, hsz⟩ := conv_bytes Tryd.prog w 9 22 5 (s.extract 0 2) Tryd.underlying9 Tryd.underlying22 Tryd.underlying5
  rw [hx] at hrun
  have hc0 : W.cell? ⟨w.heap.size, 0, none⟩ = some (.int .u8 s[0].toNat) := by rw [hcell 0 (by omega), extract_head s 2 (by omega) h0]
  have hf0 := hfr 0 (by omega)
  have hback := back_bytes Tryd.prog W w.heap.size s h0 1 cap 22 9 5 Tryd.underlying22 Tryd.underlying5 Tryd.underlying9 (by omega) hcell
  have hms : (⟨(masked s h0 1).toArray⟩ : ByteArray).size ≤ maxLen := by
    have := masked_length s h0 1 (by omega)
    simp [ByteArray.size, this, maxLen]
  have hbig : big 0 (⟨(masked s h0 1).toArray⟩ : ByteArray).data.toList = big (s[0].toNat % 64) (s.data.toList.tail.take 1) := big_masked s h0 1
  clear hcell hfr
  generalize masked s h0 1 = ms at *
  have HB := hide hbig
  clear hbig
  go_enter Tryd.func49, Tryd.ntmps49
  go_wp2_with (go_at_call 64; refine (l1Big_any _ _ hms).mono ?_; rintro e w' ⟨rfl, rfl⟩; rw [unhide HB])
  go_ret2
  exact ⟨rfl, hb.setCell (Nat.le_refl _) _⟩

set_option maxHeartbeats 400000 in
theorem specTake_short4 (s : ByteArray) (w : World) (hs : s.size ≤ maxLen) (h0 : 0 < s.size) (hq : (s[0].toNat : Int) / 64 = 2) (h4 : (s.size : Int) < 4) :
    Calls Tryd.prog 49 #[.string s] w fun e w' => e = .returned (.tuple #[.int .i64 0, .int .i64 0]) ∧ Below w.heap.size w w' := by
  unfold maxLen at hs
  have hne : s.toList.isEmpty = false := empty_no s h0
  go_enter Tryd.func49, Tryd.ntmps49
  go_wp2
  go_ret2
  exact ⟨rfl, Below.refl _ _⟩

set_option maxHeartbeats 400000 in
theorem specTake4 (s : ByteArray) (w : World) (hs : s.size ≤ maxLen) (h0 : 0 < s.size) (hq : (s[0].toNat : Int) / 64 = 2) (h4 : ¬ (s.size : Int) < 4) :
    Calls Tryd.prog 49 #[.string s] w fun e w' => e = .returned (.tuple #[.int .i64 (big (s[0].toNat % 64) (s.data.toList.tail.take 3)), .int .i64 4]) ∧ Below w.heap.size w w' := by
  unfold maxLen at hs
  have hne : s.toList.isEmpty = false := empty_no s h0
  have hx : (s.extract 0 4).size = 4 := by simp; omega
  obtain ⟨cap, W, hrun, hb, hcell, hfr, hsz⟩ := conv_bytes Tryd.prog w 9 22 5 (s.extract 0 4) Tryd.underlying9 Tryd.underlying22 Tryd.underlying5
  rw [hx] at hrun
  have hc0 : W.cell? ⟨w.heap.size, 0, none⟩ = some (.int .u8 s[0].toNat) := by rw [hcell 0 (by omega), extract_head s 4 (by omega) h0]
  have hf0 := hfr 0 (by omega)
  have hback := back_bytes Tryd.prog W w.heap.size s h0 3 cap 22 9 5 Tryd.underlying22 Tryd.underlying5 Tryd.underlying9 (by omega) hcell
  have hms : (⟨(masked s h0 3).toArray⟩ : ByteArray).size ≤ maxLen := by
    have := masked_length s h0 3 (by omega)
    simp [ByteArray.size, this, maxLen]
  have hbig : big 0 (⟨(masked s h0 3).toArray⟩ : ByteArray).data.toList = big (s[0].toNat % 64) (s.data.toList.tail.take 3) := big_masked s h0 3
  clear hcell hfr
  generalize masked s h0 3 = ms at *
  have HB := hide hbig
  clear hbig
  go_enter Tryd.func49, Tryd.ntmps49
  go_wp2_with (go_at_call 64; refine (l1Big_any _ _ hms).mono ?_; rintro e w' ⟨rfl, rfl⟩; rw [unhide HB])
  go_ret2
  exact ⟨rfl, hb.setCell (Nat.le_refl _) _⟩

set_option maxHeartbeats 400000 in
theorem specTake_short8 (s : ByteArray) (w : World) (hs : s.size ≤ maxLen) (h0 : 0 < s.size) (hq : (s[0].toNat : Int) / 64 = 3) (h4 : (s.size : Int) < 8) :
    Calls Tryd.prog 49 #[.string s] w fun e w' => e = .returned (.tuple #[.int .i64 0, .int .i64 0]) ∧ Below w.heap.size w w' := by
  unfold maxLen at hs
  have hne : s.toList.isEmpty = false := empty_no s h0
  go_enter Tryd.func49, Tryd.ntmps49
  go_wp2
  go_ret2
  exact ⟨rfl, Below.refl _ _⟩

set_option maxHeartbeats 400000 in
theorem specTake8 (s : ByteArray) (w : World) (hs : s.size ≤ maxLen) (h0 : 0 < s.size) (hq : (s[0].toNat : Int) / 64 = 3) (h4 : ¬ (s.size : Int) < 8) :
    Calls Tryd.prog 49 #[.string s] w fun e w' => e = .returned (.tuple #[.int .i64 (big (s[0].toNat % 64) (s.data.toList.tail.take 7)), .int .i64 8]) ∧ Below w.heap.size w w' := by
  unfold maxLen at hs
  have hne : s.toList.isEmpty = false := empty_no s h0
  have hx : (s.extract 0 8).size = 8 := by simp; omega
  obtain ⟨cap, W, hrun, hb, hcell, hfr, hsz⟩ := conv_bytes Tryd.prog w 9 22 5 (s.extract 0 8) Tryd.underlying9 Tryd.underlying22 Tryd.underlying5
  rw [hx] at hrun
  have hc0 : W.cell? ⟨w.heap.size, 0, none⟩ = some (.int .u8 s[0].toNat) := by rw [hcell 0 (by omega), extract_head s 8 (by omega) h0]
  have hf0 := hfr 0 (by omega)
  have hback := back_bytes Tryd.prog W w.heap.size s h0 7 cap 22 9 5 Tryd.underlying22 Tryd.underlying5 Tryd.underlying9 (by omega) hcell
  have hms : (⟨(masked s h0 7).toArray⟩ : ByteArray).size ≤ maxLen := by
    have := masked_length s h0 7 (by omega)
    simp [ByteArray.size, this, maxLen]
  have hbig : big 0 (⟨(masked s h0 7).toArray⟩ : ByteArray).data.toList = big (s[0].toNat % 64) (s.data.toList.tail.take 7) := big_masked s h0 7
  clear hcell hfr
  generalize masked s h0 7 = ms at *
  have HB := hide hbig
  clear hbig
  go_enter Tryd.func49, Tryd.ntmps49
  go_wp2_with (go_at_call 64; refine (l1Big_any _ _ hms).mono ?_; rintro e w' ⟨rfl, rfl⟩; rw [unhide HB])
  go_ret2
  exact ⟨rfl, hb.setCell (Nat.le_refl _) _⟩

/-- how many bytes the first one tells -/
def tkN (c : UInt8) : Nat := if c.toNat / 64 = 0 then 1 else if c.toNat / 64 = 1 then 2 else if c.toNat / 64 = 2 then 4 else 8
/-- the number at the front, and how many bytes it has -/
def tk : List UInt8 → Int × Nat
  | [] => (0, 0)
  | c :: r => if r.length + 1 < tkN c then (0, 0) else (big (c.toNat % 64) (r.take (tkN c - 1)), tkN c)
theorem list_cons (s : ByteArray) (h0 : 0 < s.size) : s.data.toList = s[0] :: s.data.toList.tail := by
  cases h : s.data.toList with
  | nil =>
    have h3 : s.data.toList.length = s.size := by simp
    rw [h] at h3
    simp at h3
    omega
  | cons a l =>
    have h1 : s.data.toList[0]? = some a := by rw [h]; rfl
    have h2 : s.data.toList[0]? = some s[0] := by rw [List.getElem?_eq_getElem (by simpa using h0)]; rfl
    rw [h1] at h2
    simp at h2
    rw [h2]; rfl
theorem tk_none (s : ByteArray) (h0 : s.size = 0) : tk s.data.toList = (0, 0) := by
  have : s.data.toList = [] := by rw [← List.length_eq_zero_iff]; simpa using h0
  rw [this]; rfl
theorem tk_short (s : ByteArray) (h0 : 0 < s.size) (M : Nat) (hq : tkN s[0] = M) (h : s.size < M) : tk s.data.toList = (0, 0) := by
  have hl : s.data.toList.tail.length + 1 = s.size := by simp; omega
  rw [list_cons s h0]
  simp only [tk]
  rw [if_pos (by rw [hq]; omega)]
theorem tk_long (s : ByteArray) (h0 : 0 < s.size) (M : Nat) (hq : tkN s[0] = M) (h : ¬ s.size < M) : tk s.data.toList = (big (s[0].toNat % 64) (s.data.toList.tail.take (M - 1)), M) := by
  have hl : s.data.toList.tail.length + 1 = s.size := by simp; omega
  conv => lhs; rw [list_cons s h0]
  simp only [tk]
  rw [if_neg (by rw [hq]; omega), hq]
theorem quarter (c : UInt8) : ((c.toNat : Int) / 64 = 0 ∧ tkN c = 1) ∨ ((c.toNat : Int) / 64 = 1 ∧ tkN c = 2) ∨ ((c.toNat : Int) / 64 = 2 ∧ tkN c = 4) ∨ ((c.toNat : Int) / 64 = 3 ∧ tkN c = 8) := by
  have := c.toNat_lt
  unfold tkN
  have h : c.toNat / 64 = 0 ∨ c.toNat / 64 = 1 ∨ c.toNat / 64 = 2 ∨ c.toNat / 64 = 3 := by omega
  rcases h with h | h | h | h
  · exact Or.inl ⟨by omega, by simp [h]⟩
  · exact Or.inr (Or.inl ⟨by omega, by simp [h]⟩)
  · exact Or.inr (Or.inr (Or.inl ⟨by omega, by simp [h]⟩))
  · exact Or.inr (Or.inr (Or.inr ⟨by omega, by simp [h]⟩))

theorem specTake_any (s : ByteArray) (w : World) (hs : s.size ≤ maxLen) :
    Calls Tryd.prog 49 #[.string s] w fun e w' => e = .returned (.tuple #[.int .i64 (tk s.data.toList).1, .int .i64 (tk s.data.toList).2]) ∧ Below w.heap.size w w' := by
  by_cases h0 : 0 < s.size
  · rcases quarter s[0] with ⟨hq, hn⟩ | ⟨hq, hn⟩ | ⟨hq, hn⟩ | ⟨hq, hn⟩
    · by_cases h : s.size < 1
      · rw [tk_short s h0 1 hn h]; exact specTake_short1 s w hs h0 hq (by omega)
      · rw [tk_long s h0 1 hn h]; exact specTake1 s w hs h0 hq (by omega)
    · by_cases h : s.size < 2
      · rw [tk_short s h0 2 hn h]; exact specTake_short2 s w hs h0 hq (by omega)
      · rw [tk_long s h0 2 hn h]; exact specTake2 s w hs h0 hq (by omega)
    · by_cases h : s.size < 4
      · rw [tk_short s h0 4 hn h]; exact specTake_short4 s w hs h0 hq (by omega)
      · rw [tk_long s h0 4 hn h]; exact specTake4 s w hs h0 hq (by omega)
    · by_cases h : s.size < 8
      · rw [tk_short s h0 8 hn h]; exact specTake_short8 s w hs h0 hq (by omega)
      · rw [tk_long s h0 8 hn h]; exact specTake8 s w hs h0 hq (by omega)
  · rw [tk_none s (by omega)]; exact specTake_none s w (by omega)

theorem implTake_any (s : ByteArray) (w : World) (hs : s.size ≤ maxLen) :
    Calls Tryd.prog 65 #[.string s] w fun e w' => e = .returned (.tuple #[.int .i64 (tk s.data.toList).1, .int .i64 (tk s.data.toList).2]) ∧ w = w' := by
  by_cases h0 : 0 < s.size
  · rcases quarter s[0] with ⟨hq, hn⟩ | ⟨hq, hn⟩ | ⟨hq, hn⟩ | ⟨hq, hn⟩
    · by_cases h : s.size < 1
      · rw [tk_short s h0 1 hn h]; exact implTake_short1 s w hs h0 hq (by omega)
      · rw [tk_long s h0 1 hn h]; exact implTake1 s w hs h0 hq (by omega)
    · by_cases h : s.size < 2
      · rw [tk_short s h0 2 hn h]; exact implTake_short2 s w hs h0 hq (by omega)
      · rw [tk_long s h0 2 hn h]; exact implTake2 s w hs h0 hq (by omega)
    · by_cases h : s.size < 4
      · rw [tk_short s h0 4 hn h]; exact implTake_short4 s w hs h0 hq (by omega)
      · rw [tk_long s h0 4 hn h]; exact implTake4 s w hs h0 hq (by omega)
    · by_cases h : s.size < 8
      · rw [tk_short s h0 8 hn h]; exact implTake_short8 s w hs h0 hq (by omega)
      · rw [tk_long s h0 8 hn h]; exact implTake8 s w hs h0 hq (by omega)
  · rw [tk_none s (by omega)]; exact implTake_none s w (by omega)

end Go.Proofs.YtgieglpjkjncfabDoor
