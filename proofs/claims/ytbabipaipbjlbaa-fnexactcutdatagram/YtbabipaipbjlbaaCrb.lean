/-
  Contracts: the program's cursor: a byte, a word, an id.
-/
import Derived.Test.YtbabipaipbjlbaaCrs
import Derived.Test.YtbabipaipbjlbaaVrb
namespace Go.Proofs.Ytbabipaipbjlbaa
open Go.ChangeShapes Go.WideShapes Go.ChangeAt Go.RowKit
set_option linter.unusedVariables false
set_option maxRecDepth 100000

/-- the byte at p, as a number -/
def at8 (s : ByteArray) (p : Nat) : Int := if h : p < s.size then (s[p].toNat : Int) else 0
theorem at8_in (s : ByteArray) (p : Nat) : 0 ≤ at8 s p ∧ at8 s p < 256 := by
  unfold at8
  split
  · have := s[p].toNat_lt; omega
  · omega
theorem at8_of {s : ByteArray} {p : Nat} (h : p < s.size) : at8 s p = (s[p].toNat : Int) := by unfold at8; rw [dif_pos h]
theorem piece_size (s : ByteArray) (p n : Nat) (h : p + n ≤ s.size) : (s.extract p (p + n)).size = n := by rw [ByteArray.size_extract]; omega
theorem piece_at (s : ByteArray) (p n i : Nat) (h : p + n ≤ s.size) (hi : i < n) (h' : i < (s.extract p (p + n)).size) : ((s.extract p (p + n))[i].toNat : Int) = at8 s (p + i) := by
  rw [at8_of (by omega), ByteArray.getElem_extract]

theorem wrap64_at8 (s : ByteArray) (p : Nat) : wrap64 (at8 s p) = at8 s p := by
  have b := at8_in s p
  unfold wrap64
  omega
set_option maxHeartbeats 1000000 in
theorem oneByte_ok (cb p : Nat) (s : ByteArray) (told : Int) (w : World) (hs : s.size ≤ 1048576) (hn : p < s.size) (h : Cc w cb s p told) :
    Calls Try.prog 92 #[.pointer (some ⟨cb, 0, none⟩)] w fun e w' => e = .returned (.int .i64 (at8 s p)) ∧ Cc w' cb s (p + 1) told ∧ Kx cb w w' := by
  have HT := hide (fun W (hW : Cc W cb s p told) => take_ok cb p 1 s told W hs hn hW)
  have hz : 0 < (s.extract p (p + 1)).size := by rw [piece_size s p 1 hn]; omega
  have HE : Hid (((s.extract p (p + 1))[0].toNat : Int) = at8 s p) := piece_at s p 1 0 hn (by omega) hz
  go_enter Try.func92, Try.ntmps92
  go_wp2_with (go_at_call 93; refine (unhide HT _ h).mono ?_; rintro e w1 ⟨rfl, h1, k1⟩)
  go_ret
  have b := at8_in s p
  exact ⟨by rw [unhide HE, wrap64_at8]; rfl, h1, k1⟩
theorem oneByte_short (cb p : Nat) (s : ByteArray) (told : Int) (w : World) (hs : s.size ≤ 1048576) (hn : p = s.size) (h : Cc w cb s p told) :
    Calls Try.prog 92 #[.pointer (some ⟨cb, 0, none⟩)] w fun e w' => e = gives 1 ∧ Below w.heap.size w w' := by
  have HT := hide (take_short cb p 1 s told w hs (by omega) (by omega) h)
  go_enter Try.func92, Try.ntmps92
  go_wp2_with (go_at_call 93; refine (unhide HT).mono ?_; rintro e w1 ⟨rfl, h1⟩)
  exact ⟨rfl, rfl, h1⟩

set_option maxHeartbeats 1000000 in
theorem word_ok (cb p : Nat) (s : ByteArray) (told : Int) (w : World) (hs : s.size ≤ 1048576) (hn : p + 4 ≤ s.size) (h : Cc w cb s p told) :
    Calls Try.prog 69 #[.pointer (some ⟨cb, 0, none⟩)] w fun e w' => e = .returned (.int .i64 (big 0 (s.extract p (p + 4)).data.toList)) ∧ Cc w' cb s (p + 4) told ∧ Kx cb w w' := by
  have HT := hide (fun W (hW : Cc W cb s p told) => take_ok cb p 4 s told W hs hn hW)
  have hz : (s.extract p (p + 4)).size = 4 := piece_size s p 4 hn
  generalize s.extract p (p + 4) = t at HT hz ⊢
  go_enter Try.func69, Try.ntmps69
  go_wp2_with (go_at_call 93; refine (unhide HT _ h).mono ?_; rintro e w1 ⟨rfl, h1, k1⟩)
  obtain ⟨cap, W, hcv, hbW, hcW, hfW, hsz⟩ := conv_bytes Try.prog w1 9 44 5 t Try.underlying9 Try.underlying44 Try.underlying5
  rw [hcv]
  have HW := hide hcW
  clear hcW hfW hcv
  go_wp2_with fail
  go_loopw [3, 10] (fun n i wr => ∃ k : Nat, k ≤ 4 ∧ i = .int .i64 k ∧ n = .int .i64 (big 0 (t.data.toList.take k)) ∧ wr = W) (fun _ i _ => 4 - (intOf i).toNat)
  case atStart => exact ⟨0, by omega, rfl, rfl, rfl⟩
  case round =>
    obtain ⟨k, hk, rfl, rfl, rfl⟩ := hrel
    by_cases hlt : k < 4
    · have hcf := unhide HW k (by omega)
      have HS : Hid (big 0 (t.data.toList.take (k + 1)) = st (big 0 (t.data.toList.take k)) t[k]) := by rw [take_snoc t k (by omega), big_snoc]; exact rfl
      go_wp2
      exact ⟨⟨k + 1, by omega, by go_num, by rw [HS.out]; rfl, by first | trivial | rfl⟩, by simp [intOf]; omega⟩
    · have HK : Hid (t.data.toList.take k = t.data.toList) := List.take_of_length_le (by simp; omega)
      go_wp2
      go_ret
      exact ⟨by rw [HK.out]; rfl, h1.below hbW, k1.trans (Kx.of hbW)⟩
theorem word_short (cb p : Nat) (s : ByteArray) (told : Int) (w : World) (hs : s.size ≤ 1048576) (hp : p ≤ s.size) (hn : s.size < p + 4) (h : Cc w cb s p told) :
    Calls Try.prog 69 #[.pointer (some ⟨cb, 0, none⟩)] w fun e w' => e = gives 1 ∧ Below w.heap.size w w' := by
  have HT := hide (take_short cb p 4 s told w hs hp (by omega) h)
  go_enter Try.func69, Try.ntmps69
  go_wp2_with (go_at_call 93; refine (unhide HT).mono ?_; rintro e w1 ⟨rfl, h1⟩)
  exact ⟨rfl, rfl, h1⟩

theorem id_none (cb p : Nat) (s : ByteArray) (told : Int) (w : World) (hs : s.size ≤ 1048576) (hn : p = s.size) (h : Cc w cb s p told) :
    Calls Try.prog 110 #[.pointer (some ⟨cb, 0, none⟩)] w fun e w' => e = gives 1 ∧ Below w.heap.size w w' := by
  have HT := hide (oneByte_short cb p s told w hs hn h)
  go_enter Try.func110, Try.ntmps110
  go_wp2_with (go_at_call 92; refine (unhide HT).mono ?_; rintro e w1 ⟨rfl, h1⟩)
  exact ⟨rfl, rfl, h1⟩
theorem id_long (cb p : Nat) (s : ByteArray) (told : Int) (w : World) (hs : s.size ≤ 1048576) (hn : p < s.size) (h20 : 20 < at8 s p) (h : Cc w cb s p told) :
    Calls Try.prog 110 #[.pointer (some ⟨cb, 0, none⟩)] w fun e w' => e = gives 3 ∧ Kx cb w w' := by
  have HT := hide (oneByte_ok cb p s told w hs hn h)
  go_enter Try.func110, Try.ntmps110
  go_wp2_with (go_at_call 92; refine (unhide HT).mono ?_; rintro e w1 ⟨rfl, h1, k1⟩)
  exact ⟨rfl, rfl, k1⟩
theorem id_ok (cb p n : Nat) (s : ByteArray) (told : Int) (w : World) (hs : s.size ≤ 1048576) (hn : at8 s p = n) (h20 : n ≤ 20) (hp : p + 1 + n ≤ s.size) (h : Cc w cb s p told) :
    Calls Try.prog 110 #[.pointer (some ⟨cb, 0, none⟩)] w fun e w' => e = .returned (.string (s.extract (p + 1) (p + 1 + n))) ∧ Cc w' cb s (p + 1 + n) told ∧ Kx cb w w' := by
  have HT := hide (oneByte_ok cb p s told w hs (by omega) h)
  rw [hn] at HT
  have HK := hide (fun W (hW : Cc W cb s (p + 1) told) => take_ok cb (p + 1) n s told W hs hp hW)
  have h21 : ¬ (20 : Int) < (n : Int) := by omega
  clear hn
  go_enter Try.func110, Try.ntmps110
  go_wp2_with (first | (go_at_call 92; refine (unhide HT).mono ?_; rintro e w1 ⟨rfl, h1, k1⟩) | (go_at_call 93; refine (unhide HK _ h1).mono ?_; rintro e w2 ⟨rfl, h2, k2⟩))
  go_ret
  exact ⟨rfl, h2, k1.trans k2⟩
theorem id_short (cb p n : Nat) (s : ByteArray) (told : Int) (w : World) (hs : s.size ≤ 1048576) (hn : at8 s p = n) (h20 : n ≤ 20) (hp0 : p < s.size) (hp : s.size < p + 1 + n) (h : Cc w cb s p told) :
    Calls Try.prog 110 #[.pointer (some ⟨cb, 0, none⟩)] w fun e w' => e = gives 1 ∧ Kx cb w w' := by
  have HT := hide (oneByte_ok cb p s told w hs hp0 h)
  rw [hn] at HT
  have HK := hide (fun W (hW : Cc W cb s (p + 1) told) => take_short cb (p + 1) n s told W hs (by omega) (by omega) hW)
  have h21 : ¬ (20 : Int) < (n : Int) := by omega
  clear hn
  go_enter Try.func110, Try.ntmps110
  go_wp2_with (first | (go_at_call 92; refine (unhide HT).mono ?_; rintro e w1 ⟨rfl, h1, k1⟩) | (go_at_call 93; refine (unhide HK _ h1).mono ?_; rintro e w2 ⟨rfl, h2⟩))
  exact ⟨rfl, rfl, k1.trans (Kx.of h2)⟩
end Go.Proofs.Ytbabipaipbjlbaa
