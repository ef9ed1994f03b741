/-
  Contracts: the program's cursor: sized payloads, what is left, the first byte, both ids.
-/
import Derived.Test.YtbabipaipbjlbaaPrd
import Derived.Test.YtbabipaipbjlbaaLre
namespace Go.Proofs.Ytbabipaipbjlbaa
open Go.ChangeShapes Go.WideShapes Go.ChangeAt Go.RowKit
set_option linter.unusedVariables false
set_option maxRecDepth 100000

theorem textT_no {s : ByteArray} {p : Nat} (h : (nm s p).2 = 0) : (textT s p 0).c ≠ 0 := by
  unfold textT
  rw [show numC s p 0 = 1 by unfold numC; exact if_pos ⟨h, rfl⟩, takeT_code (by decide)]
  exact (by decide : (1 : Int) ≠ 0)
theorem textT_yes {s : ByteArray} {p : Nat} (h : ¬ (nm s p).2 = 0) : textT s p 0 = takeT s (p + (nm s p).2) 0 (nm s p).1 := by
  unfold textT
  rw [show numC s p 0 = 0 by unfold numC; exact if_neg (fun z => h z.1)]
theorem takeT_len {s : ByteArray} {p n : Nat} (h : (takeT s p 0 n).c = 0) (hp : p ≤ s.size) : (takeT s p 0 n).t.size = n := by
  have := takeT_c.1 h
  rw [takeT_ok (by omega)]
  exact piece_size s p n (by omega)
theorem textT_len {s : ByteArray} {p : Nat} (hp : p ≤ s.size) (h : (textT s p 0).c = 0) : ¬ (nm s p).2 = 0 ∧ ((textT s p 0).t.size : Int) = (nm s p).1 := by
  by_cases h2 : (nm s p).2 = 0
  · exact absurd h (textT_no h2)
  · refine ⟨h2, ?_⟩
    rw [textT_yes h2] at h ⊢
    have b := nm_in s p hp
    obtain ⟨n, hn⟩ : ∃ n : Nat, (nm s p).1 = n := ⟨(nm s p).1.toNat, by omega⟩
    rw [hn] at h ⊢
    rw [takeT_len h b.2.2]
theorem spay_ok (cb p : Nat) (s : ByteArray) (told : Int) (w : World) (hs : s.size ≤ 1048576) (hp : p ≤ s.size) (hc : (textT s p 0).c = 0) (h1 : 1 ≤ (textT s p 0).t.size) (h2 : (textT s p 0).t.size ≤ 1200) (h : Cc w cb s p told) :
    Calls Try.prog 96 #[.pointer (some ⟨cb, 0, none⟩)] w fun e w' => e = .returned (.string (textT s p 0).t) ∧ Cc w' cb s (textT s p 0).p told ∧ Kx cb w w' := by
  obtain ⟨n0, e0⟩ := textT_len hp hc
  have b := nm_in s p hp
  have HN := hide (upTo_ok cb p 1200 s told w hs hp (by omega) n0 (by omega) h)
  obtain ⟨n, hn⟩ : ∃ n : Nat, (nm s p).1 = n := ⟨(nm s p).1.toNat, by omega⟩
  rw [textT_yes n0, hn] at hc ⊢
  have HK := hide (fun W (hW : Cc W cb s (p + (nm s p).2) told) => ptake_ok cb (p + (nm s p).2) n s told W hs b.2.2 hc hW)
  have h5 : ¬ (n : Int) < 1 := by omega
  rw [hn] at HN
  clear h e0 hc
  go_enter Try.func96, Try.ntmps96
  go_wp2_with (first | (go_at_call 95; refine (unhide HN).mono ?_; rintro e w1 ⟨rfl, h1, k1⟩) | (go_at_call 93; refine (unhide HK _ h1).mono ?_; rintro e w2 ⟨rfl, h2, k2⟩))
  go_ret
  exact ⟨rfl, h2, k1.trans k2⟩
theorem spay_bad (cb p : Nat) (s : ByteArray) (told : Int) (w : World) (hs : s.size ≤ 1048576) (hp : p ≤ s.size) (hc : ¬ ((textT s p 0).c = 0 ∧ 1 ≤ (textT s p 0).t.size ∧ (textT s p 0).t.size ≤ 1200)) (h : Cc w cb s p told) :
    Calls Try.prog 96 #[.pointer (some ⟨cb, 0, none⟩)] w (Bad cb w) := by
  have b := nm_in s p hp
  by_cases h1 : (nm s p).2 = 0 ∨ ((1200 : Nat) : Int) < (nm s p).1
  · have HN := hide (upTo_bad cb p 1200 s told w hs hp (by omega) h1 h)
    clear h hc h1
    go_enter Try.func96, Try.ntmps96
    go_wp2_with (go_at_call 95; refine (unhide HN).mono ?_; rintro e w1 ⟨c, hC, rfl, k1⟩)
    exact ⟨rfl, c, hC, rfl, k1⟩
  have n0 : ¬ (nm s p).2 = 0 := fun z => h1 (Or.inl z)
  have n1 : (nm s p).1 ≤ (1200 : Nat) := by have : ¬ ((1200 : Nat) : Int) < (nm s p).1 := fun z => h1 (Or.inr z); omega
  have HN := hide (upTo_ok cb p 1200 s told w hs hp (by omega) n0 n1 h)
  obtain ⟨n, hn⟩ : ∃ n : Nat, (nm s p).1 = n := ⟨(nm s p).1.toNat, by omega⟩
  rw [hn] at HN n1
  rw [textT_yes n0, hn] at hc
  by_cases h2 : n = 0
  · have h5 : (n : Int) < 1 := by omega
    clear h hc h1
    go_enter Try.func96, Try.ntmps96
    go_wp2_with (go_at_call 95; refine (unhide HN).mono ?_; rintro e w1 ⟨rfl, h1, k1⟩)
    exact ⟨rfl, Bad.three rfl k1⟩
  · have h5 : ¬ (n : Int) < 1 := by omega
    have hd : (takeT s (p + (nm s p).2) 0 n).c ≠ 0 := fun z => hc ⟨z, by rw [takeT_len z b.2.2]; omega, by rw [takeT_len z b.2.2]; omega⟩
    have HK := hide (fun W (hW : Cc W cb s (p + (nm s p).2) told) => ptake_bad cb (p + (nm s p).2) n s told W hs b.2.2 hd hW)
    clear h hc h1 hd
    go_enter Try.func96, Try.ntmps96
    go_wp2_with (first | (go_at_call 95; refine (unhide HN).mono ?_; rintro e w1 ⟨rfl, h1, k1⟩) | (go_at_call 93; refine (unhide HK _ h1).mono ?_; rintro e w2 ⟨c, hC, rfl, k2⟩))
    exact ⟨rfl, c, hC, rfl, k1.trans k2⟩

/-! the first byte -/
theorem packet_none (cb : Nat) (s : ByteArray) (told : Int) (w : World) (hs : s.size = 0) (h : Cc w cb s 0 told) :
    Calls Try.prog 68 #[.pointer (some ⟨cb, 0, none⟩)] w (Bad cb w) := by
  have HN := hide (oneByte_short cb 0 s told w (by omega) hs.symm h)
  clear h
  go_enter Try.func68, Try.ntmps68
  go_wp2_with (go_at_call 92; refine (unhide HN).mono ?_; rintro e w1 ⟨rfl, k1⟩)
  exact ⟨rfl, Bad.one rfl (Kx.of k1)⟩
theorem packet_kind (cb : Nat) (s : ByteArray) (told : Int) (w : World) (hs : s.size ≤ 1048576) (h0 : 0 < s.size) (h64 : bits .and .i64 (at8 s 0) 64 = 0) (h : Cc w cb s 0 told) :
    Calls Try.prog 68 #[.pointer (some ⟨cb, 0, none⟩)] w (Bad cb w) := by
  have HN := hide (oneByte_ok cb 0 s told w hs h0 h)
  clear h
  generalize at8 s 0 = b at *
  go_enter Try.func68, Try.ntmps68
  go_wp2_with (go_at_call 92; refine (unhide HN).mono ?_; rintro e w1 ⟨rfl, h1, k1⟩)
  exact ⟨rfl, Bad.two rfl k1⟩
theorem packet_ok (cb : Nat) (s : ByteArray) (told : Int) (w : World) (hs : s.size ≤ 1048576) (h0 : 0 < s.size) (h64 : bits .and .i64 (at8 s 0) 64 = 64) (h : Cc w cb s 0 told) :
    Calls Try.prog 68 #[.pointer (some ⟨cb, 0, none⟩)] w fun e w' => e = .returned (.int .i64 (at8 s 0)) ∧ Cc w' cb s 1 told ∧ Kx cb w w' := by
  have HN := hide (oneByte_ok cb 0 s told w hs h0 h)
  clear h
  generalize at8 s 0 = b at *
  go_enter Try.func68, Try.ntmps68
  go_wp2_with (go_at_call 92; refine (unhide HN).mono ?_; rintro e w1 ⟨rfl, h1, k1⟩)
  go_ret
  exact ⟨rfl, h1, k1⟩

/-! the form that is seen -/
theorem seen_short (b v : Int) (w : World) (hb : bits .and .i64 b 128 = 0) :
    Calls Try.prog 70 #[.int .i64 b, .int .i64 v] w fun e w' => e = .returned (.int .i64 5) ∧ w' = w := by
  go_enter Try.func70, Try.ntmps70
  go_wp2
  go_ret
  exact ⟨rfl, rfl⟩
theorem seen_versions (b v : Int) (w : World) (hb : bits .and .i64 b 128 = 128) (hv : v = 0) :
    Calls Try.prog 70 #[.int .i64 b, .int .i64 v] w fun e w' => e = .returned (.int .i64 4) ∧ w' = w := by
  subst hv
  go_enter Try.func70, Try.ntmps70
  go_wp2
  go_ret
  exact ⟨rfl, rfl⟩
theorem seen_long (b v : Int) (w : World) (hb : bits .and .i64 b 128 = 128) (hv : (v == 0) = false) (h0 : 0 ≤ b) (h1 : b < 256) (h3 : bits .and .i64 (b / 16) 3 = b / 16 % 4) :
    Calls Try.prog 70 #[.int .i64 b, .int .i64 v] w fun e w' => e = .returned (.int .i64 (b / 16 % 4)) ∧ w' = w := by
  go_enter Try.func70, Try.ntmps70
  go_wp2
  go_ret
  exact ⟨rfl, rfl⟩
end Go.Proofs.Ytbabipaipbjlbaa
