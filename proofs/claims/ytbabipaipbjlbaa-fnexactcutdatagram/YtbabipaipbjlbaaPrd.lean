/-
  Contracts: the program's cursor: ids, numbers and payloads, held against what the model's reader would come to.
-/
import Derived.Test.YtbabipaipbjlbaaTot
namespace Go.Proofs.Ytbabipaipbjlbaa
open Go.ChangeShapes Go.WideShapes Go.ChangeAt Go.RowKit
set_option linter.unusedVariables false
set_option maxRecDepth 100000

/-- reading gave up -/
def Bad (cb : Nat) (w : World) (e : Ending) (w' : World) : Prop := ∃ c : Int, (c = 1 ∨ c = 2 ∨ c = 3) ∧ e = gives c ∧ Kx cb w w'
theorem Bad.one {cb : Nat} {w w' : World} {e : Ending} (h : e = gives 1) (k : Kx cb w w') : Bad cb w e w' := ⟨1, Or.inl rfl, h, k⟩
theorem Bad.two {cb : Nat} {w w' : World} {e : Ending} (h : e = gives 2) (k : Kx cb w w') : Bad cb w e w' := ⟨2, Or.inr (Or.inl rfl), h, k⟩
theorem Bad.three {cb : Nat} {w w' : World} {e : Ending} (h : e = gives 3) (k : Kx cb w w') : Bad cb w e w' := ⟨3, Or.inr (Or.inr rfl), h, k⟩

theorem takeT_c {s : ByteArray} {p n : Nat} : (takeT s p 0 n).c = 0 ↔ (n : Int) ≤ (s.size : Int) - p := by
  unfold takeT
  rw [if_neg (by decide)]
  split
  · exact ⟨fun h => absurd h (show ¬ (1 : Int) = 0 by decide), fun h => by omega⟩
  · exact ⟨fun _ => by omega, fun _ => rfl⟩

/-! an id -/
theorem idN_at {s : ByteArray} {p : Nat} (h : p < s.size) : idN s p 0 = at8 s p := by
  unfold idN
  rw [show takeT s p 0 1 = takeT s p 0 ((1 : Nat) : Int) from rfl, takeT_ok (by omega)]
  exact big_one s p h
theorem idT_none {s : ByteArray} {p : Nat} (h : p = s.size) : (idT s p 0).c ≠ 0 := by
  have e : takeT s p 0 1 = ⟨⟨#[]⟩, p, 1⟩ := takeT_short (by omega)
  unfold idT
  rw [e]
  rw [show (if ((⟨⟨#[]⟩, p, 1⟩ : T3).c = 0 ∧ 20 < idN s p 0) then (3 : Int) else (⟨⟨#[]⟩, p, 1⟩ : T3).c) = 1 from if_neg (fun z => absurd z.1 (show ¬ (1 : Int) = 0 by decide)), takeT_code (by decide)]
  exact (by decide : (1 : Int) ≠ 0)
theorem idT_in {s : ByteArray} {p : Nat} (h : p < s.size) : idT s p 0 = takeT s (p + 1) (if 20 < at8 s p then 3 else 0) (at8 s p) := by
  have e : takeT s p 0 1 = ⟨s.extract p (p + 1), p + 1, 0⟩ := takeT_ok (n := 1) (by omega)
  unfold idT
  rw [e, idN_at h]
  by_cases h2 : 20 < at8 s p
  · rw [if_pos h2, if_pos ⟨rfl, h2⟩]
  · rw [if_neg h2, if_neg (fun z => h2 z.2)]
theorem pid_ok (cb p : Nat) (s : ByteArray) (told : Int) (w : World) (hs : s.size ≤ 1048576) (hp : p ≤ s.size) (hc : (idT s p 0).c = 0) (h : Cc w cb s p told) :
    Calls Try.prog 110 #[.pointer (some ⟨cb, 0, none⟩)] w fun e w' => e = .returned (.string (idT s p 0).t) ∧ Cc w' cb s (idT s p 0).p told ∧ Kx cb w w' := by
  by_cases h0 : p = s.size
  · exact absurd hc (idT_none h0)
  have h1 : p < s.size := by omega
  have b := at8_in s p
  rw [idT_in h1] at hc ⊢
  by_cases h2 : 20 < at8 s p
  · rw [if_pos h2, takeT_code (by decide)] at hc
    exact absurd hc (by show ¬ (3 : Int) = 0; decide)
  · rw [if_neg h2] at hc ⊢
    obtain ⟨n, hn⟩ : ∃ n : Nat, at8 s p = n := ⟨(at8 s p).toNat, by omega⟩
    rw [hn] at hc ⊢
    have h3 := takeT_c.1 hc
    rw [takeT_ok (by omega)]
    exact id_ok cb p n s told w hs hn (by omega) (by omega) h
theorem pid_bad (cb p : Nat) (s : ByteArray) (told : Int) (w : World) (hs : s.size ≤ 1048576) (hp : p ≤ s.size) (hc : (idT s p 0).c ≠ 0) (h : Cc w cb s p told) :
    Calls Try.prog 110 #[.pointer (some ⟨cb, 0, none⟩)] w (Bad cb w) := by
  by_cases h0 : p = s.size
  · exact (id_none cb p s told w hs h0 h).mono (fun e w' ⟨a, b⟩ => Bad.one a (Kx.of b))
  have h1 : p < s.size := by omega
  have b := at8_in s p
  rw [idT_in h1] at hc
  by_cases h2 : 20 < at8 s p
  · exact (id_long cb p s told w hs h1 h2 h).mono (fun e w' ⟨a, b⟩ => Bad.three a b)
  · rw [if_neg h2] at hc
    obtain ⟨n, hn⟩ : ∃ n : Nat, at8 s p = n := ⟨(at8 s p).toNat, by omega⟩
    rw [hn] at hc
    have h3 : ¬ (n : Int) ≤ (s.size : Int) - ((p + 1 : Nat) : Int) := fun z => hc (takeT_c.2 z)
    exact (id_short cb p n s told w hs hn (by omega) h1 (by omega) h).mono (fun e w' ⟨a, b⟩ => Bad.one a b)

/-! a text of the next n bytes -/
theorem ptake_ok (cb p n : Nat) (s : ByteArray) (told : Int) (w : World) (hs : s.size ≤ 1048576) (hp : p ≤ s.size) (hc : (takeT s p 0 n).c = 0) (h : Cc w cb s p told) :
    Calls Try.prog 93 #[.pointer (some ⟨cb, 0, none⟩), .int .i64 n] w fun e w' => e = .returned (.string (takeT s p 0 n).t) ∧ Cc w' cb s (takeT s p 0 n).p told ∧ Kx cb w w' := by
  have h3 := takeT_c.1 hc
  rw [takeT_ok (by omega)]
  exact take_ok cb p n s told w hs (by omega) h
theorem ptake_bad (cb p n : Nat) (s : ByteArray) (told : Int) (w : World) (hs : s.size ≤ 1048576) (hp : p ≤ s.size) (hc : (takeT s p 0 n).c ≠ 0) (h : Cc w cb s p told) :
    Calls Try.prog 93 #[.pointer (some ⟨cb, 0, none⟩), .int .i64 n] w (Bad cb w) := by
  have h3 : ¬ (n : Int) ≤ (s.size : Int) - p := fun z => hc (takeT_c.2 z)
  exact (take_short cb p n s told w hs hp (by omega) h).mono (fun e w' ⟨a, b⟩ => Bad.one a (Kx.of b))

/-! a number -/
set_option maxHeartbeats 1000000 in
theorem number_ok (cb p : Nat) (s : ByteArray) (told : Int) (w : World) (hs : s.size ≤ 1048576) (hp : p ≤ s.size) (h2 : ¬ (nm s p).2 = 0) (h : Cc w cb s p told) :
    Calls Try.prog 111 #[.pointer (some ⟨cb, 0, none⟩)] w fun e w' => e = .returned (.int .i64 (nm s p).1) ∧ Cc w' cb s (p + (nm s p).2) told ∧ Kx cb w w' := by
  have HT := hide (fun W => implTake_any (s.extract p s.size) W (by rw [ByteArray.size_extract]; unfold maxLen; omega))
  change Hid (∀ W, Calls Try.prog 121 #[.string (s.extract p s.size)] W fun e w' => e = .returned (.tuple #[.int .i64 (nm s p).1, .int .i64 (nm s p).2]) ∧ W = w') at HT
  have hq := (nm_in s p hp).2.2
  generalize nm s p = x at *
  have c0 := h.c0
  have c1 := h.c1
  have HH := hide h
  clear h
  have z0 : (0 : Int) ≤ (p : Int) := by omega
  have z1 : (p : Int) ≤ (s.size : Int) := by omega
  have hx2 : ((x.2 : Int) == 0) = false := by simpa using h2
  go_enter Try.func111, Try.ntmps111
  go_wp2_with fail
  go_region_with (go_at_call 121; refine (unhide HT _).mono ?_; rintro e w1 ⟨rfl, rfl⟩)
  all_goals
    have H1 := (unhide HH).below ((Below.refl _ _).drew)
    have K1 : Kx cb w w.drew := Kx.of ((Below.refl _ _).drew)
    have d1 := H1.c1
    have f1 := H1.fz 1
    clear HH c0 c1 HT
    go_wp2
    go_ret
    exact ⟨rfl, H1.put (q := p + x.2), K1.set 1 _⟩
set_option maxHeartbeats 1000000 in
theorem number_bad (cb p : Nat) (s : ByteArray) (told : Int) (w : World) (hs : s.size ≤ 1048576) (hp : p ≤ s.size) (h2 : (nm s p).2 = 0) (h : Cc w cb s p told) :
    Calls Try.prog 111 #[.pointer (some ⟨cb, 0, none⟩)] w fun e w' => e = gives 1 ∧ Kx cb w w' := by
  have HT := hide (fun W => implTake_any (s.extract p s.size) W (by rw [ByteArray.size_extract]; unfold maxLen; omega))
  change Hid (∀ W, Calls Try.prog 121 #[.string (s.extract p s.size)] W fun e w' => e = .returned (.tuple #[.int .i64 (nm s p).1, .int .i64 (nm s p).2]) ∧ W = w') at HT
  rw [h2] at HT
  generalize nm s p = x at *
  have c0 := h.c0
  have c1 := h.c1
  clear h h2
  have z0 : (0 : Int) ≤ (p : Int) := by omega
  have z1 : (p : Int) ≤ (s.size : Int) := by omega
  go_enter Try.func111, Try.ntmps111
  go_wp2_with fail
  go_region_with (go_at_call 121; refine (unhide HT _).mono ?_; rintro e w1 ⟨rfl, rfl⟩)
  all_goals
    go_wp2_with fail
    exact ⟨rfl, rfl, Kx.of ((Below.refl _ _).drew)⟩
theorem upTo_ok (cb p most : Nat) (s : ByteArray) (told : Int) (w : World) (hs : s.size ≤ 1048576) (hp : p ≤ s.size) (hm : most ≤ 1048576) (h2 : ¬ (nm s p).2 = 0) (h3 : (nm s p).1 ≤ most) (h : Cc w cb s p told) :
    Calls Try.prog 95 #[.pointer (some ⟨cb, 0, none⟩), .int .i64 most] w fun e w' => e = .returned (.int .i64 (nm s p).1) ∧ Cc w' cb s (p + (nm s p).2) told ∧ Kx cb w w' := by
  have HN := hide (number_ok cb p s told w hs hp h2 h)
  generalize nm s p = x at *
  have h4 : ¬ (most : Int) < x.1 := by omega
  clear h h2 h3
  go_enter Try.func95, Try.ntmps95
  go_wp2_with (go_at_call 111; refine (unhide HN).mono ?_; rintro e w1 ⟨rfl, h1, k1⟩)
  go_ret
  exact ⟨rfl, h1, k1⟩
theorem upTo_bad (cb p most : Nat) (s : ByteArray) (told : Int) (w : World) (hs : s.size ≤ 1048576) (hp : p ≤ s.size) (hm : most ≤ 1048576) (h3 : (nm s p).2 = 0 ∨ (most : Int) < (nm s p).1) (h : Cc w cb s p told) :
    Calls Try.prog 95 #[.pointer (some ⟨cb, 0, none⟩), .int .i64 most] w (Bad cb w) := by
  by_cases h2 : (nm s p).2 = 0
  · have HN := hide (number_bad cb p s told w hs hp h2 h)
    clear h h2 h3
    go_enter Try.func95, Try.ntmps95
    go_wp2_with (go_at_call 111; refine (unhide HN).mono ?_; rintro e w1 ⟨rfl, k1⟩)
    exact ⟨rfl, Bad.one rfl k1⟩
  · have HN := hide (number_ok cb p s told w hs hp h2 h)
    have h4 : (most : Int) < (nm s p).1 := h3.resolve_left h2
    generalize nm s p = x at *
    clear h h2 h3
    go_enter Try.func95, Try.ntmps95
    go_wp2_with (go_at_call 111; refine (unhide HN).mono ?_; rintro e w1 ⟨rfl, h1, k1⟩)
    exact ⟨rfl, Bad.three rfl k1⟩
end Go.Proofs.Ytbabipaipbjlbaa
