/-
  Contracts: the model's reader, at any code: what is read, where it is then, and the code.
-/
import Derived.Test.YtbabipaipbjlbaaLrd
namespace Go.Proofs.Ytbabipaipbjlbaa
open Go.ChangeShapes Go.WideShapes Go.ChangeAt Go.RowKit
set_option linter.unusedVariables false
set_option maxRecDepth 100000

/-- what a reader's step leaves: a text, a place, a code -/
structure T3 where
  t : ByteArray
  p : Nat
  c : Int
def takeT (s : ByteArray) (p : Nat) (c n : Int) : T3 :=
  if c ≠ 0 then ⟨⟨#[]⟩, p, c⟩ else if (s.size : Int) - p < n then ⟨⟨#[]⟩, p, 1⟩ else ⟨s.extract p (p + n.toNat), p + n.toNat, 0⟩
theorem takeT_code {s : ByteArray} {p : Nat} {c n : Int} (h : c ≠ 0) : takeT s p c n = ⟨⟨#[]⟩, p, c⟩ := by unfold takeT; exact if_pos h
theorem takeT_short {s : ByteArray} {p : Nat} {n : Int} (h : (s.size : Int) - p < n) : takeT s p 0 n = ⟨⟨#[]⟩, p, 1⟩ := by unfold takeT; rw [if_neg (by decide)]; exact if_pos h
theorem takeT_ok {s : ByteArray} {p : Nat} {n : Nat} (h : p + n ≤ s.size) : takeT s p 0 n = ⟨s.extract p (p + n), p + n, 0⟩ := by
  unfold takeT
  rw [if_neg (by decide), if_neg (by omega)]
  simp
theorem takeT_le {s : ByteArray} {p : Nat} {c n : Int} (hp : p ≤ s.size) (hn : 0 ≤ n) : (takeT s p c n).p ≤ s.size := by
  unfold takeT
  split
  · exact hp
  · split
    · exact hp
    · show p + n.toNat ≤ s.size; omega
theorem takeT_size {s : ByteArray} {p : Nat} {c n : Int} : (takeT s p c n).t.size ≤ s.size := by
  unfold takeT
  split
  · exact Nat.zero_le _
  · split
    · exact Nat.zero_le _
    · show (s.extract _ _).size ≤ _; rw [ByteArray.size_extract]; omega
theorem takeM_any (rb p : Nat) (c n : Int) (s : ByteArray) (w : World) (hs : s.size ≤ 1048576) (hp : p ≤ s.size) (hn : 0 ≤ n) (h : Lr w rb s p c) :
    Calls Try.prog 82 #[.pointer (some ⟨rb, 0, none⟩), .int .i64 n] w fun e w' => e = .returned (.string (takeT s p c n).t) ∧ Lr w' rb s (takeT s p c n).p (takeT s p c n).c ∧ Kx rb w w' := by
  by_cases hc : c = 0
  · subst hc
    by_cases hl : (s.size : Int) - p < n
    · rw [takeT_short hl]; exact takeM_short rb p n s w hs hp hl h
    · obtain ⟨k, rfl⟩ := Int.eq_ofNat_of_zero_le hn
      rw [takeT_ok (by omega)]; exact takeM_ok rb p k s w hs (by omega) h
  · rw [takeT_code hc]; exact takeM_code rb p n c s w (by simpa using hc) h

/-- the number that an id's length is told by -/
def idN (s : ByteArray) (p : Nat) (c : Int) : Int := big 0 (takeT s p c 1).t.data.toList
def idT (s : ByteArray) (p : Nat) (c : Int) : T3 :=
  takeT s (takeT s p c 1).p (if (takeT s p c 1).c = 0 ∧ 20 < idN s p c then 3 else (takeT s p c 1).c) (idN s p c)
theorem idN_in (s : ByteArray) (p : Nat) (c : Int) : 0 ≤ idN s p c ∧ idN s p c < 256 := by
  unfold idN takeT
  split
  · show (0 : Int) ≤ 0 ∧ (0 : Int) < 256; omega
  · split
    · show (0 : Int) ≤ 0 ∧ (0 : Int) < 256; omega
    · rename_i h1 h2
      rw [show p + (1 : Int).toNat = p + 1 from rfl, big_one s p (by omega)]
      exact at8_in s p
set_option maxHeartbeats 1000000 in
theorem idM_any (rb p : Nat) (c : Int) (s : ByteArray) (w : World) (hs : s.size ≤ 1048576) (hp : p ≤ s.size) (h : Lr w rb s p c) :
    Calls Try.prog 83 #[.pointer (some ⟨rb, 0, none⟩)] w fun e w' => e = .returned (.string (idT s p c).t) ∧ Lr w' rb s (idT s p c).p (idT s p c).c ∧ Kx rb w w' := by
  have hb := idN_in s p c
  have HK := hide (takeM_any rb p c 1 s w hs hp (by omega) h)
  have HB := hide (fun W => l1BigS_any (takeT s p c 1).t W (Nat.le_trans takeT_size hs))
  have hp1 : (takeT s p c 1).p ≤ s.size := takeT_le hp (by omega)
  have HL := hide (fun W c' (hW : Lr W rb s (takeT s p c 1).p c') => takeM_any rb (takeT s p c 1).p c' (idN s p c) s W hs hp1 hb.1 hW)
  have HQ : Hid (idT s p c = takeT s (takeT s p c 1).p (if (takeT s p c 1).c = 0 ∧ 20 < idN s p c then 3 else (takeT s p c 1).c) (idN s p c)) := rfl
  rw [unhide HQ]
  clear HQ
  change Hid (∀ W, Calls Try.prog 81 #[.string (takeT s p c 1).t] W fun e w' => e = .returned (.int .i64 (idN s p c)) ∧ w' = W) at HB
  generalize takeT s p c 1 = x at HK HB HL ⊢
  generalize idN s p c = n at HB HL hb ⊢
  by_cases h1 : x.c = 0
  · by_cases h2 : 20 < n
    · rw [if_pos ⟨h1, h2⟩]
      go_enter Try.func83, Try.ntmps83
      go_wp2_with (first | (go_at_call 81; refine (unhide HB _).mono ?_; rintro e w2 ⟨rfl, rfl⟩) | (go_at_call 82; refine (unhide HL _ 3 (k1.note 3)).mono ?_; rintro e w3 ⟨rfl, k3, q3⟩) | (go_at_call 82; refine (unhide HK).mono ?_; rintro e w1 ⟨rfl, k1, q1⟩; have c2 := k1.c2; have f2 := k1.fz 2))
      go_ret
      exact ⟨rfl, k3, (q1.set 2 _).trans q3⟩
    · rw [if_neg (fun z => h2 z.2), h1]
      rw [h1] at HK
      go_enter Try.func83, Try.ntmps83
      go_wp2_with (first | (go_at_call 81; refine (unhide HB _).mono ?_; rintro e w2 ⟨rfl, rfl⟩) | (go_at_call 82; refine (unhide HL _ _ k1).mono ?_; rintro e w3 ⟨rfl, k3, q3⟩) | (go_at_call 82; refine (unhide HK).mono ?_; rintro e w1 ⟨rfl, k1, q1⟩; have c2 := k1.c2))
      go_ret
      exact ⟨rfl, k3, q1.trans q3⟩
  · rw [if_neg (fun z => h1 z.1)]
    have h3 : (x.c == 0) = false := by simpa using h1
    go_enter Try.func83, Try.ntmps83
    go_wp2_with (first | (go_at_call 81; refine (unhide HB _).mono ?_; rintro e w2 ⟨rfl, rfl⟩) | (go_at_call 82; refine (unhide HL _ _ k1).mono ?_; rintro e w3 ⟨rfl, k3, q3⟩) | (go_at_call 82; refine (unhide HK).mono ?_; rintro e w1 ⟨rfl, k1, q1⟩; have c2 := k1.c2))
    go_ret
    exact ⟨rfl, k3, q1.trans q3⟩

/-- the number at p: it, and how many bytes it has -/
def nm (s : ByteArray) (p : Nat) : Int × Nat := tk (s.extract p s.size).data.toList
def numC (s : ByteArray) (p : Nat) (c : Int) : Int := if (nm s p).2 = 0 ∧ c = 0 then 1 else c
set_option maxHeartbeats 1000000 in
theorem numM1 (rb p : Nat) (c : Int) (x : Int × Nat) (s : ByteArray) (w : World) (hs : s.size ≤ 1048576) (hp : p ≤ s.size) (hq : p + x.2 ≤ s.size) (hx : x.2 = 0) (hc : c = 0) (h : Lr w rb s p c)
    (HT : Hid (∀ W, Calls Try.prog 113 #[.string (s.extract p s.size)] W fun e w' => e = .returned (.tuple #[.int .i64 x.1, .int .i64 x.2]) ∧ Below W.heap.size W w')) :
    Calls Try.prog 101 #[.pointer (some ⟨rb, 0, none⟩)] w fun e w' => e = .returned (.int .i64 x.1) ∧ Lr w' rb s (p + x.2) 1 ∧ Kx rb w w' := by
  have c0 := h.c0
  have c1 := h.c1
  have HH := hide h
  clear h
  have z0 : (0 : Int) ≤ (p : Int) := by omega
  have z1 : (p : Int) ≤ (s.size : Int) := by omega
  have hx2 : (x.2 : Int) = 0 := by omega
  go_enter Try.func101, Try.ntmps101
  go_wp2_with fail
  go_region_with (go_at_call 113; refine (unhide HT _).mono ?_; rintro e w1 ⟨rfl, hb1⟩)
  all_goals
    have H1 := (unhide HH).below ((Below.refl _ _).drew.trans hb1)
    have K1 : Kx rb w w1 := Kx.of ((Below.refl _ _).drew.trans hb1)
    have d1 := H1.c1
    have d2 := H1.c2
    have f1 := H1.fz 1
    have f2 := H1.fz 2
    clear HH c0 c1 hb1 HT
    go_wp2
    go_ret
    exact ⟨rfl, by rw [hx]; exact (H1.note 1).put p, (K1.set 2 _).set 1 _⟩
set_option maxHeartbeats 1000000 in
theorem numM2 (rb p : Nat) (c : Int) (x : Int × Nat) (s : ByteArray) (w : World) (hs : s.size ≤ 1048576) (hp : p ≤ s.size) (hq : p + x.2 ≤ s.size) (hx : x.2 = 0) (hc : (c == 0) = false) (h : Lr w rb s p c)
    (HT : Hid (∀ W, Calls Try.prog 113 #[.string (s.extract p s.size)] W fun e w' => e = .returned (.tuple #[.int .i64 x.1, .int .i64 x.2]) ∧ Below W.heap.size W w')) :
    Calls Try.prog 101 #[.pointer (some ⟨rb, 0, none⟩)] w fun e w' => e = .returned (.int .i64 x.1) ∧ Lr w' rb s (p + x.2) c ∧ Kx rb w w' := by
  have c0 := h.c0
  have c1 := h.c1
  have HH := hide h
  clear h
  have z0 : (0 : Int) ≤ (p : Int) := by omega
  have z1 : (p : Int) ≤ (s.size : Int) := by omega
  have hx2 : (x.2 : Int) = 0 := by omega
  go_enter Try.func101, Try.ntmps101
  go_wp2_with fail
  go_region_with (go_at_call 113; refine (unhide HT _).mono ?_; rintro e w1 ⟨rfl, hb1⟩)
  all_goals
    have H1 := (unhide HH).below ((Below.refl _ _).drew.trans hb1)
    have K1 : Kx rb w w1 := Kx.of ((Below.refl _ _).drew.trans hb1)
    have d1 := H1.c1
    have d2 := H1.c2
    have f1 := H1.fz 1
    have f2 := H1.fz 2
    clear HH c0 c1 hb1 HT
    go_wp2
    go_ret
    exact ⟨rfl, by rw [hx]; exact H1.put p, K1.set 1 _⟩
set_option maxHeartbeats 1000000 in
theorem numM3 (rb p : Nat) (c : Int) (x : Int × Nat) (s : ByteArray) (w : World) (hs : s.size ≤ 1048576) (hp : p ≤ s.size) (hq : p + x.2 ≤ s.size) (hx : ¬ x.2 = 0) (h : Lr w rb s p c)
    (HT : Hid (∀ W, Calls Try.prog 113 #[.string (s.extract p s.size)] W fun e w' => e = .returned (.tuple #[.int .i64 x.1, .int .i64 x.2]) ∧ Below W.heap.size W w')) :
    Calls Try.prog 101 #[.pointer (some ⟨rb, 0, none⟩)] w fun e w' => e = .returned (.int .i64 x.1) ∧ Lr w' rb s (p + x.2) c ∧ Kx rb w w' := by
  have c0 := h.c0
  have c1 := h.c1
  have HH := hide h
  clear h
  have z0 : (0 : Int) ≤ (p : Int) := by omega
  have z1 : (p : Int) ≤ (s.size : Int) := by omega
  have hx2 : ((x.2 : Int) == 0) = false := by simpa using hx
  go_enter Try.func101, Try.ntmps101
  go_wp2_with fail
  go_region_with (go_at_call 113; refine (unhide HT _).mono ?_; rintro e w1 ⟨rfl, hb1⟩)
  all_goals
    have H1 := (unhide HH).below ((Below.refl _ _).drew.trans hb1)
    have K1 : Kx rb w w1 := Kx.of ((Below.refl _ _).drew.trans hb1)
    have d1 := H1.c1
    have d2 := H1.c2
    have f1 := H1.fz 1
    have f2 := H1.fz 2
    clear HH c0 c1 hb1 HT
    go_wp2
    go_ret
    exact ⟨rfl, H1.put (p + x.2), K1.set 1 _⟩
theorem numM_any (rb p : Nat) (c : Int) (s : ByteArray) (w : World) (hs : s.size ≤ 1048576) (hp : p ≤ s.size) (hq : p + (nm s p).2 ≤ s.size) (h : Lr w rb s p c) :
    Calls Try.prog 101 #[.pointer (some ⟨rb, 0, none⟩)] w fun e w' => e = .returned (.int .i64 (nm s p).1) ∧ Lr w' rb s (p + (nm s p).2) (numC s p c) ∧ Kx rb w w' := by
  have HT := hide (fun W => specTake_any (s.extract p s.size) W (by rw [ByteArray.size_extract]; unfold maxLen; omega))
  by_cases h2 : (nm s p).2 = 0
  · by_cases hc : c = 0
    · rw [show numC s p c = 1 by unfold numC; exact if_pos ⟨h2, hc⟩]
      exact numM1 rb p c (nm s p) s w hs hp hq h2 hc h HT
    · rw [show numC s p c = c by unfold numC; exact if_neg (fun z => hc z.2)]
      exact numM2 rb p c (nm s p) s w hs hp hq h2 (by simpa using hc) h HT
  · rw [show numC s p c = c by unfold numC; exact if_neg (fun z => h2 z.1)]
    exact numM3 rb p c (nm s p) s w hs hp hq h2 h HT
def textT (s : ByteArray) (p : Nat) (c : Int) : T3 := takeT s (p + (nm s p).2) (numC s p c) (nm s p).1
theorem textM_any (rb p : Nat) (c : Int) (s : ByteArray) (w : World) (hs : s.size ≤ 1048576) (hp : p ≤ s.size) (hq : p + (nm s p).2 ≤ s.size) (h0 : 0 ≤ (nm s p).1) (h : Lr w rb s p c) :
    Calls Try.prog 84 #[.pointer (some ⟨rb, 0, none⟩)] w fun e w' => e = .returned (.string (textT s p c).t) ∧ Lr w' rb s (textT s p c).p (textT s p c).c ∧ Kx rb w w' := by
  have HN := hide (numM_any rb p c s w hs hp hq h)
  have HK := hide (fun W (hW : Lr W rb s (p + (nm s p).2) (numC s p c)) => takeM_any rb (p + (nm s p).2) (numC s p c) (nm s p).1 s W hs hq h0 hW)
  change Hid (∀ W, Lr W rb s (p + (nm s p).2) (numC s p c) → Calls Try.prog 82 #[.pointer (some ⟨rb, 0, none⟩), .int .i64 (nm s p).1] W fun e w' => e = .returned (.string (textT s p c).t) ∧ Lr w' rb s (textT s p c).p (textT s p c).c ∧ Kx rb W w') at HK
  go_enter Try.func84, Try.ntmps84
  go_wp2_with (first | (go_at_call 101; refine (unhide HN).mono ?_; rintro e w1 ⟨rfl, k1, q1⟩) | (go_at_call 82; refine (unhide HK _ k1).mono ?_; rintro e w2 ⟨rfl, k2, q2⟩))
  go_ret
  exact ⟨rfl, k2, q1.trans q2⟩

/-! what a number at p can be -/
theorem st_in (m : Int) (c : UInt8) (h0 : 0 ≤ m) (h1 : m < 36028797018963968) : st m c = m * 256 + c.toNat := by
  have hc := c.toNat_lt
  unfold st
  rw [show wrap64 (m * 256) = m * 256 by unfold wrap64; omega, show wrap64 (c.toNat : Int) = (c.toNat : Int) by unfold wrap64; omega, or_byte _ _ (by omega) (by omega) (by omega) (by omega) (by omega)]
def bnd : Nat → Int
  | 0 => 4611686018427387904
  | n + 1 => bnd n / 256
theorem bnd_le : ∀ n, bnd n ≤ 4611686018427387904
  | 0 => Int.le_refl _
  | n + 1 => by have := bnd_le n; show bnd n / 256 ≤ _; omega
theorem big_in : ∀ (l : List UInt8) (m : Int), 0 ≤ m → m < bnd l.length → 0 ≤ big m l ∧ big m l < 4611686018427387904
  | [], m, h0, h1 => ⟨h0, h1⟩
  | c :: l, m, h0, h1 => by
    have hc := c.toNat_lt
    have hb := bnd_le l.length
    have h2 : m < bnd l.length / 256 := h1
    have e := st_in m c h0 (by omega)
    rw [show c :: l = [c] ++ l from rfl, show big m ([c] ++ l) = big (st m c) l from List.foldl_append ..]
    exact big_in l (st m c) (by rw [e]; omega) (by rw [e]; omega)
theorem tk_in (l : List UInt8) : 0 ≤ (tk l).1 ∧ (tk l).1 < 4611686018427387904 ∧ (tk l).2 ≤ l.length := by
  cases l with
  | nil => exact ⟨by decide, by decide, by decide⟩
  | cons c r =>
    have hc := c.toNat_lt
    simp only [tk]
    split
    · exact ⟨by show (0 : Int) ≤ 0; omega, by show (0 : Int) < _; omega, Nat.zero_le _⟩
    · rename_i h
      have hl : (r.take (tkN c - 1)).length = tkN c - 1 := by rw [List.length_take]; omega
      have h8 : tkN c = 1 ∨ tkN c = 2 ∨ tkN c = 4 ∨ tkN c = 8 := by rcases quarter c with ⟨_, a⟩ | ⟨_, a⟩ | ⟨_, a⟩ | ⟨_, a⟩ <;> omega
      have := big_in (r.take (tkN c - 1)) (c.toNat % 64) (by omega) (by
        rw [hl]
        rcases h8 with a | a | a | a <;> rw [a]
        · show _ < (4611686018427387904 : Int); omega
        · show _ < (18014398509481984 : Int); omega
        · show _ < (274877906944 : Int); omega
        · show _ < (64 : Int); omega)
      exact ⟨this.1, this.2, by simp; omega⟩
theorem nm_in (s : ByteArray) (p : Nat) (hp : p ≤ s.size) : 0 ≤ (nm s p).1 ∧ (nm s p).1 < 4611686018427387904 ∧ p + (nm s p).2 ≤ s.size := by
  have h := tk_in (s.extract p s.size).data.toList
  have e : (s.extract p s.size).data.toList.length = s.size - p := by
    have : (s.extract p s.size).data.toList.length = (s.extract p s.size).size := by simp
    rw [this, ByteArray.size_extract]; omega
  unfold nm
  exact ⟨h.1, h.2.1, by omega⟩
end Go.Proofs.Ytbabipaipbjlbaa
