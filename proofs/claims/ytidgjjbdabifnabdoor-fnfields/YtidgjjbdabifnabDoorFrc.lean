/-
  Contracts of the program: the cursor over the bytes of fields.
-/
import Derived.Test.YtidgjjbdabifnabDoorFsw
import Derived.Test.YtidgjjbdabifnabDoorFpu
import Derived.Test.YtidgjjbdabifnabDoorCrs
import Derived.Deep.DeepCutAuto
namespace Go.Proofs.YtidgjjbdabifnabDoor.Rc
open Go.ChangeShapes Go.WideShapes Go.ChangeAt Go.RowKit Go.Deep
set_option linter.unusedVariables false
set_option maxRecDepth 100000

/-- the bytes of a text from a place on -/
def dr (s : ByteArray) (p : Nat) : List UInt8 := s.data.toList.drop p
theorem dr_len (s : ByteArray) (p : Nat) : (dr s p).length = s.size - p := by
  have : s.data.toList.length = s.size := by rw [Array.length_toList]; rfl
  unfold dr
  rw [List.length_drop, this]
theorem ext_dr (s : ByteArray) (p : Nat) : (s.extract p s.size).data.toList = dr s p := by
  unfold dr
  rw [ByteArray.data_extract, Array.toList_extract]
  have : s.data.toList.length = s.size := by rw [Array.length_toList]; rfl
  rw [List.extract_eq_take_drop, List.take_of_length_le (by rw [List.length_drop, this]; omega)]
theorem ext_txt (s : ByteArray) (p k n : Nat) : (⟨(((dr s p).drop k).take n).toArray⟩ : ByteArray) = s.extract (p + k) (p + k + n) := by
  apply ByteArray.ext
  apply Array.toList_inj.1
  rw [ByteArray.data_extract, Array.toList_extract, List.extract_eq_take_drop, show p + k + n - (p + k) = n by omega]
  unfold dr
  rw [List.drop_drop]
theorem tkG_k : ∀ (l : List UInt8) (n k : Nat) {m q : Nat}, tkG l n k = some (m, q) → k + 2 ≤ q ∧ q ≤ k + 1 + l.length
  | [], n, k, m, q, h => by cases h
  | c :: l, n, k, m, q, h => by
    unfold tkG at h
    split at h
    · cases h
    · split at h
      · injection h with h
        injection h with _ h
        subst h
        simp only [List.length_cons]
        omega
      · have := tkG_k l _ (k + 1) h
        simp only [List.length_cons]
        omega
theorem tkP_k {l : List UInt8} {b n h k : Nat} (e : tkP l b = some (n, h, k)) : 1 ≤ k ∧ k ≤ 6 ∧ k ≤ l.length := by
  cases l with
  | nil => cases e
  | cons c l =>
    unfold tkP at e
    dsimp only at e
    split at e
    · injection e with e
      injection e with _ e
      injection e with _ e
      subst e
      simp
    · split at e
      · cases e
      · rename_i n' k' hk
        injection e with e
        injection e with _ e
        injection e with _ e
        subst e
        have h1 := tkG_k _ _ _ hk
        rw [List.length_take] at h1
        simp only [List.length_cons]
        omega
/-- giving up, the cursor somewhere -/
def Up (cb : Nat) (w : World) (e : Ending) (w' : World) : Prop := ∃ c : Int, (c = 1 ∨ c = 2) ∧ e = gives c ∧ Kx cb w w'
set_option maxHeartbeats 2000000 in
theorem implPx (cb p b : Nat) (s : ByteArray) (told : Int) (w : World) (hs : s.size ≤ 1048576) (hp : p ≤ s.size) (h0 : 3 ≤ b) (h1 : b ≤ 8) (h : Cc w cb s p told) :
    Calls Tryd.prog 54 #[.pointer (some ⟨cb, 0, none⟩), .int .i64 b] w fun e w' => match tkP (dr s p) b with
      | some (n, _, k) => e = .returned (.int .i64 n) ∧ Cc w' cb s (p + k) told ∧ Kx cb w w'
      | none => Up cb w e w' := by
  have HT := hide (fun W => implTPx (s.extract p s.size) (b : Int) W (by rw [ByteArray.size_extract]; unfold maxLen; omega))
  have hta : tpA (s.extract p s.size) (b : Int) = match tkP (dr s p) b with | some t => t | none => (0, 0, 0) := by
    unfold tpA
    rw [if_pos (by omega), Int.toNat_natCast, ext_dr]
    cases tkP (dr s p) b <;> rfl
  rw [hta] at HT
  clear hta
  have c0 := h.c0
  have c1 := h.c1
  have hlt := h.lt
  have HH := hide h
  have z0 : (0 : Int) ≤ (p : Int) := by omega
  have z1 : (p : Int) ≤ (s.size : Int) := by omega
  have z5 : IntKind.i64.wrap (p : Int) = (p : Int) := wraps_i64 _ (by omega) (by omega)
  have z6 : ((p : Int)).toNat = p := by omega
  have z7 : ((s.size : Int)).toNat = s.size := by omega
  clear h
  cases hk : tkP (dr s p) b with
  | none =>
    rw [hk] at HT
    dsimp only at HT ⊢
    go_enter Tryd.func54, Tryd.ntmps54
    go_upto_region 1 with fail
    go_region_with (go_at_call 58; refine (unhide HT _).mono ?_; rintro e w2 ⟨rfl, hb2⟩)
    all_goals
      have HB := hide ((below_drewN (Below.refl w.heap.size w) 1).trans hb2)
      clear hb2
      go_wp2
      exact ⟨rfl, 1, Or.inl rfl, rfl, Kx.of (unhide HB)⟩
  | some t =>
    obtain ⟨n, hh, k⟩ := t
    rw [hk] at HT
    dsimp only at HT ⊢
    obtain ⟨k1, k2, k3⟩ := tkP_k hk
    rw [dr_len] at k3
    have hkn : ¬ (k : Int) = 0 := by omega
    have hkb : ((k : Int) == 0) = false := beq_eq_false_iff_ne.2 hkn
    have E1 := hide (show ((p : Int) + (k : Int)) = ((p + k : Nat) : Int) by omega)
    clear hk
    go_enter Tryd.func54, Tryd.ntmps54
    go_upto_region 1 with fail
    go_cut [5, 6, 7] (fun x y z wx => x = .int .i64 (n : Int) ∧ y = .int .i64 (hh : Int) ∧ z = .int .i64 (k : Int) ∧ Hid (Below w.heap.size w wx))
    case first =>
      go_region_with (go_at_call 58; refine (unhide HT _).mono ?_; rintro e w2 ⟨rfl, hb2⟩)
      all_goals
        have HB := hide ((below_drewN (Below.refl w.heap.size w) 1).trans hb2)
        clear hb2
        go_wp2
        go_meet
        exact ⟨rfl, rfl, rfl, HB⟩
    case rest =>
    obtain ⟨rfl, rfl, rfl, HB⟩ := hcut
    obtain ⟨w2, hw2⟩ : ∃ V, V = wc := ⟨_, rfl⟩
    rw [← hw2] at HB ⊢
    clear hw2
    have H2 := hide ((unhide HH).below (unhide HB))
    have K2 := hide (Kx.of (cb := cb) (unhide HB))
    clear c0 c1 hlt
    have d0 := (unhide H2).c0
    have d1 := (unhide H2).c1
    have f1 := (unhide H2).fz 1
    have dl := (unhide H2).lt
    go_wp2
    go_ret
    refine ⟨rfl, ?_, (unhide K2).set 1 _⟩
    rw [unhide E1]
    exact (unhide H2).put
set_option maxHeartbeats 2000000 in
theorem implTX (cb p b : Nat) (s : ByteArray) (told : Int) (w : World) (hs : s.size ≤ 1048576) (hp : p ≤ s.size) (h0 : 3 ≤ b) (h1 : b ≤ 8) (h : Cc w cb s p told) :
    Calls Tryd.prog 46 #[.pointer (some ⟨cb, 0, none⟩), .int .i64 b] w fun e w' => match tkX (dr s p) b with
      | some (t, k) => e = .returned (.string t) ∧ Cc w' cb s (p + k) told ∧ Kx cb w w'
      | none => Up cb w e w' := by
  have HP := hide (implPx cb p b s told w hs hp h0 h1 h)
  clear h
  unfold tkX
  cases hk : tkP (dr s p) b with
  | none =>
    rw [hk] at HP
    dsimp only at HP ⊢
    go_enter Tryd.func46, Tryd.ntmps46
    go_wp2_with fail
    refine (unhide HP).mono ?_
    rintro e w1 ⟨c, hc, rfl, k1⟩
    go_wp2
    exact ⟨rfl, c, hc, rfl, k1⟩
  | some t =>
    obtain ⟨n, hh, k⟩ := t
    rw [hk] at HP
    dsimp only at HP ⊢
    obtain ⟨k1, k2, k3⟩ := tkP_k hk
    have k4 := k3
    rw [dr_len] at k4
    have hl := dr_len s p
    by_cases hlt : (dr s p).length < k + n
    · rw [if_pos hlt]
      go_enter Tryd.func46, Tryd.ntmps46
      go_wp2_with fail
      refine (unhide HP).mono ?_
      rintro e w1 ⟨rfl, h1, kx1⟩
      have K1 := hide kx1
      have HS := hide (take_short cb (p + k) (n : Int) s told w1 hs (by omega) (by omega) h1)
      clear h1 kx1
      go_wp2_with fail
      refine (unhide HS).mono ?_
      rintro e w2 ⟨rfl, b2⟩
      have K2 := hide ((unhide K1).trans (Kx.of b2))
      clear b2
      go_wp2
      exact ⟨rfl, 1, Or.inl rfl, rfl, unhide K2⟩
    · rw [if_neg hlt]
      dsimp only
      rw [ext_txt]
      go_enter Tryd.func46, Tryd.ntmps46
      go_wp2_with fail
      refine (unhide HP).mono ?_
      rintro e w1 ⟨rfl, h1, kx1⟩
      have K1 := hide kx1
      have HS := hide (take_ok cb (p + k) n s told w1 hs (by omega) h1)
      clear h1 kx1
      go_wp2_with fail
      refine (unhide HS).mono ?_
      rintro e w2 ⟨rfl, h2, kx2⟩
      have Z := hide (And.intro h2 ((unhide K1).trans kx2))
      clear h2 kx2
      go_wp2
      go_ret
      exact ⟨rfl, by rw [← Nat.add_assoc]; exact (unhide Z).1, (unhide Z).2⟩
end Go.Proofs.YtidgjjbdabifnabDoor.Rc
