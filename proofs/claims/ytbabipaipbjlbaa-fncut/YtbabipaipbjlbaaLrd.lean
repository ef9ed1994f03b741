/-
  Contracts: the model's reader over a text: bytes taken, or a code kept; numbers of several bytes; an id.
-/
import Derived.Test.YtbabipaipbjlbaaCrb
namespace Go.Proofs.Ytbabipaipbjlbaa
open Go.ChangeShapes Go.WideShapes Go.ChangeAt Go.RowKit
set_option linter.unusedVariables false
set_option maxRecDepth 100000

/-- the model's reader at rb: its text, where it is, its code -/
structure Lr (w : World) (rb : Nat) (s : ByteArray) (p : Nat) (code : Int) : Prop where
  lt : rb < w.heap.size
  c0 : w.cell? ⟨rb, 0, none⟩ = some (.string s)
  c1 : w.cell? ⟨rb, 1, none⟩ = some (.int .i64 (p : Int))
  c2 : w.cell? ⟨rb, 2, none⟩ = some (.int .i64 code)
  fz : ∀ o, w.frozen? ⟨rb, o, none⟩ = false
theorem Lr.below {w w' : World} {rb p : Nat} {s : ByteArray} {code : Int} (h : Lr w rb s p code) (hb : Below w.heap.size w w') : Lr w' rb s p code := by
  obtain ⟨hc, hf⟩ := bcell hb
  exact ⟨Nat.lt_of_lt_of_le h.lt hb.size, (hc _ _ h.lt).trans h.c0, (hc _ _ h.lt).trans h.c1, (hc _ _ h.lt).trans h.c2, fun o => (hf _ _ h.lt).trans (h.fz o)⟩
theorem Lr.put {w : World} {rb p : Nat} {s : ByteArray} {code : Int} (h : Lr w rb s p code) (q : Nat) : Lr (w.setCell ⟨rb, 1, none⟩ (.int .i64 (q : Int))) rb s q code := by
  refine ⟨by simpa using h.lt, ?_, World.cell?_setCell_same _ _ _ h.c1, ?_, fun o => by simp [h.fz]⟩
  · rw [World.cell?_setCell_other _ _ _ _ (by simp)]; exact h.c0
  · rw [World.cell?_setCell_other _ _ _ _ (by simp)]; exact h.c2
theorem Lr.note {w : World} {rb p : Nat} {s : ByteArray} {code : Int} (h : Lr w rb s p code) (c : Int) : Lr (w.setCell ⟨rb, 2, none⟩ (.int .i64 c)) rb s p c := by
  refine ⟨by simpa using h.lt, ?_, ?_, World.cell?_setCell_same _ _ _ h.c2, fun o => by simp [h.fz]⟩
  · rw [World.cell?_setCell_other _ _ _ _ (by simp)]; exact h.c0
  · rw [World.cell?_setCell_other _ _ _ _ (by simp)]; exact h.c1

theorem l1In_m (n lo hi : Int) (w : World) : Calls Try.prog 34 #[.int .i64 n, .int .i64 lo, .int .i64 hi] w fun e w' => e = .returned (.bool (decide (lo ≤ n) && decide (n ≤ hi))) ∧ w' = w := by
  by_cases h0 : lo ≤ n
  · by_cases h1 : n ≤ hi
    · go_enter Try.func34, Try.ntmps34
      go_wp2
      go_ret
      exact ⟨by rw [decide_eq_true h0, decide_eq_true h1]; rfl, rfl⟩
    · go_enter Try.func34, Try.ntmps34
      go_wp2
      go_ret
      exact ⟨by rw [show decide (n ≤ hi) = false from decide_eq_false (by omega)]; rfl, rfl⟩
  · go_enter Try.func34, Try.ntmps34
    go_wp2
    go_ret
    exact ⟨by rw [show decide (lo ≤ n) = false from decide_eq_false (by omega)]; rfl, rfl⟩

set_option maxHeartbeats 1000000 in
theorem l1BigS_any (s : ByteArray) (w : World) (hs : s.size ≤ 1048576) :
    Calls Try.prog 81 #[.string s] w fun e w' => e = .returned (.int .i64 (big 0 s.data.toList)) ∧ w' = w := by
  go_enter Try.func81, Try.ntmps81
  go_wp2_with fail
  go_loopw [3, 4] (fun n i wr => ∃ k : Nat, k ≤ s.size ∧ i = .int .i64 k ∧ n = .int .i64 (big 0 (s.data.toList.take k)) ∧ wr = w) (fun _ i _ => s.size - (intOf i).toNat)
  case atStart => exact ⟨0, by omega, rfl, rfl, rfl⟩
  case round =>
    obtain ⟨k, hk, rfl, rfl, rfl⟩ := hrel
    by_cases hlt : k < s.size
    · have HS : Hid (big 0 (s.data.toList.take (k + 1)) = st (big 0 (s.data.toList.take k)) s[k]) := by rw [take_snoc s k (by omega), big_snoc]; exact rfl
      go_wp2
      exact ⟨⟨k + 1, by omega, by go_num, by rw [HS.out]; rfl, by first | trivial | rfl⟩, by simp [intOf]; omega⟩
    · have HK : Hid (s.data.toList.take k = s.data.toList) := List.take_of_length_le (by simp; omega)
      go_wp2
      go_ret
      exact ⟨by rw [HK.out]; rfl, rfl⟩

theorem big_nil : big 0 (⟨#[]⟩ : ByteArray).data.toList = 0 := rfl
theorem st0 (c : UInt8) : st 0 c = (c.toNat : Int) := by
  have key : ∀ k : Fin 256, bits .or .i64 (wrap64 (0 * 256)) (wrap64 (k.val : Int)) = (k.val : Int) := by decide +kernel
  exact key ⟨c.toNat, c.toNat_lt⟩
theorem one_list (t : ByteArray) (h : t.size = 1) : t.data.toList = [t[0]] := by
  have hl : t.data.toList.length = 1 := by simpa using h
  match e : t.data.toList, hl with
  | [c], _ =>
    have : t.data.toList[0]'(by rw [e]; simp) = c := by simp [e]
    rw [← this]
    rfl
theorem big_single (c : UInt8) : big 0 [c] = st 0 c := by
  have h := big_snoc 0 [] c
  rw [List.nil_append] at h
  exact h
theorem big_one (s : ByteArray) (p : Nat) (h : p < s.size) : big 0 (s.extract p (p + 1)).data.toList = at8 s p := by
  have hz : (s.extract p (p + 1)).size = 1 := piece_size s p 1 h
  have e := piece_at s p 1 0 h (by omega) (by omega)
  rw [one_list _ hz, big_single, st0]
  exact e

set_option maxHeartbeats 1000000 in
theorem takeM_ok (rb p n : Nat) (s : ByteArray) (w : World) (hs : s.size ≤ 1048576) (hn : p + n ≤ s.size) (h : Lr w rb s p 0) :
    Calls Try.prog 82 #[.pointer (some ⟨rb, 0, none⟩), .int .i64 n] w fun e w' => e = .returned (.string (s.extract p (p + n))) ∧ Lr w' rb s (p + n) 0 ∧ Kx rb w w' := by
  have c0 := h.c0
  have c1 := h.c1
  have c2 := h.c2
  have f1 := h.fz 1
  have hlt := h.lt
  have HH := hide h
  clear h
  go_enter Try.func82, Try.ntmps82
  have z0 : (0 : Int) ≤ (p : Int) := by omega
  have z1 : (p : Int) ≤ (p : Int) + (n : Int) := by omega
  have z2 : (p : Int) + (n : Int) ≤ (s.size : Int) := by omega
  have z4 : (0 : Int) ≤ (p : Int) + (n : Int) := by omega
  have z5 : IntKind.i64.wrap (p : Int) = (p : Int) := wraps_i64 _ (by omega) (by omega)
  have z6 : ((p : Int) + (n : Int)).toNat = p + n := by omega
  go_wp2_with fail
  go_quiet (fail)
  all_goals
    go_wp2_with fail
    have e1 : ((p : Int) + (n : Int)) = ((p + n : Nat) : Int) := by omega
    have H1 : Hid (Lr ((w.drewN nq).setCell ⟨rb, 1, none⟩ (.int .i64 ((p : Int) + (n : Int)))) rb s (p + n) 0) := by rw [e1]; exact ((unhide HH).below (below_drewN (Below.refl _ _) _)).put _
    have K1 : Hid (Kx rb w ((w.drewN nq).setCell ⟨rb, 1, none⟩ (.int .i64 ((p : Int) + (n : Int))))) := (Kx.of (below_drewN (Below.refl _ _) _)).set 1 _
    generalize (w.drewN nq).setCell ⟨rb, 1, none⟩ (.int .i64 ((p : Int) + (n : Int))) = w1 at H1 K1 ⊢
    have d0 := (unhide H1).c0
    have d1 := (unhide H1).c1
    rw [← e1] at d1
    clear e1 c0 c1 c2 f1 HH nq
    go_quiet (fail)
    all_goals
      go_wp2
      go_ret
      exact ⟨rfl, (unhide H1).below (below_drewN (Below.refl _ _) _), (unhide K1).trans (Kx.of (below_drewN (Below.refl _ _) _))⟩
set_option maxHeartbeats 1000000 in
theorem takeM_short (rb p : Nat) (n : Int) (s : ByteArray) (w : World) (hs : s.size ≤ 1048576) (hp : p ≤ s.size) (hn : (s.size : Int) - p < n) (h : Lr w rb s p 0) :
    Calls Try.prog 82 #[.pointer (some ⟨rb, 0, none⟩), .int .i64 n] w fun e w' => e = .returned (.string ⟨#[]⟩) ∧ Lr w' rb s p 1 ∧ Kx rb w w' := by
  have c0 := h.c0
  have c1 := h.c1
  have c2 := h.c2
  have f2 := h.fz 2
  have hlt := h.lt
  have HH := hide h
  clear h
  go_enter Try.func82, Try.ntmps82
  go_wp2_with fail
  go_quiet (fail)
  all_goals
    go_wp2
    go_ret
    exact ⟨rfl, ((unhide HH).below (below_drewN (Below.refl _ _) _)).note 1, (Kx.of (below_drewN (Below.refl _ _) _)).set 2 _⟩
set_option maxHeartbeats 1000000 in
theorem takeM_code (rb p : Nat) (n c : Int) (s : ByteArray) (w : World) (hc : (c == 0) = false) (h : Lr w rb s p c) :
    Calls Try.prog 82 #[.pointer (some ⟨rb, 0, none⟩), .int .i64 n] w fun e w' => e = .returned (.string ⟨#[]⟩) ∧ Lr w' rb s p c ∧ Kx rb w w' := by
  have c2 := h.c2
  have hc2 : (c != 0) = true := by rw [bne, hc]; rfl
  have hlt := h.lt
  have HH := hide h
  clear h
  go_enter Try.func82, Try.ntmps82
  go_wp2_with fail
  go_quiet (fail)
  all_goals
    go_wp2
    go_ret
    exact ⟨rfl, (unhide HH).below (below_drewN (Below.refl _ _) _), Kx.of (below_drewN (Below.refl _ _) _)⟩
end Go.Proofs.Ytbabipaipbjlbaa
