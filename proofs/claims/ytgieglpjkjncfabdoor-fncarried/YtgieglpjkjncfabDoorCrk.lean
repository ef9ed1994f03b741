/-
  Contracts: ReadCarried of both sides.
-/
import Derived.Test.YtgieglpjkjncfabDoorCrd
namespace Go.Proofs.YtgieglpjkjncfabDoor.Rc
open Go.ChangeShapes Go.WideShapes Go.ChangeAt Go.RowKit Go.Deep
set_option linter.unusedVariables false
set_option maxRecDepth 100000

theorem rkO_z {s : ByteArray} {D : CarriedD} (h : ckO s (tk (dr s 0)) = some (some D)) : D.f2.size ≤ s.size := by
  unfold ckO at h
  split at h
  · cases h
  · split at h
    · cases h
    · split at h
      · cases h
      · injection h with h
        injection h with h
        rw [← h]
        unfold rkD
        show (s.extract _ _).size ≤ _
        rw [ByteArray.size_extract]
        omega
/-- the boxes of ReadCarried: the answer, the text's row, the cursor, its pointer, what it told -/
def wR (s : ByteArray) (w : World) : World := (((((w.alloc (.cells #[.int .i64 0, .int .i64 0, .string ⟨#[]⟩] 38)).alloc (.cells #[.string s] 9)).alloc (.cells #[.string s, .int .i64 0, .int .i64 0] 64)).alloc (.cells #[.pointer (some ⟨w.heap.size + 1 + 1, 0, none⟩)] 62)).alloc (.cells #[.int .i64 0, .int .i64 0, .string ⟨#[]⟩] 38))
theorem wR_size (s : ByteArray) (w : World) : (wR s w).heap.size = w.heap.size + 1 + 1 + 1 + 1 + 1 := by unfold wR; simp
theorem wR_below (s : ByteArray) (w : World) : Below w.heap.size w (wR s w) := by
  unfold wR
  exact (((((Below.refl _ _).alloc (Nat.le_refl _) _).alloc (by simp) _).alloc (by simp; omega) _).alloc (by simp; omega) _).alloc (by simp; omega) _
theorem wR_b0 (s : ByteArray) (w : World) : Bx ((wR s w).alloc (.cells #[.int .i64 0] 3)) w.heap.size (carriedC zD) := by
  unfold wR
  exact (Bx.new w [.int .i64 0, .int .i64 0, .string ⟨#[]⟩] _).alloc _ |>.alloc _ |>.alloc _ |>.alloc _ |>.alloc _
theorem wR_b2 (s : ByteArray) (w : World) : Bx ((wR s w).alloc (.cells #[.int .i64 0] 3)) (w.heap.size + 1 + 1) [.string s, .int .i64 0, .int .i64 0] := by
  unfold wR
  exact (Bx.newAt ((w.alloc (.cells #[.int .i64 0, .int .i64 0, .string ⟨#[]⟩] 38)).alloc (.cells #[.string s] 9)) _ [.string s, .int .i64 0, .int .i64 0] _ (by simp)).alloc _ |>.alloc _ |>.alloc _
theorem wR_b3 (s : ByteArray) (w : World) : Bx ((wR s w).alloc (.cells #[.int .i64 0] 3)) (w.heap.size + 1 + 1 + 1) [.pointer (some ⟨w.heap.size + 1 + 1, 0, none⟩)] := by
  unfold wR
  exact (Bx.newAt _ _ [.pointer (some ⟨w.heap.size + 1 + 1, 0, none⟩)] _ (by simp)).alloc _ |>.alloc _
theorem wR_b4 (s : ByteArray) (w : World) : Bx ((wR s w).alloc (.cells #[.int .i64 0] 3)) (w.heap.size + 1 + 1 + 1 + 1) (carriedC zD) := by
  unfold wR
  exact (Bx.newAt _ _ [.int .i64 0, .int .i64 0, .string ⟨#[]⟩] _ (by simp)).alloc _
set_option maxHeartbeats 8000000 in
theorem implRK (s : ByteArray) (w : World) (hs : s.size ≤ 1048576) :
    Calls Tryd.prog 16 #[.string s] w fun e w' => RkP (rkO s) e ∧ Below w.heap.size w w' := by
  have hmf : ∀ (fn : Fn) (first cap : Array Value) (w : World), (Instr.makeFunc fn first cap).run Tryd.prog w = .ok (.func fn first cap) w := fun _ _ _ _ => rfl
  have HW := hide (fun W g c hc => within_one s 1500 (by omega) hs W g c hc)
  unfold rkO
  by_cases hc : s.size ≤ 1500
  · rw [if_pos hc]
    rw [decide_eq_true hc] at HW
    have zF := wR_size s w
    have hz0 : ((wR s w).alloc (.cells #[.int .i64 0] 3)).heap.size = w.heap.size + 1 + 1 + 1 + 1 + 1 + 1 := by simp [zF]
    have b2 := wR_b2 s w
    have HL := hide (implR1 (w.heap.size + 1 + 1) (w.heap.size + 1 + 1 + 1) (w.heap.size + 1 + 1 + 1 + 1) s ((wR s w).alloc (.cells #[.int .i64 0] 3)) hs (by omega) ⟨b2.lt, b2.cv 0, b2.cv 1, b2.cv 2, b2.fz⟩ (wR_b3 s w) (wR_b4 s w))
    have HZ := hide (fun D (h : ckO s (tk (dr s 0)) = some (some D)) => rkO_z h)
    obtain ⟨o, ho⟩ : ∃ o, ckO s (tk (dr s 0)) = o := ⟨_, rfl⟩
    rw [ho] at HL HZ ⊢
    clear ho b2
    have HK := hide (fun (w1 : World) (hk : Kq (fun q => q = w.heap.size + 1 + 1 ∨ q = w.heap.size + 1 + 1 + 1 + 1) ((wR s w).alloc (.cells #[.int .i64 0] 3)) w1) => show w1.cell? ⟨(wR s w).heap.size, 0, none⟩ = some (.int .i64 0) ∧ w1.frozen? ⟨(wR s w).heap.size, 0, none⟩ = false from ⟨((Bx.new (wR s w) [.int .i64 0] 3).kept hk.size (hk.block _ (by simp) (by rw [zF]; omega))).cv 0, ((Bx.new (wR s w) [.int .i64 0] 3).kept hk.size (hk.block _ (by simp) (by rw [zF]; omega))).fz 0⟩)
    have HB := hide (wR_below s w)
    have HE := hide (fun (w1 : World) (c : Int) (hk : Kq (fun q => q = w.heap.size + 1 + 1 ∨ q = w.heap.size + 1 + 1 + 1 + 1) ((wR s w).alloc (.cells #[.int .i64 0] 3)) w1) => show Below w.heap.size w (w1.setCell ⟨(wR s w).heap.size, 0, none⟩ (.int .i64 c)) ∧ Bx (w1.setCell ⟨(wR s w).heap.size, 0, none⟩ (.int .i64 c)) w.heap.size (carriedC zD) from
      ⟨((((unhide HB).alloc (by rw [zF]; omega) _).trans (hk.below (by rw [hz0]; omega) (fun q hq => by omega)) |>.setCell (by show _ ≤ (wR s w).heap.size; rw [zF]; omega) _)), ((wR_b0 s w).kept hk.size (hk.block _ (wR_b0 s w).lt (by omega))).other (by omega)⟩)
    have HF := hide (frk #[.pointer (some ⟨w.heap.size + 1 + 1 + 1, 0, none⟩), .pointer (some ⟨w.heap.size + 1 + 1 + 1 + 1, 0, none⟩)] (wR s w)
      (fun c w' => (c = 0 ∨ c = 1 ∨ c = 3) ∧ (∀ D, o = some (some D) → c = 0 ∧ Bx w' (w.heap.size + 1 + 1 + 1 + 1) (carriedC D)) ∧ ((∀ D, o ≠ some (some D)) → c ≠ 0) ∧ Kq (fun q => q = w.heap.size + 1 + 1 ∨ q = w.heap.size + 1 + 1 + 1 + 1) ((wR s w).alloc (.cells #[.int .i64 0] 3)) w' ∧ ∃ D, Bx w' (w.heap.size + 1 + 1 + 1 + 1) (carriedC D))
      (fun c w' ⟨_, _, _, hk, _⟩ => unhide HK _ hk)
      ((unhide HL).mono (fun e w' ⟨c, he, h⟩ => ⟨c, he, h⟩)))
    clear HL hc
    go_enter Tryd.func16, Tryd.ntmps16
    go_wp2_with fail
    refine (unhide HW _ _ _ (by simp)).mono ?_
    rintro e w9 ⟨rfl, h9⟩
    rw [h9]
    clear h9 w9 HW
    go_upto_region 5 with fail
    go_wp2_with fail
    refine (unhide HF).mono ?_
    rintro e w2 ⟨c, rfl, w1, ⟨hc3, hD, hN, k1, ⟨D0, X0⟩⟩, rfl⟩
    obtain ⟨B, R⟩ := unhide HE w1 c k1
    have X2 := X0.other (c := (wR s w).heap.size) (i := 0) (u := .int .i64 c) (by omega)
    have HD := hide (fun D (h : o = some (some D)) => show c = 0 ∧ Bx (w1.setCell ⟨(wR s w).heap.size, 0, none⟩ (.int .i64 c)) (w.heap.size + 1 + 1 + 1 + 1) (carriedC D) from ⟨(hD D h).1, (hD D h).2.other (by omega)⟩)
    generalize w1.setCell ⟨(wR s w).heap.size, 0, none⟩ (.int .i64 c) = w3 at B R X2 HD ⊢
    have HBB := hide B
    have HRR := hide R
    have HN := hide hN
    clear k1 HK HE HF HB B R X0 hD hN zF hz0
    have HW3 := hide (show ∀ (W : World), Below w.heap.size w W → ∀ u0 u1 u2, Below w.heap.size w (((W.setCell ⟨w.heap.size, 0, none⟩ u0).setCell ⟨w.heap.size, 1, none⟩ u1).setCell ⟨w.heap.size, 2, none⟩ u2) from fun W h u0 u1 u2 => ((h.setCell (Nat.le_refl _) _).setCell (Nat.le_refl _) _).setCell (Nat.le_refl _) _)
    have bad : (∀ D, o ≠ some (some D)) → rkB o = none := fun h => by
      cases o with
      | none => rfl
      | some x => cases x with
        | none => rfl
        | some D => exact absurd rfl (h D)
    by_cases hy : ∃ D, o = some (some D)
    · obtain ⟨D, rfl⟩ := hy
      obtain ⟨rfl, XD⟩ := unhide HD D rfl
      have HG := hide (fun W => implGK D (Nat.le_trans (unhide HZ D rfl) hs) W)
      have HX := hide XD
      have q0 := XD.cv 0
      have q1 := XD.cv 1
      have q2 := XD.cv 2
      have ql := XD.lt
      clear bad hc3 HD HN HZ X2 XD
      have HE : Hid (rkB (some (some D)) = if gdK D = true then some D else none) := rfl
      cases hg : gdK D with
      | true =>
        rw [hg] at HG HE
        clear hg
        go_wp2_with fail
        refine (unhide HG _).mono ?_
        rintro e w4 ⟨rfl, b4⟩
        have HB4 := hide ((unhide HBB).trans (b4.mono (unhide HBB).size))
        have HX4 := hide ((unhide HX).below b4)
        have HR4 := hide ((unhide HRR).below b4)
        clear b4 q0 q1 q2 ql HG HX HRR HBB
        have q0 := (unhide HX4).cv 0
        have q1 := (unhide HX4).cv 1
        have q2 := (unhide HX4).cv 2
        have ql := (unhide HX4).lt
        have p0 := (unhide HR4).cv 0
        have p1 := (unhide HR4).cv 1
        have p2 := (unhide HR4).cv 2
        have pl := (unhide HR4).lt
        have pf := (unhide HR4).fz
        go_wp2_with fail
        refine bodyPost_ret (v := .tuple #[carriedV D, .bool true]) (by simp [results, Tryd.results16, go_sem, p0, p1, p2]) rfl ?_
        rw [unhide HE]
        exact ⟨rfl, unhide HW3 _ (unhide HB4) _ _ _⟩
      | false =>
        rw [hg] at HG HE
        clear hg
        go_wp2_with fail
        refine (unhide HG _).mono ?_
        rintro e w4 ⟨rfl, b4⟩
        have HB4 := hide ((unhide HBB).trans (b4.mono (unhide HBB).size))
        have HR4 := hide ((unhide HRR).below b4)
        clear b4 q0 q1 q2 ql HG HX HRR HBB
        have p0 := (unhide HR4).cv 0
        have p1 := (unhide HR4).cv 1
        have p2 := (unhide HR4).cv 2
        have pl := (unhide HR4).lt
        have pf := (unhide HR4).fz
        go_wp2_with fail
        refine bodyPost_ret (v := .tuple #[carriedV zD, .bool false]) (by simp [results, Tryd.results16, go_sem, p0, p1, p2]) rfl ?_
        rw [unhide HE]
        exact ⟨rfl, unhide HW3 _ (unhide HB4) _ _ _⟩
    · have hne : ∀ D, o ≠ some (some D) := fun D h => hy ⟨D, h⟩
      have HE := hide (bad hne)
      have hc0 := unhide HN hne
      have hcb : (c != 0) = true := by simpa using hc0
      have p0 := (unhide HRR).cv 0
      have p1 := (unhide HRR).cv 1
      have p2 := (unhide HRR).cv 2
      have pl := (unhide HRR).lt
      have pf := (unhide HRR).fz
      clear bad hc3 HD HN HZ X2 hy hne
      go_wp2_with fail
      refine bodyPost_ret (v := .tuple #[carriedV zD, .bool false]) (by simp [results, Tryd.results16, go_sem, p0, p1, p2]) rfl ?_
      rw [unhide HE]
      exact ⟨rfl, unhide HW3 _ (unhide HBB) _ _ _⟩
  · rw [if_neg hc]
    rw [decide_eq_false hc] at HW
    have HA := hide (show ∀ u0 u1 u2, Below w.heap.size w (((((w.alloc (.cells #[.int .i64 0, .int .i64 0, .string ⟨#[]⟩] 38)).alloc (.cells #[.string s] 9)).setCell ⟨w.heap.size, 0, none⟩ u0).setCell ⟨w.heap.size, 1, none⟩ u1).setCell ⟨w.heap.size, 2, none⟩ u2) from fun u0 u1 u2 => ((((((Below.refl _ _).alloc (Nat.le_refl _) _).alloc (by simp) _).setCell (Nat.le_refl _) _).setCell (Nat.le_refl _) _).setCell (Nat.le_refl _) _))
    clear hc
    go_enter Tryd.func16, Tryd.ntmps16
    go_wp2_with fail
    refine (unhide HW _ _ _ (by simp)).mono ?_
    rintro e w9 ⟨rfl, h9⟩
    rw [h9]
    clear h9 w9 HW
    go_wp2_with fail
    refine bodyPost_ret (v := .tuple #[carriedV zD, .bool false]) (by simp [results, Tryd.results16, go_sem]) rfl ?_
    exact ⟨rfl, ((Below.refl _ _).alloc (Nat.le_refl _) _).alloc (by simp) _⟩
end Go.Proofs.YtgieglpjkjncfabDoor.Rc
