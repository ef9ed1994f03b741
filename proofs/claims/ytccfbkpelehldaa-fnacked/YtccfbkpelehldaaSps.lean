/-
  Contract: GoodSpace of the model.
-/
import Derived.Test.YtccfbkpelehldaaSpc
import Derived.Test.YtccfbkpelehldaaRgc
import Derived.Test.YtccfbkpelehldaaOpSent
namespace Go.Proofs.Ytccfbkpelehldaa.Rc
open Go.ChangeShapes Go.WideShapes Go.ChangeAt Go.RowKit Go.Deep
set_option linter.unusedVariables false
set_option maxRecDepth 100000

/-- a packet's own numbers -/
def osB (x : SentD) : Bool := knB x.f0 && (tkB x.f1 && (decide (0 ≤ x.f2) && decide (x.f2 ≤ 1500)))
/-- a packet behind the one ahead of it -/
def orB (S : List SentD) (i : Nat) : Bool := osB (gt sentK S i) && decide (i = 0 ∨ ((gt sentK S (i - 1)).f0 < (gt sentK S i).f0 ∧ (gt sentK S (i - 1)).f1 ≤ (gt sentK S i).f1))
def allS (S : List SentD) : Bool := (List.range S.length).all (orB S)
/-- whether a space is good -/
def gsB (D : SpaceD) : Bool := allS D.S && ((decide (-1 ≤ D.lg) && decide (D.lg ≤ 4611686018427387903)) && (decide (D.S.length ≤ 60) && rtB D.r))
theorem allS_no {S : List SentD} {k : Nat} (hk : k < S.length) (h : orB S k = false) : allS S = false := by
  unfold allS
  rw [List.all_eq_false]
  exact ⟨k, List.mem_range.2 hk, by simp [h]⟩
theorem allS_yes {S : List SentD} (h : ∀ j, j < S.length → orB S j = true) : allS S = true := by
  unfold allS
  rw [List.all_eq_true]
  exact fun j hj => h j (List.mem_range.1 hj)
set_option maxHeartbeats 8000000 in
theorem specGS (D : SpaceD) (a : Option Addr) (c : Nat) (w : World) (hn : D.S.length ≤ 1048576) (h : RdSpace w a D) :
    Calls Try.prog 24 #[spaceV D a c] w fun e w' => e = .returned (.bool (gsB D)) ∧ Below w.heap.size w w' := by
  have HR := hide h
  have BX := hide (Bx.new w (spaceC D a c) 27)
  have B0 := hide ((Below.refl w.heap.size w).alloc (Nat.le_refl _) (.cells (spaceC D a c).toArray 27))
  clear h
  go_enter Try.func24, Try.ntmps24
  go_wp2_with fail
  go_loopw [8] (fun i wr => ∃ k : Nat, k ≤ D.S.length ∧ i = .int .i64 k ∧ Hid (∀ j, j < k → orB D.S j = true) ∧ Hid (Bx wr w.heap.size (spaceC D a c)) ∧ Hid (Below w.heap.size w wr)) (fun i _ => D.S.length - (intOf i).toNat)
  case atStart => exact ⟨0, Nat.zero_le _, rfl, fun j hj => absurd hj (Nat.not_lt_zero _), BX, B0⟩
  case round =>
    obtain ⟨k, hk, rfl, hok, hX, hB⟩ := hrel
    clear BX B0
    have hws := (unhide hX).lt
    by_cases hlt : k < D.S.length
    · rcases (unhide HR).below (unhide hB) with h0 | ⟨b, o, rfl, hbw, hel⟩
      · rw [h0] at hlt; exact absurd hlt (Nat.not_lt_zero _)
      have c0 := sent_r0 hel hlt
      have c1 := sent_r1 hel hlt
      have c2 := sent_r2 hel hlt
      have HK := hide (specKn (gt sentK D.S k).f0)
      have HT := hide (specTk (gt sentK D.S k).f1)
      have HI := hide (inB (gt sentK D.S k).f2 0 1500)
      have hos : Hid (osB (gt sentK D.S k) = (knB (gt sentK D.S k).f0 && (tkB (gt sentK D.S k).f1 && (decide (0 ≤ (gt sentK D.S k).f2) && decide ((gt sentK D.S k).f2 ≤ 1500))))) := rfl
      have hor : Hid (orB D.S k = (osB (gt sentK D.S k) && decide (k = 0 ∨ ((gt sentK D.S (k - 1)).f0 < (gt sentK D.S k).f0 ∧ (gt sentK D.S (k - 1)).f1 ≤ (gt sentK D.S k).f1)))) := rfl
      have xc := (unhide hX).cv
      obtain ⟨W, hW⟩ : ∃ W, W = wr.alloc (.cells #[.int .i64 (gt sentK D.S k).f0, .int .i64 (gt sentK D.S k).f1, .int .i64 (gt sentK D.S k).f2] 37) := ⟨_, rfl⟩
      have hAl : Below wr.heap.size wr W := by rw [hW]; exact (Below.refl _ _).alloc (Nat.le_refl _) _
      have RB := (show Bx W wr.heap.size (sentC (gt sentK D.S k)) by rw [hW]; exact Bx.new wr _ _)
      have XW := hide ((unhide hX).below hAl)
      have BW := hide ((unhide hB).trans (hAl.mono (unhide hB).size))
      have HW := hide hW
      have rc := RB.cv
      have rl := RB.lt
      have xw := (unhide XW).cv
      have xl := (unhide XW).lt
      have helW : ∀ q, q < D.S.length * sentK.m → W.cell? ⟨b, o + q, none⟩ = some (cl sentK D.S q) := fun q hq => (hAl.cell (p := ⟨b, o + q, none⟩) hbw).trans (hel q hq)
      clear hel hW RB hX hB
      generalize (decide (0 ≤ (gt sentK D.S k).f2) && decide ((gt sentK D.S k).f2 ≤ 1500)) = r2 at *
      generalize tkB (gt sentK D.S k).f1 = r1 at *
      generalize knB (gt sentK D.S k).f0 = r0 at *
      cases r0
      case false =>
        have HN : Hid (allS D.S = false) := allS_no hlt (by rw [unhide hor, unhide hos]; rfl)
        have HE : Hid (gsB D = false) := by show _ = _; unfold gsB; rw [unhide HN]; rfl
        clear hok HR hor hos helW hAl
        go_upto_region 4 with fail
        rw [← unhide HW]
        clear HW
        go_quiet ((first | (go_at_call 46; exact Calls.quiet_of_same (unhide HK _)) | (go_at_call 26; exact Calls.quiet_of_same (unhide HT _)) | (go_at_call 47; exact Calls.quiet_of_same (unhide HI _))))
        go_wp2
        go_ret
        exact ⟨by rw [unhide HE]; rfl, bdrew _ (unhide BW)⟩
      cases r1
      case false =>
        have HN : Hid (allS D.S = false) := allS_no hlt (by rw [unhide hor, unhide hos]; rfl)
        have HE : Hid (gsB D = false) := by show _ = _; unfold gsB; rw [unhide HN]; rfl
        clear hok HR hor hos helW hAl
        go_upto_region 4 with fail
        rw [← unhide HW]
        clear HW
        go_quiet ((first | (go_at_call 46; exact Calls.quiet_of_same (unhide HK _)) | (go_at_call 26; exact Calls.quiet_of_same (unhide HT _)) | (go_at_call 47; exact Calls.quiet_of_same (unhide HI _))))
        go_wp2
        go_ret
        exact ⟨by rw [unhide HE]; rfl, bdrew _ (unhide BW)⟩
      cases r2
      case false =>
        have HN : Hid (allS D.S = false) := allS_no hlt (by rw [unhide hor, unhide hos]; rfl)
        have HE : Hid (gsB D = false) := by show _ = _; unfold gsB; rw [unhide HN]; rfl
        clear hok HR hor hos helW hAl
        go_upto_region 4 with fail
        rw [← unhide HW]
        clear HW
        go_quiet ((first | (go_at_call 46; exact Calls.quiet_of_same (unhide HK _)) | (go_at_call 26; exact Calls.quiet_of_same (unhide HT _)) | (go_at_call 47; exact Calls.quiet_of_same (unhide HI _))))
        go_wp2
        go_ret
        exact ⟨by rw [unhide HE]; rfl, bdrew _ (unhide BW)⟩
      cases k with
      | zero =>
        have HY : Hid (∀ j, j < 0 + 1 → orB D.S j = true) := upto_succ (unhide hok) (by rw [unhide hor, unhide hos]; simp)
        simp only [Nat.zero_mul, Nat.add_zero] at c0 c1 c2
        clear hok HR hor hos helW hAl
        go_upto_region 4 with fail
        rw [← unhide HW]
        clear HW
        go_quiet ((first | (go_at_call 46; exact Calls.quiet_of_same (unhide HK _)) | (go_at_call 26; exact Calls.quiet_of_same (unhide HT _)) | (go_at_call 47; exact Calls.quiet_of_same (unhide HI _))))
        go_wp2
        exact ⟨⟨1, by omega, rfl, HY, (unhide XW).below (bdrew _ (Below.refl _ _)), bdrew _ (unhide BW)⟩, by simp [intOf]; omega⟩
      | succ j =>
        have p0 := sent_r0 helW (show j < D.S.length by omega)
        have p1 := sent_r1 helW (show j < D.S.length by omega)
        have wj : IntKind.i64.wrap (j : Int) = j := wraps_i64 _ (by omega) (by omega)
        have hj0 : (0 : Int) ≤ (j : Int) := by omega
        have hjn : (j : Int) < (D.S.length : Int) := by omega
        have hbW : b < W.heap.size := Nat.lt_of_lt_of_le hbw hAl.size
        have hor2 : Hid (orB D.S (j + 1) = decide ((gt sentK D.S j).f0 < (gt sentK D.S (j + 1)).f0 ∧ (gt sentK D.S j).f1 ≤ (gt sentK D.S (j + 1)).f1)) := by show _ = _; rw [unhide hor, unhide hos]; simp
        clear hor hos helW hAl
        generalize gt sentK D.S (j + 1) = y at *
        generalize gt sentK D.S j = x at *
        obtain ⟨x0, x1, x2⟩ := x
        obtain ⟨y0, y1, y2⟩ := y
        simp only at *
        by_cases g1 : x0 < y0
        · by_cases g2 : x1 ≤ y1
          · have HY : Hid (∀ i, i < j + 1 + 1 → orB D.S i = true) := upto_succ (unhide hok) (by rw [unhide hor2]; exact decide_eq_true ⟨g1, g2⟩)
            have d1 : decide (y0 ≤ x0) = false := decide_eq_false (by omega)
            have d2 : decide (y1 < x1) = false := decide_eq_false (by omega)
            clear hok HR hor2
            go_upto_region 4 with fail
            rw [← unhide HW]
            clear HW
            go_quiet ((first | (go_at_call 46; exact Calls.quiet_of_same (unhide HK _)) | (go_at_call 26; exact Calls.quiet_of_same (unhide HT _)) | (go_at_call 47; exact Calls.quiet_of_same (unhide HI _))))
            go_wp2
            exact ⟨⟨j + 2, by omega, by go_num, HY, (unhide XW).below (bdrew _ (Below.refl _ _)), bdrew _ (unhide BW)⟩, by simp [intOf]; omega⟩
          · have HN : Hid (allS D.S = false) := allS_no hlt (by rw [unhide hor2]; exact decide_eq_false (fun h => g2 h.2))
            have HE : Hid (gsB D = false) := by show _ = _; unfold gsB; rw [unhide HN]; rfl
            have d1 : decide (y0 ≤ x0) = false := decide_eq_false (by omega)
            have d2 : decide (y1 < x1) = true := decide_eq_true (by omega)
            clear hok HR hor2
            go_upto_region 4 with fail
            rw [← unhide HW]
            clear HW
            go_quiet ((first | (go_at_call 46; exact Calls.quiet_of_same (unhide HK _)) | (go_at_call 26; exact Calls.quiet_of_same (unhide HT _)) | (go_at_call 47; exact Calls.quiet_of_same (unhide HI _))))
            go_wp2
            go_ret
            exact ⟨by rw [unhide HE]; rfl, bdrew _ (unhide BW)⟩
        · have HN : Hid (allS D.S = false) := allS_no hlt (by rw [unhide hor2]; exact decide_eq_false (fun h => g1 h.1))
          have HE : Hid (gsB D = false) := by show _ = _; unfold gsB; rw [unhide HN]; rfl
          have d1 : decide (y0 ≤ x0) = true := decide_eq_true (by omega)
          clear hok HR hor2
          go_upto_region 4 with fail
          rw [← unhide HW]
          clear HW
          go_quiet ((first | (go_at_call 46; exact Calls.quiet_of_same (unhide HK _)) | (go_at_call 26; exact Calls.quiet_of_same (unhide HT _)) | (go_at_call 47; exact Calls.quiet_of_same (unhide HI _))))
          go_wp2
          go_ret
          exact ⟨by rw [unhide HE]; rfl, bdrew _ (unhide BW)⟩
    · have HA : Hid (allS D.S = true) := allS_yes (fun j hj => unhide hok j (by omega))
      have HE : Hid (gsB D = ((decide (-1 ≤ D.lg) && decide (D.lg ≤ 4611686018427387903)) && (decide (D.S.length ≤ 60) && rtB D.r))) := by show _ = _; unfold gsB; rw [unhide HA]; rfl
      have HI := hide (inB D.lg (-1) 4611686018427387903)
      have HT := hide (specRt D.r)
      have xc := (unhide hX).cv
      clear hok HA HR
      generalize (decide (-1 ≤ D.lg) && decide (D.lg ≤ 4611686018427387903)) = r0 at *
      generalize rtB D.r = r2 at *
      cases r0
      case false =>
        go_wp2_with (go_at_call 47; refine (unhide HI _).mono ?_; rintro e w9 ⟨rfl, h9⟩; rw [h9]; clear h9 w9)
        go_ret
        exact ⟨by rw [unhide HE]; rfl, unhide hB⟩
      by_cases h60 : D.S.length ≤ 60
      · have g9 : (D.S.length : Int) ≤ 60 := by omega
        have HE2 : Hid (gsB D = r2) := by show _ = _; rw [unhide HE, decide_eq_true h60]; rfl
        clear h60
        go_wp2_with (go_at_call 47; refine (unhide HI _).mono ?_; rintro e w9 ⟨rfl, h9⟩; rw [h9]; clear h9 w9)
        refine (unhide HT _).mono ?_
        rintro e w1 ⟨rfl, b1⟩
        have B1 := hide ((unhide hB).trans (b1.mono (unhide hB).size))
        clear b1
        go_wp2
        go_ret
        exact ⟨by rw [unhide HE2]; rfl, unhide B1⟩
      · have g9 : ¬ (D.S.length : Int) ≤ 60 := by omega
        have HE2 : Hid (gsB D = false) := by show _ = _; rw [unhide HE, decide_eq_false h60]; rfl
        clear h60
        go_wp2_with (go_at_call 47; refine (unhide HI _).mono ?_; rintro e w9 ⟨rfl, h9⟩; rw [h9]; clear h9 w9)
        go_ret
        exact ⟨by rw [unhide HE2]; rfl, unhide hB⟩
end Go.Proofs.Ytccfbkpelehldaa.Rc
