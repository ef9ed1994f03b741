/-
  Contracts: packets of the program: whether they are good, one by one, one behind the other, and whether a space is.
-/
import Derived.Test.YtccfbkpelehldaaSps
import Derived.Test.YtccfbkpelehldaaIrt
import Derived.Test.YtccfbkpelehldaaOpSpace
import Derived.Deep.RegionLaw
import Derived.Deep.RegionHeld3
namespace Go.Proofs.Ytccfbkpelehldaa.Rc
open Go.ChangeShapes Go.WideShapes Go.ChangeAt Go.RowKit Go.Deep
set_option linter.unusedVariables false
set_option maxRecDepth 100000

set_option maxHeartbeats 2000000 in
theorem implOs (x : SentD) (w : World) : Calls Try.prog 50 #[sentV x] w fun e w' => e = .returned (.bool (osB x)) ∧ Below w.heap.size w w' := by
  obtain ⟨x0, x1, x2⟩ := x
  have I := hide (btw 0 x0 4611686018427387903)
  have T1 := hide (implTk x1)
  have T2 := hide (btw 0 x2 1500)
  have HE : Hid (osB ⟨x0, x1, x2⟩ = ((decide (0 ≤ x0) && decide (x0 ≤ 4611686018427387903)) && (tkB x1 && (decide (0 ≤ x2) && decide (x2 ≤ 1500))))) := rfl
  rw [unhide HE]
  clear HE
  generalize (decide (0 ≤ x0) && decide (x0 ≤ 4611686018427387903)) = r0 at *
  generalize tkB x1 = r1 at *
  generalize (decide (0 ≤ x2) && decide (x2 ≤ 1500)) = r2 at *
  cases r0
  case false =>
    go_enter Try.func50, Try.ntmps50
    go_wp2_with (first | (go_at_call 31; with_reducible refine (unhide I _).mono ?_; rintro e w1 ⟨rfl, h9⟩; rw [h9]; clear h9 w1))
    go_ret
    exact ⟨rfl, (Below.refl _ _).alloc (Nat.le_refl _) _⟩
  cases r1
  case false =>
    go_enter Try.func50, Try.ntmps50
    go_wp2_with (first | (go_at_call 31; with_reducible refine (unhide I _).mono ?_; rintro e w1 ⟨rfl, h9⟩; rw [h9]; clear h9 w1) | (go_at_call 14; with_reducible refine (unhide T1 _).mono ?_; rintro e w1 ⟨rfl, h9⟩; rw [h9]; clear h9 w1))
    go_ret
    exact ⟨rfl, (Below.refl _ _).alloc (Nat.le_refl _) _⟩
  go_enter Try.func50, Try.ntmps50
  go_wp2_with (first | (go_at_call 31; with_reducible refine (unhide I _).mono ?_; rintro e w1 ⟨rfl, h9⟩; rw [h9]; clear h9 w1) | (go_at_call 14; with_reducible refine (unhide T1 _).mono ?_; rintro e w1 ⟨rfl, h9⟩; rw [h9]; clear h9 w1) | (go_at_call 31; with_reducible refine (unhide T2 _).mono ?_; rintro e w1 ⟨rfl, h9⟩; rw [h9]; clear h9 w1))
  go_ret
  exact ⟨rfl, (Below.refl _ _).alloc (Nat.le_refl _) _⟩
/-- whether a packet follows the first n -/
def foB (S : List SentD) (n : Nat) (x : SentD) : Bool := decide (n = 0 ∨ ((gt sentK S (n - 1)).f0 < x.f0 ∧ (gt sentK S (n - 1)).f1 ≤ x.f1))
set_option maxHeartbeats 2000000 in
theorem implFo (a : Option Addr) (n c : Nat) (S : List SentD) (x : SentD) (w : World) (hn : n ≤ S.length) (hs : S.length ≤ 1048576) (h : Rd sentK w a S) :
    Calls Try.prog 51 #[sentV x, .slice a n c] w fun e w' => e = .returned (.bool (foB S n x)) ∧ Below w.heap.size w w' := by
  cases n with
  | zero =>
    go_enter Try.func51, Try.ntmps51
    go_wp2
    go_ret
    exact ⟨rfl, (Below.refl _ _).alloc (Nat.le_refl _) _⟩
  | succ k =>
    rcases h with h0 | ⟨b, o, rfl, hb, hel⟩
    · rw [h0] at hn; exact absurd hn (by simp)
    have hb2 : b ≠ w.heap.size := by omega
    have c0 := sent_r0 hel (show k < S.length by omega)
    have c1 := sent_r1 hel (show k < S.length by omega)
    have c2 := sent_r2 hel (show k < S.length by omega)
    have wk : IntKind.i64.wrap (k : Int) = k := wraps_i64 _ (by omega) (by omega)
    have hk0 : (0 : Int) ≤ (k : Int) := by omega
    have hkb : k ≤ 1048576 := by omega
    have HE : Hid (foB S (k + 1) x = decide ((gt sentK S k).f0 < x.f0 ∧ (gt sentK S k).f1 ≤ x.f1)) := by
      show _ = _
      unfold foB
      simp
    rw [unhide HE]
    clear hel HE hn hs
    generalize gt sentK S k = y at *
    obtain ⟨y0, y1, y2⟩ := y
    obtain ⟨x0, x1, x2⟩ := x
    simp only at *
    have hB : Hid (∀ o1 o2 : Obj, Below w.heap.size w ((w.alloc o1).alloc o2)) := fun o1 o2 => ((Below.refl _ _).alloc (Nat.le_refl _) _).alloc (by simp) _
    by_cases g1 : y0 < x0
    · have e : decide (y0 < x0 ∧ y1 ≤ x1) = decide (y1 ≤ x1) := by rw [decide_eq_decide]; exact ⟨fun h => h.2, fun h => ⟨g1, h⟩⟩
      rw [e]
      clear e
      go_enter Try.func51, Try.ntmps51
      go_wp2
      go_ret
      exact ⟨rfl, unhide hB _ _⟩
    · have e : decide (y0 < x0 ∧ y1 ≤ x1) = false := decide_eq_false (fun h => g1 h.1)
      rw [e]
      clear e
      go_enter Try.func51, Try.ntmps51
      go_wp2
      go_ret
      exact ⟨rfl, unhide hB _ _⟩
theorem or_fo (S : List SentD) (k : Nat) : orB S k = (osB (gt sentK S k) && foB S k (gt sentK S k)) := rfl
set_option maxHeartbeats 4000000 in
theorem implGo (a : Option Addr) (c : Nat) (S : List SentD) (w : World) (hs : S.length ≤ 1048576) (hc : S.length ≤ c) (h : Rd sentK w a S) :
    Calls Try.prog 32 #[.slice a S.length c] w fun e w' => e = .returned (.bool (decide (S.length ≤ 60) && allS S)) ∧ Below w.heap.size w w' := by
  have HR := hide (fun W (b : Below w.heap.size w W) => h.below b)
  clear h
  by_cases h60 : S.length ≤ 60
  · have g9 : ¬ (60 : Int) < (S.length : Int) := by omega
    have HE : Hid ((decide (S.length ≤ 60) && allS S) = allS S) := by show _ = _; rw [decide_eq_true h60]; rfl
    rw [unhide HE]
    clear HE
    obtain ⟨res, hres⟩ : ∃ res, allS S = res := ⟨_, rfl⟩
    have HRES := hide hres
    rw [hres]
    clear hres
    go_enter Try.func32, Try.ntmps32
    go_wp2_with fail
    go_loopw [10] (fun i wr => ∃ k : Nat, k ≤ S.length ∧ i = .int .i64 k ∧ Hid (∀ j, j < k → orB S j = true) ∧ Hid (Below w.heap.size w wr)) (fun i _ => S.length - (intOf i).toNat)
    case atStart => exact ⟨0, Nat.zero_le _, rfl, fun j hj => absurd hj (Nat.not_lt_zero _), Below.refl _ _⟩
    case round =>
      obtain ⟨k, hk, rfl, hok, hB⟩ := hrel
      by_cases hlt : k < S.length
      · have hRw := unhide HR _ (unhide hB)
        rcases hRw with h0 | ⟨b, o, rfl, hbw, hel⟩
        · rw [h0] at hlt; exact absurd hlt (Nat.not_lt_zero _)
        have c0 := sent_r0 hel hlt
        have c1 := sent_r1 hel hlt
        have c2 := sent_r2 hel hlt
        obtain ⟨V, hV⟩ : ∃ V, V = wr.alloc (.cells #[.int .i64 (gt sentK S k).f0, .int .i64 (gt sentK S k).f1, .int .i64 (gt sentK S k).f2] 37) := ⟨_, rfl⟩
        have hAl : Below wr.heap.size wr V := by rw [hV]; exact (Below.refl _ _).alloc (Nat.le_refl _) _
        have XV := hide (show Bx V wr.heap.size (sentC (gt sentK S k)) by rw [hV]; exact Bx.new wr _ _)
        have BV := hide ((unhide hB).trans (hAl.mono (unhide hB).size))
        have BD := hide ((unhide BV).drew)
        have XD := hide ((unhide XV).drew)
        have HO := hide (implOs (gt sentK S k))
        have HF := hide (fun W (bb : Below w.heap.size w W) => implFo (some ⟨b, o, none⟩) k c S (gt sentK S k) W (by omega) hs (unhide HR _ bb))
        have hor := hide (or_fo S k)
        have HV := hide hV
        have xd := (unhide XD).cv
        have xv := (unhide XV).cv
        have xl := (unhide XV).lt
        have hk0 : (0 : Int) ≤ (k : Int) := by omega
        have hkc : (k : Int) ≤ (c : Int) := by omega
        clear hel hV hAl HR hbw
        generalize foB S k (gt sentK S k) = r2 at *
        generalize osB (gt sentK S k) = r1 at *
        generalize gt sentK S k = x at *
        obtain ⟨x0, x1, x2⟩ := x
        cases r1
        case false =>
          have HN : Hid (res = false) := by show _ = _; rw [← unhide HRES]; exact allS_no hlt (by rw [unhide hor]; rfl)
          clear hok hor
          go_upto_region 6 with fail
          rw [← unhide HV]
          clear HV
          refine wp_region_noPanic ?_
          refine wp_region_held_drew (S := fun V => ∀ o, V.cell? ⟨wr.heap.size, o, none⟩ = ([.int .i64 x0, .int .i64 x1, .int .i64 x2] : List Value)[o]?) (by kernel_rfl) ((unhide XD).cv) (fun hHeld => ?_)
          refine wpAnyH_take (i := 0) (v := ?_) rfl (by kernel_rfl) (by kernel_rfl) (by kernel_rfl) (fun _ _ _ h => h) (Or.inl ⟨by rfl, ?_⟩) hHeld ?_
          rotate_left
          · intro V hSw; go_simp; rfl
          try simp only [Act.put, List.getElem_toArray, List.getElem_cons_zero, List.setIfInBounds_toArray, List.set_cons_zero, List.set_cons_succ]
          refine wpAnyH_ready (rs := [1]) (by kernel_rfl) (by simp) ?_
          refine AllReadyH.cons rfl (fun K hK => ?_) AllReadyH.nil
          go_simp
          go_at_call 50
          with_reducible refine (unhide HO _).mono ?_
          rintro e w5 ⟨rfl, b5⟩
          refine hK.out _ _ (((unhide XD).below b5).cv) (fun hHeld => ?_)
          clear hK K
          try simp only [Act.put, List.getElem_toArray, List.getElem_cons_succ, List.getElem_cons_zero, List.setIfInBounds_toArray, List.set_cons_zero, List.set_cons_succ]
          refine wpAnyH_take (i := 2) (v := ?_) rfl (by kernel_rfl) (by kernel_rfl) (by kernel_rfl) (fun _ _ _ h => h) (Or.inl ⟨by rfl, ?_⟩) hHeld ?_
          rotate_left
          · intro V hSw; go_simp; rfl
          try simp only [Act.put, List.getElem_toArray, List.getElem_cons_succ, List.getElem_cons_zero, List.setIfInBounds_toArray, List.set_cons_zero, List.set_cons_succ]
          refine wpAnyH_take (i := 3) (v := ?_) rfl (by kernel_rfl) (by kernel_rfl) (by kernel_rfl) (fun _ _ _ h => h) (Or.inl ⟨by rfl, ?_⟩) hHeld ?_
          rotate_left
          · intro V hSw; go_simp; rfl
          try simp only [Act.put, List.getElem_toArray, List.getElem_cons_succ, List.getElem_cons_zero, List.setIfInBounds_toArray, List.set_cons_zero, List.set_cons_succ]
          refine wpAnyH_take (i := 4) (v := undef) rfl (by kernel_rfl) (by kernel_rfl) (by kernel_rfl) (fun _ _ _ h => h) (Or.inr ⟨by rfl, rfl⟩) hHeld ?_
          try simp only [Act.put, List.getElem_toArray, List.getElem_cons_succ, List.getElem_cons_zero, List.setIfInBounds_toArray, List.set_cons_zero, List.set_cons_succ]
          refine wpAnyH_take (i := 5) (v := undef) rfl (by kernel_rfl) (by kernel_rfl) (by kernel_rfl) (fun _ _ _ h => h) (Or.inr ⟨by rfl, rfl⟩) hHeld ?_
          try simp only [Act.put, List.getElem_toArray, List.getElem_cons_succ, List.getElem_cons_zero, List.setIfInBounds_toArray, List.set_cons_zero, List.set_cons_succ]
          refine wpAnyH_take (i := 6) (v := undef) rfl (by kernel_rfl) (by kernel_rfl) (by kernel_rfl) (fun _ _ _ h => h) (Or.inr ⟨by rfl, rfl⟩) hHeld ?_
          try simp only [Act.put, List.getElem_toArray, List.getElem_cons_succ, List.getElem_cons_zero, List.setIfInBounds_toArray, List.set_cons_zero, List.set_cons_succ]
          refine wpAnyH_take (i := 7) (v := undef) rfl (by kernel_rfl) (by kernel_rfl) (by kernel_rfl) (fun _ _ _ h => h) (Or.inr ⟨by rfl, rfl⟩) hHeld ?_
          try simp only [Act.put, List.getElem_toArray, List.getElem_cons_succ, List.getElem_cons_zero, List.setIfInBounds_toArray, List.set_cons_zero, List.set_cons_succ]
          refine wpAnyH_take (i := 8) (v := undef) rfl (by kernel_rfl) (by kernel_rfl) (by kernel_rfl) (fun _ _ _ h => h) (Or.inr ⟨by rfl, rfl⟩) hHeld ?_
          try simp only [Act.put, List.getElem_toArray, List.getElem_cons_succ, List.getElem_cons_zero, List.setIfInBounds_toArray, List.set_cons_zero, List.set_cons_succ]
          refine wpAnyH_take (i := 9) (v := undef) rfl (by kernel_rfl) (by kernel_rfl) (by kernel_rfl) (fun _ _ _ h => h) (Or.inr ⟨by rfl, rfl⟩) hHeld ?_
          try simp only [Act.put, List.getElem_toArray, List.getElem_cons_succ, List.getElem_cons_zero, List.setIfInBounds_toArray, List.set_cons_zero, List.set_cons_succ]
          refine wpAnyH_take (i := 10) (v := ?_) rfl (by kernel_rfl) (by kernel_rfl) (by kernel_rfl) (fun _ _ _ h => h) (Or.inl ⟨by rfl, ?_⟩) hHeld ?_
          rotate_left
          · intro V hSw; go_simp; rfl
          try simp only [Act.put, List.getElem_toArray, List.getElem_cons_succ, List.getElem_cons_zero, List.setIfInBounds_toArray, List.set_cons_zero, List.set_cons_succ]
          refine wpAnyH_done (by kernel_rfl) ?_ _
          refine NoPanic.normal ?_
          clear hHeld
          all_goals
            have B5 := hide ((unhide BD).trans (b5.mono (unhide BD).size))
            clear b5
            go_wp2
            go_ret
            exact ⟨by rw [unhide HN]; rfl, unhide B5⟩
        go_upto_region 6 with fail
        rw [← unhide HV]
        clear HV
        go_region_law (first
          | (go_simp; go_at_call 50; with_reducible refine (unhide HO _).mono ?_; rintro e w5 ⟨rfl, b5⟩; have x5 := ((unhide XD).below b5).cv; have x5l := ((unhide XD).below b5).lt)
          | (go_simp; go_at_call 51; with_reducible refine (unhide HF _ ((unhide BD).trans (b5.mono (unhide BD).size))).mono ?_; rintro e w6 ⟨rfl, b6⟩))
        all_goals
          have B6 := hide (((unhide BD).trans (b5.mono (unhide BD).size)).trans (b6.mono (Nat.le_trans (unhide BD).size b5.size)))
          clear b5 b6
          cases r2
          case false =>
            have HN : Hid (res = false) := by show _ = _; rw [← unhide HRES]; exact allS_no hlt (by rw [unhide hor]; rfl)
            go_wp2
            go_ret
            exact ⟨by rw [unhide HN]; rfl, unhide B6⟩
          case true =>
            have HY : Hid (∀ j, j < k + 1 → orB S j = true) := upto_succ (unhide hok) (by rw [unhide hor]; rfl)
            go_wp2
            exact ⟨⟨k + 1, by omega, by go_num, HY, B6⟩, by simp [intOf]; omega⟩
      · have HA : Hid (res = true) := by show _ = _; rw [← unhide HRES]; exact allS_yes (fun j hj => unhide hok j (by omega))
        clear hok HR
        go_wp2
        go_ret
        exact ⟨by rw [unhide HA]; rfl, unhide hB⟩
  · have g9 : (60 : Int) < (S.length : Int) := by omega
    have HE : Hid ((decide (S.length ≤ 60) && allS S) = false) := by show _ = _; rw [decide_eq_false h60]; rfl
    rw [unhide HE]
    clear HE HR h60
    go_enter Try.func32, Try.ntmps32
    go_wp2
    go_ret
    exact ⟨rfl, Below.refl _ _⟩
end Go.Proofs.Ytccfbkpelehldaa.Rc
