/-
  Contract: the program's look at a frame: it answers 'gf', as the model does.
-/
import Derived.Test.YtcnpbcigndcheaaDoorGfi
namespace Go.Proofs.YtcnpbcigndcheaaDoor
open Go.ChangeShapes Go.WideShapes Go.ChangeAt Go.RowKit
set_option linter.unusedVariables false

theorem shp_le (k : Int) : (shp k).1 ≤ 3 := by
  rcases kinds k with rfl | rfl | rfl | rfl | rfl | rfl | rfl | rfl | rfl | rfl | rfl | rfl | rfl | rfl | rfl | h
  iterate 15 decide
  rw [shp_none k h]; decide
theorem gn_iff (m a b c : Int) : gn m a b c = true ↔ knB a = true ∧ knB b = true ∧ knB c = true ∧ (m < 3 → c = 0) ∧ (m < 2 → b = 0) ∧ (m < 1 → a = 0) := by
  unfold gn okn knB
  simp only [decide_eq_true_eq]
  constructor
  · intro h; exact ⟨by omega, by omega, by omega, by omega, by omega, by omega⟩
  · intro h; exact ⟨⟨by omega, by omega, by omega⟩, ⟨by omega, by omega, by omega⟩, ⟨by omega, by omega, by omega⟩⟩
theorem gl_iff (k a b : Int) (len : Nat) : gl k a b len = true ↔ (shp k).2.1 ≤ len ∧ len ≤ (shp k).2.2 ∧ (k = 6 → a ≤ 4611686018427387903 - len) ∧ (k = 8 → b ≤ 4611686018427387903 - len) := by
  unfold gl
  simp only [decide_eq_true_eq]
  constructor
  · intro h; exact ⟨h.1, h.2.1, fun e => by have := h.2.2.1 e; omega, fun e => by have := h.2.2.2 e; omega⟩
  · intro h; exact ⟨h.1, h.2.1, fun e => by have := h.2.2.1 e; omega, fun e => by have := h.2.2.2 e; omega⟩

set_option maxHeartbeats 4000000 in
theorem implGood_any (k a b c : Int) (fin : Bool) (s : ByteArray) (g off n cap : Nat) (F T : Nat → Int) (w : World) (hs : s.size ≤ 1048576) (hn : n ≤ 1048576) (hR : Rr w g off n F T) :
    Calls Tryd.prog 13 #[fv k a b c fin s g off n cap] w fun e w' => e = .returned (.bool (gf k a b c fin s.size n F T)) ∧ Below w.heap.size w w' := by
  by_cases hm : 0 ≤ (shp k).1
  · have HN := hide (fun w => numbersOf_yes k w hm)
    have HG := hide (fun w => goodNumbers_any k a b c (shp k).1 fin s g off n cap w hm (shp_le k))
    cases hg : gn (shp k).1 a b c with
    | false =>
      have HF : Hid (gf k a b c fin s.size n F T = false) := decide_eq_false (fun q => by
        have : gn (shp k).1 a b c = true := (gn_iff _ _ _ _).2 ⟨q.2.1, q.2.2.1, q.2.2.2.1, q.2.2.2.2.2.2.2.1, q.2.2.2.2.2.2.2.2.1, q.2.2.2.2.2.2.2.2.2.1⟩
        rw [hg] at this; cases this)
      rw [hg] at HG
      clear hg hR
      generalize (shp k).1 = m at *
      go_enter Tryd.func13, Tryd.ntmps13
      go_wp2_with (first | (go_at_call 24; refine (unhide HN _).mono ?_; rintro e w' ⟨rfl, rfl⟩) | (go_at_call 25; refine (unhide HG _).mono ?_; rintro e w1 ⟨rfl, hb1⟩))
      go_ret
      exact ⟨by rw [unhide HF]; rfl, ((Below.refl _ _).alloc (Nat.le_refl _) _).trans (hb1.mono (by simp))⟩
    | true =>
      have hgi := (gn_iff _ _ _ _).1 hg
      obtain ⟨ha0, ha1⟩ := knB_yes hgi.1
      obtain ⟨hb0, hb1⟩ := knB_yes hgi.2.1
      have HL := hide (fun w => goodLength_any k a b c fin s g off n cap s.size w hm hs ha0 ha1 hb0 hb1)
      rw [hg] at HG
      clear hg
      cases hl : gl k a b s.size with
      | false =>
        have HF : Hid (gf k a b c fin s.size n F T = false) := decide_eq_false (fun q => by
          have : gl k a b s.size = true := (gl_iff _ _ _ _).2 ⟨q.2.2.2.2.1, q.2.2.2.2.2.1, q.2.2.2.2.2.2.2.2.2.2.2.2.1, q.2.2.2.2.2.2.2.2.2.2.2.2.2.1⟩
          rw [hl] at this; cases this)
        rw [hl] at HL
        clear hl hR hgi
        generalize (shp k).1 = m at *
        go_enter Tryd.func13, Tryd.ntmps13
        go_wp2_with (first | (go_at_call 24; refine (unhide HN _).mono ?_; rintro e w' ⟨rfl, rfl⟩) | (go_at_call 25; refine (unhide HG _).mono ?_; rintro e w1 ⟨rfl, hbn⟩; obtain ⟨hcn, hfn⟩ := bcell hbn) | (go_at_call 26; refine (unhide HL _).mono ?_; rintro e w2 ⟨rfl, hbl⟩))
        go_ret
        exact ⟨by rw [unhide HF]; rfl, ((Below.refl _ _).alloc (Nat.le_refl _) _).trans ((hbn.mono (by simp)).trans (hbl.mono (by have := hbn.size; simp at this; omega)))⟩
      | true =>
        have hli := (gl_iff _ _ _ _).1 hl
        have HRR := hide hR
        rw [hl] at HL
        clear hl hR
        by_cases f8 : fin = true ∧ k ≠ 8
        · obtain ⟨rfl, k8⟩ := f8
          have HF : Hid (gf k a b c true s.size n F T = false) := decide_eq_false (fun q => k8 (q.2.2.2.2.2.2.1 rfl))
          have hk8 : (k != 8) = true := by rw [bne_iff_ne]; exact k8
          clear hgi hli k8
          generalize (shp k).1 = m at *
          go_enter Tryd.func13, Tryd.ntmps13
          go_wp2_with (first | (go_at_call 24; refine (unhide HN _).mono ?_; rintro e w' ⟨rfl, rfl⟩) | (go_at_call 25; refine (unhide HG _).mono ?_; rintro e w1 ⟨rfl, hbn⟩; obtain ⟨hcn, hfn⟩ := bcell hbn; have hz1 : w.heap.size < w1.heap.size := (by have := hbn.size; simp at this; omega)) | (go_at_call 26; refine (unhide HL _).mono ?_; rintro e w2 ⟨rfl, hbl⟩; obtain ⟨hcl, hfl⟩ := bcell hbl))
          all_goals
            go_ret
            exact ⟨by rw [unhide HF]; rfl, ((Below.refl _ _).alloc (Nat.le_refl _) _).trans ((hbn.mono (by simp)).trans (hbl.mono (by have := hbn.size; simp at this; omega)))⟩
        · have hf : fin = true → k = 8 := fun e => by by_cases h : k = 8; exact h; exact absurd ⟨e, h⟩ f8
          clear f8
          by_cases k2 : k = 2
          · subst k2
            have hf' : fin = false := by cases fin; rfl; exact absurd (hf rfl) (by decide)
            subst hf'
            by_cases n0 : n = 0
            · subst n0
              have HF : Hid (gf 2 a b c false s.size 0 F T = false) := decide_eq_false (fun q => absurd (q.2.2.2.2.2.2.2.2.2.2.1.1 rfl) (by omega))
              clear hgi hli hf
              go_enter Tryd.func13, Tryd.ntmps13
              go_wp2_with (first | (go_at_call 24; refine (unhide HN _).mono ?_; rintro e w' ⟨rfl, rfl⟩) | (go_at_call 25; refine (unhide HG _).mono ?_; rintro e w1 ⟨rfl, hbn⟩; obtain ⟨hcn, hfn⟩ := bcell hbn; have hz1 : w.heap.size < w1.heap.size := (by have := hbn.size; simp at this; omega)) | (go_at_call 26; refine (unhide HL _).mono ?_; rintro e w2 ⟨rfl, hbl⟩; obtain ⟨hcl, hfl⟩ := bcell hbl))
              all_goals
                go_ret
                exact ⟨by rw [unhide HF]; rfl, ((Below.refl _ _).alloc (Nat.le_refl _) _).trans ((hbn.mono (by simp)).trans (hbl.mono (by have := hbn.size; simp at this; omega)))⟩
            · have hp : (0 : Int) < n := by omega
              by_cases n20 : n ≤ 20
              · have hp2 : (n : Int) ≤ 20 := by omega
                have HF : Hid (gf 2 a b c false s.size n F T = allR F T n) := by
                  show gf 2 a b c false s.size n F T = allR F T n
                  unfold gf
                  rw [Bool.eq_iff_iff, decide_eq_true_eq]
                  exact ⟨fun q => (q.2.2.2.2.2.2.2.2.2.2.2.1 rfl).1, fun q => ⟨hm, hgi.1, hgi.2.1, hgi.2.2.1, hli.1, hli.2.1, hf, hgi.2.2.2.1, hgi.2.2.2.2.1, hgi.2.2.2.2.2, ⟨fun _ => by omega, fun _ => rfl⟩, fun _ => ⟨q, n20⟩, hli.2.2.1, hli.2.2.2, fun h => absurd h (by decide)⟩⟩
                clear hgi hli hf n0
                go_enter Tryd.func13, Tryd.ntmps13
                go_wp2_with (first | (go_at_call 24; refine (unhide HN _).mono ?_; rintro e w' ⟨rfl, rfl⟩) | (go_at_call 25; refine (unhide HG _).mono ?_; rintro e w1 ⟨rfl, hbn⟩; obtain ⟨hcn, hfn⟩ := bcell hbn; have hz1 : w.heap.size < w1.heap.size := (by have := hbn.size; simp at this; omega)) | (go_at_call 26; refine (unhide HL _).mono ?_; rintro e w2 ⟨rfl, hbl⟩; obtain ⟨hcl, hfl⟩ := bcell hbl) | (go_at_call 27; refine (falling_any g off n cap F T _ hn ((unhide HRR).below (((Below.refl _ _).alloc (Nat.le_refl _) _).trans ((hbn.mono (by simp)).trans (hbl.mono (by have := hbn.size; simp at this; omega)))))).mono ?_; rintro e w3 ⟨rfl, hbf⟩))
                all_goals
                  go_ret
                  exact ⟨by rw [unhide HF]; rfl, (((Below.refl _ _).alloc (Nat.le_refl _) _).trans ((hbn.mono (by simp)).trans (hbl.mono (by have := hbn.size; simp at this; omega)))).trans (hbf.mono (by have := hbn.size; have := hbl.size; simp at *; omega))⟩
              · have hp2 : decide ((n : Int) ≤ 20) = false := by simp; omega
                have HF : Hid (gf 2 a b c false s.size n F T = false) := decide_eq_false (fun q => n20 (q.2.2.2.2.2.2.2.2.2.2.2.1 rfl).2)
                clear hgi hli hf n0
                go_enter Tryd.func13, Tryd.ntmps13
                go_wp2_with (first | (go_at_call 24; refine (unhide HN _).mono ?_; rintro e w' ⟨rfl, rfl⟩) | (go_at_call 25; refine (unhide HG _).mono ?_; rintro e w1 ⟨rfl, hbn⟩; obtain ⟨hcn, hfn⟩ := bcell hbn; have hz1 : w.heap.size < w1.heap.size := (by have := hbn.size; simp at this; omega)) | (go_at_call 26; refine (unhide HL _).mono ?_; rintro e w2 ⟨rfl, hbl⟩; obtain ⟨hcl, hfl⟩ := bcell hbl))
                all_goals
                  go_ret
                  exact ⟨by rw [unhide HF]; rfl, ((Below.refl _ _).alloc (Nat.le_refl _) _).trans ((hbn.mono (by simp)).trans (hbl.mono (by have := hbn.size; simp at this; omega)))⟩
          · have e2 : (k == 2) = false := beq_eq_false_iff_ne.2 k2
            by_cases k24 : k = 24
            · subst k24
              have hf' : fin = false := by cases fin; rfl; exact absurd (hf rfl) (by decide)
              subst hf'
              by_cases hba : b ≤ a
              · by_cases hc : c ≤ 255
                · have HF : Hid (gf 24 a b c false s.size n F T = ((n : Int) == 0)) := by
                    show gf 24 a b c false s.size n F T = _
                    unfold gf
                    rw [Bool.eq_iff_iff, decide_eq_true_eq, beq_iff_eq]
                    exact ⟨fun q => by have := q.2.2.2.2.2.2.2.2.2.2.1.2; omega, fun q => ⟨hm, hgi.1, hgi.2.1, hgi.2.2.1, hli.1, hli.2.1, hf, hgi.2.2.2.1, hgi.2.2.2.2.1, hgi.2.2.2.2.2, ⟨fun h => absurd h (by decide), fun h => by omega⟩, fun h => absurd h (by decide), hli.2.2.1, hli.2.2.2, fun _ => ⟨hba, hc⟩⟩⟩
                  clear hgi hli hf
                  go_enter Tryd.func13, Tryd.ntmps13
                  go_wp2_with (first | (go_at_call 24; refine (unhide HN _).mono ?_; rintro e w' ⟨rfl, rfl⟩) | (go_at_call 25; refine (unhide HG _).mono ?_; rintro e w1 ⟨rfl, hbn⟩; obtain ⟨hcn, hfn⟩ := bcell hbn; have hz1 : w.heap.size < w1.heap.size := (by have := hbn.size; simp at this; omega)) | (go_at_call 26; refine (unhide HL _).mono ?_; rintro e w2 ⟨rfl, hbl⟩; obtain ⟨hcl, hfl⟩ := bcell hbl))
                  all_goals
                    go_ret
                    exact ⟨by rw [unhide HF]; rfl, ((Below.refl _ _).alloc (Nat.le_refl _) _).trans ((hbn.mono (by simp)).trans (hbl.mono (by have := hbn.size; simp at this; omega)))⟩
                · have HF : Hid (gf 24 a b c false s.size n F T = false) := decide_eq_false (fun q => hc (q.2.2.2.2.2.2.2.2.2.2.2.2.2.2 rfl).2)
                  clear hgi hli hf
                  go_enter Tryd.func13, Tryd.ntmps13
                  go_wp2_with (first | (go_at_call 24; refine (unhide HN _).mono ?_; rintro e w' ⟨rfl, rfl⟩) | (go_at_call 25; refine (unhide HG _).mono ?_; rintro e w1 ⟨rfl, hbn⟩; obtain ⟨hcn, hfn⟩ := bcell hbn; have hz1 : w.heap.size < w1.heap.size := (by have := hbn.size; simp at this; omega)) | (go_at_call 26; refine (unhide HL _).mono ?_; rintro e w2 ⟨rfl, hbl⟩; obtain ⟨hcl, hfl⟩ := bcell hbl))
                  all_goals
                    go_ret
                    exact ⟨by rw [unhide HF]; rfl, ((Below.refl _ _).alloc (Nat.le_refl _) _).trans ((hbn.mono (by simp)).trans (hbl.mono (by have := hbn.size; simp at this; omega)))⟩
              · have HF : Hid (gf 24 a b c false s.size n F T = false) := decide_eq_false (fun q => hba (q.2.2.2.2.2.2.2.2.2.2.2.2.2.2 rfl).1)
                clear hgi hli hf
                go_enter Tryd.func13, Tryd.ntmps13
                go_wp2_with (first | (go_at_call 24; refine (unhide HN _).mono ?_; rintro e w' ⟨rfl, rfl⟩) | (go_at_call 25; refine (unhide HG _).mono ?_; rintro e w1 ⟨rfl, hbn⟩; obtain ⟨hcn, hfn⟩ := bcell hbn; have hz1 : w.heap.size < w1.heap.size := (by have := hbn.size; simp at this; omega)) | (go_at_call 26; refine (unhide HL _).mono ?_; rintro e w2 ⟨rfl, hbl⟩; obtain ⟨hcl, hfl⟩ := bcell hbl))
                all_goals
                  go_ret
                  exact ⟨by rw [unhide HF]; rfl, ((Below.refl _ _).alloc (Nat.le_refl _) _).trans ((hbn.mono (by simp)).trans (hbl.mono (by have := hbn.size; simp at this; omega)))⟩
            · have e24 : (k == 24) = false := beq_eq_false_iff_ne.2 k24
              have HF : Hid (gf k a b c fin s.size n F T = ((n : Int) == 0)) := by
                show gf k a b c fin s.size n F T = _
                unfold gf
                rw [Bool.eq_iff_iff, decide_eq_true_eq, beq_iff_eq]
                exact ⟨fun q => by have := q.2.2.2.2.2.2.2.2.2.2.1.2; omega, fun q => ⟨hm, hgi.1, hgi.2.1, hgi.2.2.1, hli.1, hli.2.1, hf, hgi.2.2.2.1, hgi.2.2.2.2.1, hgi.2.2.2.2.2, ⟨fun h => absurd h k2, fun h => by omega⟩, fun h => absurd h k2, hli.2.2.1, hli.2.2.2, fun h => absurd h k24⟩⟩
              cases fin
              · clear hgi hli hf k2 k24
                generalize (shp k).1 = m at *
                go_enter Tryd.func13, Tryd.ntmps13
                go_wp2_with (first | (go_at_call 24; refine (unhide HN _).mono ?_; rintro e w' ⟨rfl, rfl⟩) | (go_at_call 25; refine (unhide HG _).mono ?_; rintro e w1 ⟨rfl, hbn⟩; obtain ⟨hcn, hfn⟩ := bcell hbn; have hz1 : w.heap.size < w1.heap.size := (by have := hbn.size; simp at this; omega)) | (go_at_call 26; refine (unhide HL _).mono ?_; rintro e w2 ⟨rfl, hbl⟩; obtain ⟨hcl, hfl⟩ := bcell hbl))
                all_goals
                  go_ret
                  exact ⟨by rw [unhide HF]; rfl, ((Below.refl _ _).alloc (Nat.le_refl _) _).trans ((hbn.mono (by simp)).trans (hbl.mono (by have := hbn.size; simp at this; omega)))⟩
              · have hk8 : (k != 8) = false := by rw [hf rfl]; rfl
                clear hgi hli hf k2 k24
                generalize (shp k).1 = m at *
                go_enter Tryd.func13, Tryd.ntmps13
                go_wp2_with (first | (go_at_call 24; refine (unhide HN _).mono ?_; rintro e w' ⟨rfl, rfl⟩) | (go_at_call 25; refine (unhide HG _).mono ?_; rintro e w1 ⟨rfl, hbn⟩; obtain ⟨hcn, hfn⟩ := bcell hbn; have hz1 : w.heap.size < w1.heap.size := (by have := hbn.size; simp at this; omega)) | (go_at_call 26; refine (unhide HL _).mono ?_; rintro e w2 ⟨rfl, hbl⟩; obtain ⟨hcl, hfl⟩ := bcell hbl))
                all_goals
                  go_ret
                  exact ⟨by rw [unhide HF]; rfl, ((Below.refl _ _).alloc (Nat.le_refl _) _).trans ((hbn.mono (by simp)).trans (hbl.mono (by have := hbn.size; simp at this; omega)))⟩
  · have HN := hide (fun w => numbersOf_no k w hm)
    have HF : Hid (gf k a b c fin s.size n F T = false) := decide_eq_false (fun q => hm q.1)
    clear hm hR
    go_enter Tryd.func13, Tryd.ntmps13
    go_wp2_with (go_at_call 24; refine (unhide HN _).mono ?_; rintro e w' ⟨rfl, rfl⟩)
    go_ret
    exact ⟨by rw [unhide HF]; rfl, (Below.refl _ _).alloc (Nat.le_refl _) _⟩
end Go.Proofs.YtcnpbcigndcheaaDoor
