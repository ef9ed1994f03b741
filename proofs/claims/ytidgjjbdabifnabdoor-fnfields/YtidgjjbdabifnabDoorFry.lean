/-
  Contracts of the program: a field is read, in whichever way it is told.
-/
import Derived.Test.YtidgjjbdabifnabDoorFrx
namespace Go.Proofs.YtidgjjbdabifnabDoor.Rc
open Go.ChangeShapes Go.WideShapes Go.ChangeAt Go.RowKit Go.Deep
set_option linter.unusedVariables false
set_option maxRecDepth 100000

theorem dr_cons {s : ByteArray} {p : Nat} (h : p < s.size) : ∃ c r, dr s p = c :: r ∧ c.toNat = by0 s p := by
  have hl : s.data.toList.length = s.size := by rw [Array.length_toList]; rfl
  refine ⟨s.data.toList[p]'(by omega), s.data.toList.drop (p + 1), ?_, ?_⟩
  · unfold dr
    exact List.drop_eq_getElem_cons (by omega)
  · unfold by0
    rw [List.getD_eq_getElem?_getD, List.getElem?_eq_getElem (by omega)]
    rfl
theorem dr_drop (s : ByteArray) (p n : Nat) : (dr s p).drop n = dr s (p + n) := by
  unfold dr
  rw [List.drop_drop]
theorem stI_a {s : ByteArray} {p : Nat} (h : p < s.size) (h1 : 192 ≤ by0 s p) : stI (dr s p) = sdO (dr s p) 6 := by
  obtain ⟨c, r, e, hc⟩ := dr_cons h
  rw [e]
  unfold stI sdO
  dsimp only
  rw [if_pos (by omega)]
  cases tkP (c :: r) 6 <;> rfl
theorem stI_b {s : ByteArray} {p : Nat} (h : p < s.size) (h1 : ¬ 192 ≤ by0 s p) (h2 : 80 ≤ by0 s p) : stI (dr s p) = match sdO (dr s p) 4 with | none => none | some (D, n) => match tkX (dr s (p + n)) 7 with | none => none | some (v, q) => some (⟨D.f0, v⟩, n + q) := by
  obtain ⟨c, r, e, hc⟩ := dr_cons h
  have hd := dr_drop s p
  rw [e] at hd ⊢
  unfold stI sdO
  dsimp only
  rw [if_neg (by omega), if_pos (by omega)]
  cases tkP (c :: r) 4 with
  | none => rfl
  | some t =>
    obtain ⟨k, hh, n⟩ := t
    dsimp only
    by_cases hk : 15 < k
    · rw [if_pos hk, if_pos hk]
    · rw [if_neg hk, if_neg hk, hd]
      dsimp only
      cases tkX (dr s (p + n)) 7 <;> rfl
theorem stI_c {s : ByteArray} {p : Nat} (h : p < s.size) (h1 : ¬ 192 ≤ by0 s p) (h2 : ¬ 80 ≤ by0 s p) : stI (dr s p) = match tkX (dr s p) 3 with | none => none | some (m, n) => match tkX (dr s (p + n)) 7 with | none => none | some (v, q) => some (⟨m, v⟩, n + q) := by
  obtain ⟨c, r, e, hc⟩ := dr_cons h
  have hd := dr_drop s p
  rw [e] at hd ⊢
  unfold stI
  dsimp only
  rw [if_neg (by omega), if_neg (by omega)]
  cases tkX (c :: r) 3 with
  | none => rfl
  | some t =>
    obtain ⟨m, n⟩ := t
    dsimp only
    rw [hd]
    cases tkX (dr s (p + n)) 7 <;> rfl
theorem sdO_k {l : List UInt8} {b n : Nat} {D : FieldD} (e : sdO l b = some (D, n)) : 1 ≤ n ∧ n ≤ l.length := by
  unfold sdO at e
  cases hk : tkP l b with
  | none => rw [hk] at e; cases e
  | some t =>
    obtain ⟨k, hh, m⟩ := t
    rw [hk] at e
    dsimp only at e
    split at e
    · cases e
    · injection e with e
      injection e with _ e
      subst e
      have := tkP_k hk
      omega
theorem tkX_k {l : List UInt8} {b n : Nat} {t : ByteArray} (e : tkX l b = some (t, n)) : 1 ≤ n ∧ n ≤ l.length := by
  unfold tkX at e
  cases hk : tkP l b with
  | none => rw [hk] at e; cases e
  | some t =>
    obtain ⟨k, hh, m⟩ := t
    rw [hk] at e
    dsimp only at e
    split at e
    · cases e
    · injection e with e
      injection e with _ e
      subst e
      have := tkP_k hk
      omega
set_option maxHeartbeats 8000000 in
theorem implFd (cb p : Nat) (s : ByteArray) (told : Int) (w : World) (hs : s.size ≤ 1048576) (hp : p < s.size) (h : Cc w cb s p told) (hS : Sf w) (hne : 0 ≠ cb) :
    Calls Tryd.prog 34 #[.pointer (some ⟨cb, 0, none⟩)] w fun e w' => Rs cb p s told w (stI (dr s p)) e w' := by
  obtain ⟨W, hW⟩ : ∃ W, W = w.alloc (.cells #[.string ⟨#[]⟩, .string ⟨#[]⟩] 33) := ⟨_, rfl⟩
  have hbW : Below w.heap.size w W := by rw [hW]; exact (Below.refl w.heap.size w).alloc (Nat.le_refl _) _
  have hbx : Bx W w.heap.size [.string ⟨#[]⟩, .string ⟨#[]⟩] := by rw [hW]; exact Bx.new w _ _
  have hcW := h.below hbW
  have HX := hide hbx
  have HSW := hide (hS.below hbW)
  have HKW := hide (Kx.of (cb := cb) hbW)
  have HCW := hide hcW
  have HW := hide hW
  have hcl := h.lt
  have c0 := hcW.c0
  have c1 := hcW.c1
  have hsb := by0_at s p hp
  have hub := by0_lt s p
  have z0 : (0 : Int) ≤ (p : Int) := by omega
  have z1 : (p : Int) < (s.size : Int) := by omega
  have z5 : IntKind.i64.wrap (p : Int) = (p : Int) := wraps_i64 _ (by omega) (by omega)
  have z6 : ((p : Int)).toNat = p := by omega
  have hA := @stI_a s p hp
  have hB := @stI_b s p hp
  have hC := @stI_c s p hp
  have hcl2 := hcW.lt
  clear h hS hbW hbx hW hcW
  generalize by0 s p = u at *
  go_enter Tryd.func34, Tryd.ntmps34
  go_upto_region 1 with fail
  rw [← unhide HW]
  clear HW
  go_cut [3] (fun x wx => x = .int .i64 (u : Int) ∧ Hid (Below W.heap.size W wx))
  case first =>
    have HB := hide (fun n => below_drewN (Below.refl W.heap.size W) n)
    go_quiet (fail)
    all_goals
      go_wp2
      go_meet
      exact ⟨rfl, unhide HB _⟩
  case rest =>
  obtain ⟨rfl, HB⟩ := hcut
  obtain ⟨w1, hw1⟩ : ∃ V, V = wc := ⟨_, rfl⟩
  rw [← hw1] at HB ⊢
  clear hw1
  have C1 := hide ((unhide HCW).below (unhide HB))
  have S1 := hide ((unhide HSW).below (unhide HB))
  have K1 := hide ((unhide HKW).trans (Kx.of (unhide HB)))
  have X1 := hide ((unhide HX).below (unhide HB))
  clear HCW HSW HKW HX HB c0 c1 hcl2 hsb z5 z6
  by_cases h192 : 192 ≤ u
  · have hI : (192 : Int) ≤ (u : Int) := by omega
    have HE := hide (hA h192)
    have HSD := hide (implSD cb p 6 s told w1 hs (by omega) (by omega) (by omega) (unhide C1) (unhide S1) hne)
    clear hA hB hC
    cases ho : sdO (dr s p) 6 with
    | none =>
      rw [ho] at HE HSD
      unfold Rs at HSD
      dsimp only at HSD
      clear ho
      go_wp2_with fail
      refine (unhide HSD).mono ?_
      rintro e w2 ⟨c, hc, rfl, k2⟩
      have K2 := hide ((unhide K1).trans k2)
      clear k2
      go_wp2
      exact ⟨rfl, by rw [unhide HE]; exact ⟨c, hc, rfl, unhide K2⟩⟩
    | some t =>
      obtain ⟨D, k⟩ := t
      obtain ⟨nm, vl⟩ := D
      rw [ho] at HE HSD
      unfold Rs at HSD
      dsimp only at HSD
      clear ho
      go_wp2_with fail
      refine (unhide HSD).mono ?_
      rintro e w2 ⟨rfl, hc2, k2⟩
      have K2 := hide ((unhide K1).trans k2)
      have X2 := hide (kx_bx (unhide X1) k2 (by omega))
      have C2 := hide hc2
      clear k2 hc2
      have y0 := (unhide X2).cv
      have yl := (unhide X2).lt
      have yf := (unhide X2).fz
      go_wp2
      have hF := ((unhide X2).set (i := 0) (u := .string nm) (by simp)).set (i := 1) (u := .string vl) (by simp)
      have hKF := kx_new (kx_new (unhide K2) (p := ⟨w.heap.size, 0, none⟩) (Nat.le_refl _) (.string nm)) (p := ⟨w.heap.size, 1, none⟩) (Nat.le_refl _) (.string vl)
      have hCF := cc_new (b := w.heap.size) (o := 1) (u := .string vl) (cc_new (b := w.heap.size) (o := 0) (u := .string nm) (unhide C2) (by omega)) (by omega)
      generalize ((w2.setCell ⟨w.heap.size, 0, none⟩ (.string nm)).setCell ⟨w.heap.size, 1, none⟩ (.string vl)) = U at *
      have c0 : U.cell? ⟨w.heap.size, 0, none⟩ = some (.string nm) := hF.cv 0
      have c1 : U.cell? ⟨w.heap.size, 1, none⟩ = some (.string vl) := hF.cv 1
      exact bodyPost_ret (v := .agg #[.string nm, .string vl]) (by simp [results, Tryd.results34, go_sem, c0, c1]) rfl (by rw [unhide HE]; exact ⟨rfl, hCF, hKF⟩)
  · have hI : ¬ (192 : Int) ≤ (u : Int) := by omega
    by_cases h80 : 80 ≤ u
    · have hI2 : (80 : Int) ≤ (u : Int) := by omega
      have hB2 := hB h192 h80
      have HSD := hide (implSD cb p 4 s told w1 hs (by omega) (by omega) (by omega) (unhide C1) (unhide S1) hne)
      clear hA hB hC
      cases ho : sdO (dr s p) 4 with
      | none =>
        rw [ho] at hB2 HSD
        unfold Rs at HSD
        dsimp only at HSD hB2
        have HE := hide hB2
        clear ho hB2
        go_wp2_with fail
        refine (unhide HSD).mono ?_
        rintro e w2 ⟨c, hc, rfl, k2⟩
        have K2 := hide ((unhide K1).trans k2)
        clear k2
        go_wp2
        exact ⟨rfl, by rw [unhide HE]; exact ⟨c, hc, rfl, unhide K2⟩⟩
      | some t =>
        obtain ⟨D, k⟩ := t
        obtain ⟨nm, vl⟩ := D
        have hk := sdO_k ho
        rw [dr_len] at hk
        rw [ho] at hB2 HSD
        unfold Rs at HSD
        dsimp only at HSD hB2
        clear ho
        have HTX := hide (fun W h => implTX cb (p + k) 7 s told W hs (by omega) (by omega) (by omega) h)
        go_wp2_with fail
        refine (unhide HSD).mono ?_
        rintro e w2 ⟨rfl, hc2, k2⟩
        obtain ⟨V, hV⟩ : ∃ V, V = w2.alloc (.cells #[.string nm, .string vl] 33) := ⟨_, rfl⟩
        have bV : Below w2.heap.size w2 V := by rw [hV]; exact (Below.refl _ _).alloc (Nat.le_refl _) _
        have hk2 := k2.size
        have K2 := hide (((unhide K1).trans k2).trans (Kx.of bV))
        have X2 := hide ((kx_bx (unhide X1) k2 (by omega)).below bV)
        have C2 := hide (hc2.below bV)
        have F2 := hide (show Bx V w2.heap.size [.string nm, .string vl] by rw [hV]; exact Bx.new w2 _ _)
        have hs1 := (unhide K1).size
        have hfr : w.heap.size < w2.heap.size := by have := (unhide X1).lt; omega
        have HV := hide hV
        clear k2 hc2 bV hV HSD
        go_upto_region 6 with fail
        rw [← unhide HV]
        clear HV
        generalize w2.heap.size = fb at *
        cases hx : tkX (dr s (p + k)) 7 with
        | none =>
          rw [hx] at hB2 HTX
          dsimp only at HTX hB2
          have HE := hide hB2
          clear hx hB2
          go_wp2_with fail
          refine (unhide HTX _ (unhide C2)).mono ?_
          rintro e w3 ⟨c, hc, rfl, k3⟩
          have K3 := hide ((unhide K2).trans k3)
          clear k3
          go_wp2
          exact ⟨rfl, by rw [unhide HE]; exact ⟨c, hc, rfl, unhide K3⟩⟩
        | some t2 =>
          obtain ⟨v, q⟩ := t2
          rw [hx] at hB2 HTX
          dsimp only at HTX hB2
          have HE := hide hB2
          clear hx hB2
          go_wp2_with fail
          refine (unhide HTX _ (unhide C2)).mono ?_
          rintro e w3 ⟨rfl, hc3, k3⟩
          have x3 := kx_bx (unhide X2) k3 (by omega)
          have f3 := kx_bx (unhide F2) k3 (by omega)
          have kk3 := (unhide K2).trans k3
          obtain ⟨V5, hV5⟩ : ∃ V, V = w3.setCell ⟨fb, 1, none⟩ (.string v) := ⟨_, rfl⟩
          have X5 := hide (show Bx V5 w.heap.size [.string ⟨#[]⟩, .string ⟨#[]⟩] by rw [hV5]; exact x3.other (by omega))
          have F5 := hide (show Bx V5 fb [.string nm, .string v] by rw [hV5]; exact f3.set (i := 1) (by simp))
          have C5 := hide (show Cc V5 cb s (p + k + q) told by rw [hV5]; exact cc_new hc3 (by omega))
          have K5 := hide (show Kx cb w V5 by rw [hV5]; exact kx_new kk3 (by show w.heap.size ≤ fb; omega) _)
          have HV := hide hV5
          have y0 := f3.cv
          have yl := f3.lt
          have yf := f3.fz
          clear x3 f3 kk3 hc3 k3 hV5 X2 F2 C2 K2 HTX
          go_upto_region 7 with fail
          rw [← unhide HV]
          clear HV y0 yl yf
          have y0 := (unhide F5).cv
          have yl := (unhide F5).lt
          have z0 := (unhide X5).cv
          have zl := (unhide X5).lt
          have zf := (unhide X5).fz
          go_wp2
          have hF := ((unhide X5).set (i := 0) (u := .string nm) (by simp)).set (i := 1) (u := .string v) (by simp)
          have hKF := kx_new (kx_new (unhide K5) (p := ⟨w.heap.size, 0, none⟩) (Nat.le_refl _) (.string nm)) (p := ⟨w.heap.size, 1, none⟩) (Nat.le_refl _) (.string v)
          have hCF := cc_new (b := w.heap.size) (o := 1) (u := .string v) (cc_new (b := w.heap.size) (o := 0) (u := .string nm) (unhide C5) (by omega)) (by omega)
          generalize ((V5.setCell ⟨w.heap.size, 0, none⟩ (.string nm)).setCell ⟨w.heap.size, 1, none⟩ (.string v)) = U at *
          have c0 : U.cell? ⟨w.heap.size, 0, none⟩ = some (.string nm) := hF.cv 0
          have c1 : U.cell? ⟨w.heap.size, 1, none⟩ = some (.string v) := hF.cv 1
          exact bodyPost_ret (v := .agg #[.string nm, .string v]) (by simp [results, Tryd.results34, go_sem, c0, c1]) rfl (by rw [unhide HE]; exact ⟨rfl, by rw [← Nat.add_assoc]; exact hCF, hKF⟩)
    · have hI2 : ¬ (80 : Int) ≤ (u : Int) := by omega
      have hC2 := hC h192 h80
      have HTX := hide (implTX cb p 3 s told w1 hs (by omega) (by omega) (by omega) (unhide C1))
      clear hA hB hC
      cases ho : tkX (dr s p) 3 with
      | none =>
        rw [ho] at hC2 HTX
        dsimp only at HTX hC2
        have HE := hide hC2
        clear ho hC2
        go_wp2_with fail
        refine (unhide HTX).mono ?_
        rintro e w2 ⟨c, hc, rfl, k2⟩
        have K2 := hide ((unhide K1).trans k2)
        clear k2
        go_wp2
        exact ⟨rfl, by rw [unhide HE]; exact ⟨c, hc, rfl, unhide K2⟩⟩
      | some t =>
        obtain ⟨nm, k⟩ := t
        have hk := tkX_k ho
        rw [dr_len] at hk
        rw [ho] at hC2 HTX
        dsimp only at HTX hC2
        clear ho
        have HTY := hide (fun W h => implTX cb (p + k) 7 s told W hs (by omega) (by omega) (by omega) h)
        go_wp2_with fail
        refine (unhide HTX).mono ?_
        rintro e w2 ⟨rfl, hc2, k2⟩
        have K2 := hide ((unhide K1).trans k2)
        have X2 := hide (kx_bx (unhide X1) k2 (by omega))
        have C2 := hide hc2
        clear k2 hc2 HTX
        cases hx : tkX (dr s (p + k)) 7 with
        | none =>
          rw [hx] at hC2 HTY
          dsimp only at HTY hC2
          have HE := hide hC2
          clear hx hC2
          go_wp2_with fail
          refine (unhide HTY _ (unhide C2)).mono ?_
          rintro e w3 ⟨c, hc, rfl, k3⟩
          have K3 := hide ((unhide K2).trans k3)
          clear k3
          go_wp2
          exact ⟨rfl, by rw [unhide HE]; exact ⟨c, hc, rfl, unhide K3⟩⟩
        | some t2 =>
          obtain ⟨v, q⟩ := t2
          rw [hx] at hC2 HTY
          dsimp only at HTY hC2
          have HE := hide hC2
          clear hx hC2
          go_wp2_with fail
          refine (unhide HTY _ (unhide C2)).mono ?_
          rintro e w3 ⟨rfl, hc3, k3⟩
          have X5 := hide (kx_bx (unhide X2) k3 (by omega))
          have K5 := hide ((unhide K2).trans k3)
          have C5 := hide hc3
          clear k3 hc3
          have z0 := (unhide X5).cv
          have zl := (unhide X5).lt
          have zf := (unhide X5).fz
          go_wp2
          have hF := ((unhide X5).set (i := 0) (u := .string nm) (by simp)).set (i := 1) (u := .string v) (by simp)
          have hKF := kx_new (kx_new (unhide K5) (p := ⟨w.heap.size, 0, none⟩) (Nat.le_refl _) (.string nm)) (p := ⟨w.heap.size, 1, none⟩) (Nat.le_refl _) (.string v)
          have hCF := cc_new (b := w.heap.size) (o := 1) (u := .string v) (cc_new (b := w.heap.size) (o := 0) (u := .string nm) (unhide C5) (by omega)) (by omega)
          generalize ((w3.setCell ⟨w.heap.size, 0, none⟩ (.string nm)).setCell ⟨w.heap.size, 1, none⟩ (.string v)) = U at *
          have c0 : U.cell? ⟨w.heap.size, 0, none⟩ = some (.string nm) := hF.cv 0
          have c1 : U.cell? ⟨w.heap.size, 1, none⟩ = some (.string v) := hF.cv 1
          exact bodyPost_ret (v := .agg #[.string nm, .string v]) (by simp [results, Tryd.results34, go_sem, c0, c1]) rfl (by rw [unhide HE]; exact ⟨rfl, by rw [← Nat.add_assoc]; exact hCF, hKF⟩)
end Go.Proofs.YtidgjjbdabifnabDoor.Rc
