/-
  Contracts of the program: a field of the static table is read.
-/
import Derived.Test.YtidgjjbdabifnabDoorFrc
namespace Go.Proofs.YtidgjjbdabifnabDoor.Rc
open Go.ChangeShapes Go.WideShapes Go.ChangeAt Go.RowKit Go.Deep
set_option linter.unusedVariables false
set_option maxRecDepth 100000

theorem Sf.kx {cb : Nat} {w w' : World} (h : Sf w) (k : Kx cb w w') (hne : 0 ≠ cb) : Sf w' :=
  ⟨Nat.lt_of_lt_of_le h.1 k.size, fun q hq => (k.cell (p := ⟨0, q, none⟩) h.1 hne).trans (h.2 q hq)⟩
theorem kx_bx {cb b : Nat} {w w' : World} {xs : List Value} (h : Bx w b xs) (k : Kx cb w w') (hne : b ≠ cb) : Bx w' b xs := h.kept k.size (k.block b h.lt hne)
/-- what stays when a box of the call's own turns -/
theorem kx_new {cb : Nat} {a w : World} (h : Kx cb a w) {p : Addr} (hp : a.heap.size ≤ p.block) (u : Value) : Kx cb a (w.setCell p u) :=
  ⟨h.os, h.tape, h.output, by simpa [World.setCell] using h.size, fun k hk hne => (Below.heap_setCell _ _ _ _ (by omega)).trans (h.block k hk hne)⟩
theorem cc_new {w : World} {cb p b o : Nat} {s : ByteArray} {told : Int} {u : Value} (h : Cc w cb s p told) (hne : b ≠ cb) : Cc (w.setCell ⟨b, o, none⟩ u) cb s p told := by
  have e : (w.setCell ⟨b, o, none⟩ u).heap[cb]? = w.heap[cb]? := Below.heap_setCell _ _ _ _ (fun e => hne e.symm)
  exact ⟨by simpa using h.lt, (World.cell?_of_block (a := ⟨cb, 0, none⟩) e).trans h.c0, (World.cell?_of_block (a := ⟨cb, 1, none⟩) e).trans h.c1, (World.cell?_of_block (a := ⟨cb, 2, none⟩) e).trans h.c2, fun o => (World.frozen?_of_block (a := ⟨cb, o, none⟩) e).trans (h.fz o)⟩
/-- what a step of reading comes to -/
def Rs (cb p : Nat) (s : ByteArray) (told : Int) (w : World) (o : Option (FieldD × Nat)) (e : Ending) (w' : World) : Prop := match o with
  | some (D, k) => e = .returned (fieldV D) ∧ Cc w' cb s (p + k) told ∧ Kx cb w w'
  | none => Up cb w e w'
/-- a field of the table, told by a number -/
def sdO (l : List UInt8) (b : Nat) : Option (FieldD × Nat) := match tkP l b with | none => none | some (k, _, n) => if 15 < k then none else some (gt fieldK sT k, n)
set_option maxHeartbeats 4000000 in
theorem implSD (cb p b : Nat) (s : ByteArray) (told : Int) (w : World) (hs : s.size ≤ 1048576) (hp : p ≤ s.size) (h0 : 3 ≤ b) (h1 : b ≤ 8) (h : Cc w cb s p told) (hS : Sf w) (hne : 0 ≠ cb) :
    Calls Tryd.prog 45 #[.pointer (some ⟨cb, 0, none⟩), .int .i64 b] w fun e w' => Rs cb p s told w (sdO (dr s p) b) e w' := by
  obtain ⟨W, hW⟩ : ∃ W, W = w.alloc (.cells #[.string ⟨#[]⟩, .string ⟨#[]⟩] 33) := ⟨_, rfl⟩
  have hbW : Below w.heap.size w W := by rw [hW]; exact (Below.refl w.heap.size w).alloc (Nat.le_refl _) _
  have hbx : Bx W w.heap.size [.string ⟨#[]⟩, .string ⟨#[]⟩] := by rw [hW]; exact Bx.new w _ _
  have HP := hide (implPx cb p b s told W hs hp h0 h1 (h.below hbW))
  have HX := hide hbx
  have HSW := hide (hS.below hbW)
  have HKW := hide (Kx.of (cb := cb) hbW)
  have HW := hide hW
  have hcl := h.lt
  clear h hS hbW hbx hW
  unfold sdO
  cases hk : tkP (dr s p) b with
  | none =>
    rw [hk] at HP
    dsimp only at HP ⊢
    unfold Rs
    dsimp only
    go_enter Tryd.func45, Tryd.ntmps45
    go_upto_region 1 with fail
    rw [← unhide HW]
    clear HW
    go_wp2_with fail
    refine (unhide HP).mono ?_
    rintro e w1 ⟨c, hc, rfl, k1⟩
    have K1 := hide ((unhide HKW).trans k1)
    clear k1
    go_wp2
    exact ⟨rfl, c, hc, rfl, unhide K1⟩
  | some t =>
    obtain ⟨n, hh, k⟩ := t
    rw [hk] at HP
    dsimp only at HP ⊢
    clear hk
    have HSF := hide (fun W h => implSF (n : Int) W h)
    by_cases hn : 15 < n
    · rw [if_pos hn]
      unfold Rs
      dsimp only
      have e1 : sfB (n : Int) = false := by unfold sfB; simp; omega
      rw [e1] at HSF
      generalize sfD (n : Int) = D at *
      clear e1
      go_enter Tryd.func45, Tryd.ntmps45
      go_upto_region 1 with fail
      rw [← unhide HW]
      clear HW
      go_wp2_with fail
      refine (unhide HP).mono ?_
      rintro e w1 ⟨rfl, hc1, k1⟩
      have K1 := hide ((unhide HKW).trans k1)
      have S1 := hide ((unhide HSW).kx k1 hne)
      clear k1 hc1
      go_wp2_with fail
      refine (unhide HSF _ (unhide S1)).mono ?_
      rintro e w2 ⟨rfl, b2⟩
      have K2 := hide ((unhide K1).trans (Kx.of b2))
      have K3 := hide ((unhide K2).trans (Kx.of ((Below.refl w2.heap.size w2).alloc (Nat.le_refl _) (.cells #[.string D.f0, .string D.f1] 33))))
      clear b2
      go_wp2
      exact ⟨rfl, 2, Or.inr rfl, rfl, unhide K3⟩
    · rw [if_neg hn]
      unfold Rs
      dsimp only
      have e1 : sfB (n : Int) = true := by unfold sfB; simp; omega
      have e2 : sfD (n : Int) = gt fieldK sT n := by unfold sfD; rw [if_pos (by omega)]; rfl
      rw [e1, e2] at HSF
      generalize gt fieldK sT n = D at *
      obtain ⟨nm, vl⟩ := D
      clear e1 e2
      go_enter Tryd.func45, Tryd.ntmps45
      go_upto_region 1 with fail
      rw [← unhide HW]
      clear HW
      go_wp2_with fail
      refine (unhide HP).mono ?_
      rintro e w1 ⟨rfl, hc1, k1⟩
      have K1 := hide ((unhide HKW).trans k1)
      have S1 := hide ((unhide HSW).kx k1 hne)
      have X1 := hide (kx_bx (unhide HX) k1 (by omega))
      have C1 := hide hc1
      clear k1 hc1
      go_wp2_with fail
      refine (unhide HSF _ (unhide S1)).mono ?_
      rintro e w2 ⟨rfl, b2⟩
      obtain ⟨V, hV⟩ : ∃ V, V = w2.alloc (.cells #[.string nm, .string vl] 33) := ⟨_, rfl⟩
      have bV : Below w2.heap.size w2 V := by rw [hV]; exact (Below.refl _ _).alloc (Nat.le_refl _) _
      have b3 := b2.trans (bV.mono b2.size)
      have K3 := hide ((unhide K1).trans (Kx.of b3))
      have X3 := hide ((unhide X1).below b3)
      have C3 := hide ((unhide C1).below b3)
      have F3 := hide (show Bx V w2.heap.size [.string nm, .string vl] by rw [hV]; exact Bx.new w2 _ _)
      have HV := hide hV
      clear b2 b3 bV hV
      go_upto_region 2 with fail
      rw [← unhide HV]
      clear HV
      have y0 := (unhide F3).cv
      have yl := (unhide F3).lt
      have z0 := (unhide X3).cv
      have zl := (unhide X3).lt
      have zf := (unhide X3).fz
      go_wp2
      have hF := ((unhide X3).set (i := 0) (u := .string nm) (by simp)).set (i := 1) (u := .string vl) (by simp)
      have hKF := kx_new (kx_new (unhide K3) (p := ⟨w.heap.size, 0, none⟩) (Nat.le_refl _) (.string nm)) (p := ⟨w.heap.size, 1, none⟩) (Nat.le_refl _) (.string vl)
      have hCF := cc_new (b := w.heap.size) (o := 1) (u := .string vl) (cc_new (b := w.heap.size) (o := 0) (u := .string nm) (unhide C3) (by omega)) (by omega)
      generalize ((V.setCell ⟨w.heap.size, 0, none⟩ (.string nm)).setCell ⟨w.heap.size, 1, none⟩ (.string vl)) = U at *
      have c0 : U.cell? ⟨w.heap.size, 0, none⟩ = some (.string nm) := hF.cv 0
      have c1 : U.cell? ⟨w.heap.size, 1, none⟩ = some (.string vl) := hF.cv 1
      exact bodyPost_ret (v := .agg #[.string nm, .string vl]) (by simp [results, Tryd.results45, go_sem, c0, c1]) rfl ⟨rfl, hCF, hKF⟩
end Go.Proofs.YtidgjjbdabifnabDoor.Rc
