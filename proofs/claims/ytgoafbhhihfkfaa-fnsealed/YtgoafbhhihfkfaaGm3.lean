/-
  Mixing three times is mixing by 14, 11, 13, 9.
-/
import Derived.Test.YtgoafbhhihfkfaaGsm
import Derived.Test.YtgoafbhhihfkfaaGfpX
namespace Go.Proofs.Ytgoafbhhihfkfaa
open Go.ChangeShapes Go.WideShapes Go.ChangeAt Go.RowKit
set_option linter.unusedVariables false

theorem mul_big : ∀ x : Fin 256, mul 14 x = dbl (dbl (dbl x)) ^^^ dbl (dbl x) ^^^ dbl x ∧ mul 11 x = dbl (dbl (dbl x)) ^^^ dbl x ^^^ x ∧ mul 13 x = dbl (dbl (dbl x)) ^^^ dbl (dbl x) ^^^ x ∧ mul 9 x = dbl (dbl (dbl x)) ^^^ x := by decide +kernel
theorem mulB (x : Nat) (h : x < 256) : mul 14 x = dbl (dbl (dbl x)) ^^^ dbl (dbl x) ^^^ dbl x ∧ mul 11 x = dbl (dbl (dbl x)) ^^^ dbl x ^^^ x ∧ mul 13 x = dbl (dbl (dbl x)) ^^^ dbl (dbl x) ^^^ x ∧ mul 9 x = dbl (dbl (dbl x)) ^^^ x := mul_big ⟨x, h⟩
theorem dbl_mx (p q r s : Nat) (hp : p < 256) (hq : q < 256) (hr : r < 256) (hs : s < 256) : dbl (mx1 p q r s) = dbl (dbl p) ^^^ dbl (dbl q) ^^^ dbl q ^^^ dbl r ^^^ dbl s := by
  unfold mx1
  have h1 := xor_lt _ _ (dbl_lt p hp) (dbl_lt q hq)
  have h2 := xor_lt _ _ h1 hq
  have h3 := xor_lt _ _ h2 hr
  rw [dbl_xor _ _ h3 hs, dbl_xor _ _ h2 hr, dbl_xor _ _ h1 hq, dbl_xor _ _ (dbl_lt p hp) (dbl_lt q hq)]
theorem mx_two (F : Nat → Nat) (hF : ∀ i, F i < 256) (i : Nat) (hi : i < 4) : mixc (mixc F) i = dbl (dbl (F i)) ^^^ F i ^^^ dbl (dbl (F ((i + 2) % 4))) := by
  have hm : ∀ j, mixc F j = mx1 (F j) (F ((j + 1) % 4)) (F ((j + 2) % 4)) (F ((j + 3) % 4)) := fun j => rfl
  show mx1 (mixc F i) (mixc F ((i + 1) % 4)) (mixc F ((i + 2) % 4)) (mixc F ((i + 3) % 4)) = _
  rw [show mx1 (mixc F i) (mixc F ((i + 1) % 4)) (mixc F ((i + 2) % 4)) (mixc F ((i + 3) % 4)) = dbl (mixc F i) ^^^ dbl (mixc F ((i + 1) % 4)) ^^^ mixc F ((i + 1) % 4) ^^^ mixc F ((i + 2) % 4) ^^^ mixc F ((i + 3) % 4) from rfl]
  rw [hm i, hm ((i + 1) % 4), hm ((i + 2) % 4), hm ((i + 3) % 4), dbl_mx _ _ _ _ (hF _) (hF _) (hF _) (hF _), dbl_mx _ _ _ _ (hF _) (hF _) (hF _) (hF _)]
  rw [show ((i + 1) % 4 + 1) % 4 = (i + 2) % 4 by omega, show ((i + 1) % 4 + 2) % 4 = (i + 3) % 4 by omega, show ((i + 1) % 4 + 3) % 4 = i by omega,
    show ((i + 2) % 4 + 1) % 4 = (i + 3) % 4 by omega, show ((i + 2) % 4 + 2) % 4 = i by omega, show ((i + 2) % 4 + 3) % 4 = (i + 1) % 4 by omega,
    show ((i + 3) % 4 + 1) % 4 = i by omega, show ((i + 3) % 4 + 2) % 4 = (i + 1) % 4 by omega, show ((i + 3) % 4 + 3) % 4 = (i + 2) % 4 by omega]
  unfold mx1
  generalize dbl (dbl (F i)) = z0
  generalize dbl (dbl (F ((i + 1) % 4))) = z1
  generalize dbl (dbl (F ((i + 2) % 4))) = z2
  generalize dbl (F i) = y0
  generalize dbl (F ((i + 1) % 4)) = y1
  generalize dbl (F ((i + 2) % 4)) = y2
  generalize dbl (F ((i + 3) % 4)) = y3
  generalize F i = x0
  generalize F ((i + 1) % 4) = x1
  generalize F ((i + 2) % 4) = x2
  generalize F ((i + 3) % 4) = x3
  simp only [Nat.xor_comm, xor_left, xor_back, Nat.xor_self, Nat.xor_zero]
theorem mixg3_eq (F : Nat → Nat) (hF : ∀ i, F i < 256) (i : Nat) (hi : i < 4) : mixg (q4 14 11 13 9) F i = mixc (mixc (mixc F)) i := by
  have e0 : (i + 0) % 4 = i := by omega
  show 0 ^^^ mul 14 (F ((i + 0) % 4)) ^^^ mul 11 (F ((i + 1) % 4)) ^^^ mul 13 (F ((i + 2) % 4)) ^^^ mul 9 (F ((i + 3) % 4)) = _
  rw [e0, (mulB _ (hF i)).1, (mulB _ (hF ((i + 1) % 4))).2.1, (mulB _ (hF ((i + 2) % 4))).2.2.1, (mulB _ (hF ((i + 3) % 4))).2.2.2, Nat.zero_xor]
  rw [mx_two (mixc F) (mixc_lt F hF) i hi]
  have hm : ∀ j, mixc F j = mx1 (F j) (F ((j + 1) % 4)) (F ((j + 2) % 4)) (F ((j + 3) % 4)) := fun j => rfl
  have hd : ∀ j, dbl (dbl (mixc F j)) = dbl (dbl (dbl (F j))) ^^^ dbl (dbl (dbl (F ((j + 1) % 4)))) ^^^ dbl (dbl (F ((j + 1) % 4))) ^^^ dbl (dbl (F ((j + 2) % 4))) ^^^ dbl (dbl (F ((j + 3) % 4))) := fun j => by
    rw [hm j, dbl_mx _ _ _ _ (hF _) (hF _) (hF _) (hF _)]
    have d1 := fun j => dbl_lt (F j) (hF j)
    have d2 := fun j => dbl_lt _ (d1 j)
    have h1 := xor_lt _ _ (d2 j) (d2 ((j + 1) % 4))
    have h2 := xor_lt _ _ h1 (d1 ((j + 1) % 4))
    have h3 := xor_lt _ _ h2 (d1 ((j + 2) % 4))
    rw [dbl_xor _ _ h3 (d1 _), dbl_xor _ _ h2 (d1 _), dbl_xor _ _ h1 (d1 _), dbl_xor _ _ (d2 _) (d2 _)]
  rw [hd i, hd ((i + 2) % 4), hm i]
  rw [show ((i + 2) % 4 + 1) % 4 = (i + 3) % 4 by omega, show ((i + 2) % 4 + 2) % 4 = i by omega, show ((i + 2) % 4 + 3) % 4 = (i + 1) % 4 by omega]
  unfold mx1
  generalize dbl (dbl (dbl (F i))) = t0
  generalize dbl (dbl (dbl (F ((i + 1) % 4)))) = t1
  generalize dbl (dbl (dbl (F ((i + 2) % 4)))) = t2
  generalize dbl (dbl (dbl (F ((i + 3) % 4)))) = t3
  generalize dbl (dbl (F i)) = z0
  generalize dbl (dbl (F ((i + 1) % 4))) = z1
  generalize dbl (dbl (F ((i + 2) % 4))) = z2
  generalize dbl (dbl (F ((i + 3) % 4))) = z3
  generalize dbl (F i) = y0
  generalize dbl (F ((i + 1) % 4)) = y1
  generalize F i = x0
  generalize F ((i + 1) % 4) = x1
  generalize F ((i + 2) % 4) = x2
  generalize F ((i + 3) % 4) = x3
  simp only [Nat.xor_comm, xor_left, xor_back]
end Go.Proofs.Ytgoafbhhihfkfaa
