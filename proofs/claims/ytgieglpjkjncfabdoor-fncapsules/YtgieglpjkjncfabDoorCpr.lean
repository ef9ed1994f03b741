/-
  Capsules come back from their bytes (pure).
-/
import Derived.Test.YtgieglpjkjncfabDoorCpp
import Derived.Test.YtgieglpjkjncfabDoorCpb
import Derived.Test.YtgieglpjkjncfabDoorVtv
namespace Go.Proofs.YtgieglpjkjncfabDoor.Rc
set_option linter.unusedVariables false
set_option maxRecDepth 100000

/-! what is told comes back -/
theorem rd1_back {D : CapsuleD} (h : gdC D = true) (t : List UInt8) : rd1 (cbC D ++ t) = some (some (D, (cbC D).length)) := by
  unfold gdC k62 at h
  simp only [Bool.and_eq_true, decide_eq_true_eq] at h
  obtain ⟨⟨h0, h1⟩, h2⟩ := h
  have p0 := vsz_le D.f0
  have p1 := vsz_le (D.f1.size : Int)
  have l0 := vb_length D.f0
  have l1 := vb_length (D.f1.size : Int)
  have hl : D.f1.data.toList.length = D.f1.size := by rw [Array.length_toList]; rfl
  have e : cbC D ++ t = vb D.f0 ++ (vb D.f1.size ++ (D.f1.data.toList ++ t)) := by unfold cbC; simp
  have eL : (cbC D).length = vsz D.f0 + vsz D.f1.size + D.f1.size := by unfold cbC; simp only [List.length_append]; omega
  rw [e, eL]
  unfold rd1
  rw [vb_tk D.f0 h0 h1]
  dsimp only
  rw [if_neg (by omega), List.drop_left' l0, vb_tk _ (by omega) (by omega)]
  unfold rdB
  dsimp only
  rw [if_neg (by omega), if_neg (by omega), if_neg (by simp only [List.length_append]; omega)]
  rw [← List.drop_drop, List.drop_left' l0, List.drop_left' l1, Int.toNat_natCast, List.take_left' hl]
theorem wh_back : ∀ (L : List CapsuleD) (t : List UInt8), L.all gdC = true → wh (cbL L ++ t) = (L ++ (wh t).1, (cbL L).length + (wh t).2.1, (wh t).2.2)
  | [], t, _ => by simp [cbL]
  | D :: L, t, h => by
    rw [List.all_cons, Bool.and_eq_true] at h
    have e : cbL (D :: L) ++ t = cbC D ++ (cbL L ++ t) := by simp [cbL]
    rw [e, wh_one (rd1_back h.1 _), List.drop_left, wh_back L t h.2]
    simp [cbL, Nat.add_assoc]
theorem fd_back {L : List CapsuleD} (h : gdL L = true) : fdC (cbL L) = some (L, (cbL L).length) := by
  unfold gdL at h
  rw [Bool.and_eq_true, decide_eq_true_eq] at h
  have e := wh_back L [] h.2
  rw [List.append_nil, wh_nil] at e
  unfold fdC
  rw [e]
  simp [h.1]
end Go.Proofs.YtgieglpjkjncfabDoor.Rc
