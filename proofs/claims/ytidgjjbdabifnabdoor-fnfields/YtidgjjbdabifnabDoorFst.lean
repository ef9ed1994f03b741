/-
  The static table, of both sides: where it lies, StaticField.
-/
import Derived.Test.YtidgjjbdabifnabDoorFpf
import Derived.Test.YtidgjjbdabifnabDoorFpb
namespace Go.Proofs.YtidgjjbdabifnabDoor.Rc
open Go.ChangeShapes Go.WideShapes Go.ChangeAt Go.RowKit Go.Deep
set_option linter.unusedVariables false
set_option maxRecDepth 100000

/-- the program's table lies there -/
def Sf (w : World) : Prop := 0 < w.heap.size ∧ ∀ q, q < sT.length * fieldK.m → w.cell? ⟨0, q, none⟩ = some (cl fieldK sT q)
theorem Sf.below {w w' : World} (h : Sf w) (hb : Below w.heap.size w w') : Sf w' := ⟨Nat.lt_of_lt_of_le h.1 hb.size, fun q hq => (hb.cell (p := ⟨0, q, none⟩) h.1).trans (h.2 q hq)⟩
theorem Sf.el {w : World} (h : Sf w) : ∀ q, q < sT.length * fieldK.m → w.cell? ⟨0, 0 + q, none⟩ = some (cl fieldK sT q) := fun q hq => by rw [Nat.zero_add]; exact h.2 q hq
theorem sT_len : sT.length = 16 := rfl
theorem sT_row : (sT.flatMap fieldK.f).toArray = #[.string ⟨#[58, 97, 117, 116, 104, 111, 114, 105, 116, 121]⟩, .string ⟨#[]⟩, .string ⟨#[58, 112, 97, 116, 104]⟩, .string ⟨#[47]⟩, .string ⟨#[58, 109, 101, 116, 104, 111, 100]⟩, .string ⟨#[67, 79, 78, 78, 69, 67, 84]⟩, .string ⟨#[58, 109, 101, 116, 104, 111, 100]⟩, .string ⟨#[71, 69, 84]⟩, .string ⟨#[58, 109, 101, 116, 104, 111, 100]⟩, .string ⟨#[80, 79, 83, 84]⟩, .string ⟨#[58, 115, 99, 104, 101, 109, 101]⟩, .string ⟨#[104, 116, 116, 112]⟩, .string ⟨#[58, 115, 99, 104, 101, 109, 101]⟩, .string ⟨#[104, 116, 116, 112, 115]⟩, .string ⟨#[58, 115, 116, 97, 116, 117, 115]⟩, .string ⟨#[50, 48, 48]⟩, .string ⟨#[58, 115, 116, 97, 116, 117, 115]⟩, .string ⟨#[52, 48, 52]⟩, .string ⟨#[58, 115, 116, 97, 116, 117, 115]⟩, .string ⟨#[53, 48, 51]⟩, .string ⟨#[58, 112, 114, 111, 116, 111, 99, 111, 108]⟩, .string ⟨#[99, 111, 110, 110, 101, 99, 116, 45, 117, 100, 112]⟩, .string ⟨#[99, 97, 112, 115, 117, 108, 101, 45, 112, 114, 111, 116, 111, 99, 111, 108]⟩, .string ⟨#[63, 49]⟩, .string ⟨#[99, 111, 110, 116, 101, 110, 116, 45, 108, 101, 110, 103, 116, 104]⟩, .string ⟨#[48]⟩, .string ⟨#[100, 97, 116, 101]⟩, .string ⟨#[]⟩, .string ⟨#[117, 115, 101, 114, 45, 97, 103, 101, 110, 116]⟩, .string ⟨#[]⟩, .string ⟨#[97, 99, 99, 101, 112, 116]⟩, .string ⟨#[42, 47, 42]⟩] := rfl
set_option maxHeartbeats 1000000 in
theorem specSt (w : World) : Calls Tryd.prog 28 #[] w fun e w' => e = .returned (.slice (some ⟨w.heap.size, 0, none⟩) 16 16) ∧ Rd fieldK w' (some ⟨w.heap.size, 0, none⟩) sT ∧ w.heap.size < w'.heap.size ∧ Below w.heap.size w w' := by
  have hbx := Bx.new w (sT.flatMap fieldK.f) 33
  have hB := (Below.refl w.heap.size w).alloc (Nat.le_refl _) (.cells (sT.flatMap fieldK.f).toArray 33)
  rw [sT_row] at hbx hB
  have HX := hide (And.intro hbx hB)
  clear hbx hB
  go_enter Tryd.func28, Tryd.ntmps28
  go_wp2
  go_ret
  obtain ⟨hbx, hB⟩ := unhide HX
  refine ⟨rfl, Or.inr ⟨w.heap.size, 0, rfl, hbx.lt, fun q hq => ?_⟩, hbx.lt, hB⟩
  rw [Nat.zero_add]
  exact (hbx.cv q).trans (fl_get fieldK sT q hq)
/-- the field at a place of the table -/
def sfD (k : Int) : FieldD := if 0 ≤ k ∧ k ≤ 15 then gt fieldK sT k.toNat else ⟨⟨#[]⟩, ⟨#[]⟩⟩
def sfB (k : Int) : Bool := decide (0 ≤ k) && decide (k ≤ 15)
set_option maxHeartbeats 2000000 in
theorem implSF (k : Int) (w : World) (h : Sf w) : Calls Tryd.prog 14 #[.int .i64 k] w fun e w' => e = .returned (.tuple #[fieldV (sfD k), .bool (sfB k)]) ∧ Below w.heap.size w w' := by
  have H := hide (fun w => btP 0 k 15 w)
  have al : Hid (∀ o, Below w.heap.size w (w.alloc o)) := fun o => (Below.refl w.heap.size w).alloc (Nat.le_refl _) o
  by_cases hk : 0 ≤ k ∧ k ≤ 15
  · obtain ⟨n, rfl⟩ := Int.eq_ofNat_of_zero_le hk.1
    have hd : (decide ((0 : Int) ≤ (n : Int)) && decide ((n : Int) ≤ 15)) = true := by simp; omega
    rw [hd] at H
    have HE := hide (show sfB (n : Int) = true from hd)
    have HD := hide (show sfD (n : Int) = gt fieldK sT n by unfold sfD; rw [if_pos hk]; rfl)
    have hn : n < sT.length := by rw [sT_len]; omega
    have hn16 : n < 16 := by omega
    have hp1 : ((n : Int)) < 16 := by omega
    obtain ⟨W, hW⟩ : ∃ W, W = w.alloc (.cells #[.string ⟨#[]⟩, .string ⟨#[]⟩] 33) := ⟨_, rfl⟩
    have hS := h.below (show Below w.heap.size w W by rw [hW]; exact unhide al _)
    have x0 := field_r0 hS.el hn
    have x1 := field_r1 hS.el hn
    simp only [Nat.zero_add] at x0 x1
    have hbW : Hid (Below w.heap.size w W) := by rw [hW]; exact unhide al _
    have hbx : Bx W w.heap.size [.string ⟨#[]⟩, .string ⟨#[]⟩] := by rw [hW]; exact Bx.new w _ _
    have y0 := hbx.cv
    have yl := hbx.lt
    have yz := hbx.fz
    have HBX := hide hbx
    clear hbx
    have HW := hide hW
    generalize gt fieldK sT n = D at *
    obtain ⟨nm, vl⟩ := D
    dsimp only at x0 x1
    clear hd hk hS hW hn h
    go_enter Tryd.func14, Tryd.ntmps14
    go_upto_region 1 with fail
    rw [← unhide HW]
    clear HW
    go_wp2_with fail
    refine (unhide H _).mono ?_
    rintro e w1 ⟨rfl, h9⟩
    rw [h9]
    clear h9 w1
    go_wp2
    have hF := ((unhide HBX).set (i := 0) (u := .string nm) (by simp)).set (i := 1) (u := .string vl) (by simp)
    have hBF := ((unhide hbW).setCell (p := ⟨w.heap.size, 0, none⟩) (Nat.le_refl _) (.string nm)).setCell (p := ⟨w.heap.size, 1, none⟩) (Nat.le_refl _) (.string vl)
    generalize ((W.setCell ⟨w.heap.size, 0, none⟩ (.string nm)).setCell ⟨w.heap.size, 1, none⟩ (.string vl)) = V at *
    have c0 : V.cell? ⟨w.heap.size, 0, none⟩ = some (.string nm) := hF.cv 0
    have c1 : V.cell? ⟨w.heap.size, 1, none⟩ = some (.string vl) := hF.cv 1
    refine bodyPost_ret (v := .tuple #[.agg #[.string nm, .string vl], .bool true]) (by simp [results, Tryd.results14, go_sem, c0, c1]) rfl ⟨by rw [unhide HE, unhide HD], hBF⟩
  · have hd : (decide ((0 : Int) ≤ k) && decide (k ≤ 15)) = false := by
      rw [← Bool.not_eq_true]
      simp only [Bool.and_eq_true, decide_eq_true_eq]
      exact hk
    rw [hd] at H
    have HE := hide (show sfB k = false from hd)
    have HD := hide (show sfD k = ⟨⟨#[]⟩, ⟨#[]⟩⟩ by unfold sfD; rw [if_neg hk])
    clear hd hk h
    go_enter Tryd.func14, Tryd.ntmps14
    go_wp2_with fail
    refine (unhide H _).mono ?_
    rintro e w1 ⟨rfl, h9⟩
    rw [h9]
    clear h9 w1
    go_wp2
    refine bodyPost_ret (v := .tuple #[.agg #[.string ⟨#[]⟩, .string ⟨#[]⟩], .bool false]) (by simp [results, Tryd.results14, go_sem]) rfl ⟨by rw [unhide HE, unhide HD], ?_⟩
    repeat (refine Below.setCell ?_ (by simp) _)
    exact unhide al _
set_option maxHeartbeats 2000000 in
theorem specSF (k : Int) (w : World) : Calls Tryd.prog 15 #[.int .i64 k] w fun e w' => e = .returned (.tuple #[fieldV (sfD k), .bool (sfB k)]) ∧ Below w.heap.size w w' := by
  have H := hide (fun w => l1In_any k 0 15 w)
  have al : Hid (∀ o, Below w.heap.size w (w.alloc o)) := fun o => (Below.refl w.heap.size w).alloc (Nat.le_refl _) o
  by_cases hk : 0 ≤ k ∧ k ≤ 15
  · obtain ⟨n, rfl⟩ := Int.eq_ofNat_of_zero_le hk.1
    have hd : (decide ((0 : Int) ≤ (n : Int)) && decide ((n : Int) ≤ 15)) = true := by simp; omega
    rw [hd] at H
    have HE := hide (show sfB (n : Int) = true from hd)
    have HD := hide (show sfD (n : Int) = gt fieldK sT n by unfold sfD; rw [if_pos hk]; rfl)
    have HN := hide (show n < sT.length by rw [sT_len]; omega)
    have hn16 : n < 16 := by omega
    have hp1 : ((n : Int)) < 16 := by omega
    obtain ⟨W, hW⟩ : ∃ W, W = w.alloc (.cells #[.string ⟨#[]⟩, .string ⟨#[]⟩] 33) := ⟨_, rfl⟩
    have hbW : Hid (Below w.heap.size w W) := by rw [hW]; exact unhide al _
    have hbx : Bx W w.heap.size [.string ⟨#[]⟩, .string ⟨#[]⟩] := by rw [hW]; exact Bx.new w _ _
    have HBX := hide hbx
    have HW := hide hW
    clear hd hk hW hbx
    go_enter Tryd.func15, Tryd.ntmps15
    go_upto_region 1 with fail
    rw [← unhide HW]
    clear HW
    go_wp2_with fail
    refine (unhide H _).mono ?_
    rintro e w1 ⟨rfl, h9⟩
    rw [← h9]
    clear h9 w1
    go_wp2_with fail
    refine (specSt W).mono ?_
    rintro e w1 ⟨rfl, hR, hlt, b1⟩
    have hbx := (unhide HBX).below b1
    have hb1 := hide ((unhide hbW).trans (b1.mono (unhide hbW).size))
    rcases hR with h0 | ⟨b, o, e, _, hel⟩
    · exact absurd h0 (by decide)
    have e1 : W.heap.size = b ∧ 0 = o := by injection e with e; injection e with e1 e2 _; exact ⟨e1, e2⟩
    obtain ⟨rfl, rfl⟩ := e1
    clear e
    have x0 := field_r0 hel (unhide HN)
    have x1 := field_r1 hel (unhide HN)
    simp only [Nat.zero_add] at x0 x1
    generalize gt fieldK sT n = D at *
    obtain ⟨nm, vl⟩ := D
    dsimp only at x0 x1
    have y0 := hbx.cv
    have yl := hbx.lt
    have yz := hbx.fz
    have HBX1 := hide hbx
    clear hbx hel b1 HBX
    go_wp2
    have hF := ((unhide HBX1).set (i := 0) (u := .string nm) (by simp)).set (i := 1) (u := .string vl) (by simp)
    have hBF := ((unhide hb1).setCell (p := ⟨w.heap.size, 0, none⟩) (Nat.le_refl _) (.string nm)).setCell (p := ⟨w.heap.size, 1, none⟩) (Nat.le_refl _) (.string vl)
    generalize ((w1.setCell ⟨w.heap.size, 0, none⟩ (.string nm)).setCell ⟨w.heap.size, 1, none⟩ (.string vl)) = V at *
    have c0 : V.cell? ⟨w.heap.size, 0, none⟩ = some (.string nm) := hF.cv 0
    have c1 : V.cell? ⟨w.heap.size, 1, none⟩ = some (.string vl) := hF.cv 1
    refine bodyPost_ret (v := .tuple #[.agg #[.string nm, .string vl], .bool true]) (by simp [results, Tryd.results15, go_sem, c0, c1]) rfl ⟨by rw [unhide HE, unhide HD], hBF⟩
  · have hd : (decide ((0 : Int) ≤ k) && decide (k ≤ 15)) = false := by
      rw [← Bool.not_eq_true]
      simp only [Bool.and_eq_true, decide_eq_true_eq]
      exact hk
    rw [hd] at H
    have HE := hide (show sfB k = false from hd)
    have HD := hide (show sfD k = ⟨⟨#[]⟩, ⟨#[]⟩⟩ by unfold sfD; rw [if_neg hk])
    clear hd hk
    go_enter Tryd.func15, Tryd.ntmps15
    go_wp2_with fail
    refine (unhide H _).mono ?_
    rintro e w1 ⟨rfl, h9⟩
    rw [← h9]
    clear h9 w1
    go_wp2
    refine bodyPost_ret (v := .tuple #[.agg #[.string ⟨#[]⟩, .string ⟨#[]⟩], .bool false]) (by simp [results, Tryd.results15, go_sem]) rfl ⟨by rw [unhide HE, unhide HD], ?_⟩
    repeat (refine Below.setCell ?_ (by simp) _)
    exact unhide al _
end Go.Proofs.YtidgjjbdabifnabDoor.Rc
