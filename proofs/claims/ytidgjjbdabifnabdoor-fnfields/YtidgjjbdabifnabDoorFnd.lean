/-
  Fields that the model draws.
-/
import Derived.Test.YtidgjjbdabifnabDoorXdd
import Derived.Test.YtidgjjbdabifnabDoorFrv
import Derived.Test.YtidgjjbdabifnabDoorFsx
import Derived.Deep.DeepCutAuto
namespace Go.Proofs.YtidgjjbdabifnabDoor.Dr
open Go.ChangeShapes Go.WideShapes Go.ChangeAt Go.RowKit Go.Deep
open Go.Proofs.YtidgjjbdabifnabDoor.Rc (FieldD fieldK fieldV gt sT sT_len sT_sz specSt field_r0 field_r1 Rd)
set_option linter.unusedVariables false
set_option maxRecDepth 100000

theorem bxk {cb g : Nat} {w w' : World} {xs : List Value} (h : Bx w g xs) (k : Kx cb w w') (hne : g ≠ cb) : Bx w' g xs := h.kept k.size (k.block g h.lt hne)
/-- what field() answers -/
def FdP (cb : Nat) (a : Option Addr) (N cap P : Nat) (w : World) (e : Ending) (w' : World) : Prop := ∃ nm vl : ByteArray, e = .returned (.agg #[.string nm, .string vl]) ∧ nm.size ≤ 200 ∧ vl.size ≤ 200 ∧ Cu w' cb a N cap (P + 20) ∧ Kx cb w w'
set_option maxHeartbeats 4000000 in
theorem field_any (cb : Nat) (a : Option Addr) (N cap P : Nat) (w : World) (hN : N ≤ 1048576) (hP : P ≤ 800000) (h : Cu w cb a N cap P) :
    Calls Tryd.prog 49 #[.pointer (some ⟨cb, 0, none⟩)] w fun e w' => FdP cb a N cap P w e w' := by
  have HU := hide h
  have hcl := h.lt
  have hx0 := Bx.new w [.string ⟨#[]⟩, .string ⟨#[]⟩] 33
  have u0 := h.alloc (.cells #[.string ⟨#[]⟩, .string ⟨#[]⟩] 33)
  have k0 := (Kx.refl cb w).alloc (.cells #[.string ⟨#[]⟩, .string ⟨#[]⟩] 33)
  have X0 := hide hx0
  have U0 := hide u0
  have K0 := hide k0
  clear h hx0 u0 k0
  go_enter Tryd.func49, Tryd.ntmps49
  go_wp2_with fail
  refine (one_any cb a N cap P 2 _ hN (by omega) (by omega) (by omega) (unhide U0)).mono ?_
  rintro e w1 ⟨rb, rfl, u1, k1⟩
  have sz1 := k1.size
  simp only [World.size_alloc] at sz1
  have U1 := hide u1
  have K1 := hide ((unhide K0).trans k1)
  have X1 := hide (bxk (unhide X0) k1 (by omega))
  clear u1 k1 U0 K0 X0
  cases rb with
  | true =>
    go_wp2_with fail
    refine (specSt w1).mono ?_
    rintro e w2 ⟨rfl, R2, lt2, b2⟩
    have U2 := hide ((unhide U1).same b2)
    have K2 := hide ((unhide K1).trans (Kx.of b2))
    have X2 := hide ((unhide X1).below b2)
    clear b2 U1 K1 X1
    go_wp2_with fail
    refine (pick_any cb a N cap (P + 2) 16 _ hN (by omega) (by omega) (by omega) (unhide U2)).mono ?_
    rintro e w3 ⟨r, rfl, hr0, hr1, u3, k3⟩
    obtain ⟨i, rfl⟩ := Int.eq_ofNat_of_zero_le hr0
    have U3 := hide u3
    have K3 := hide ((unhide K2).trans k3)
    have X3 := hide (bxk (unhide X2) k3 (by omega))
    have hi : i < sT.length := by rw [sT_len]; omega
    rcases R2 with h9 | ⟨bq, o, e, _, hel⟩
    · exact absurd h9 (by decide)
    have e1 : w1.heap.size = bq ∧ 0 = o := by injection e with e; injection e with e1 e2 _; exact ⟨e1, e2⟩
    obtain ⟨rfl, rfl⟩ := e1
    have x0 := (k3.cell (p := ⟨w1.heap.size, 0 + i * 2, none⟩) lt2 (by show w1.heap.size ≠ cb; omega)).trans (field_r0 hel hi)
    have x1 := (k3.cell (p := ⟨w1.heap.size, 0 + i * 2 + 1, none⟩) lt2 (by show w1.heap.size ≠ cb; omega)).trans (field_r1 hel hi)
    simp only [Nat.zero_add] at x0 x1
    have hz := sT_sz i (by omega)
    have sz3 := k3.size
    generalize gt fieldK sT i = D at *
    obtain ⟨nm, vl⟩ := D
    dsimp only at x0 x1 hz
    clear e hel hi u3 k3 U2 K2 X2
    have ux := (unhide U3).alloc (.cells #[.string nm, .string vl] 33)
    have UB := hide ux
    have KB := hide ((unhide K3).alloc (.cells #[.string nm, .string vl] 33))
    have XB := hide ((unhide X3).alloc (.cells #[.string nm, .string vl] 33))
    have YB := hide (Bx.new w3 [.string nm, .string vl] 33)
    clear ux U3 K3 X3
    have hr2 : (i : Int) < 16 := hr1
    have hr3 : (0 : Int) ≤ (i : Int) := hr0
    -- HERE
    go_wp2_with fail
    refine (one_any cb a N cap (P + 2 + 2) 2 _ hN (by omega) (by omega) (by omega) (unhide UB)).mono ?_
    rintro e w4 ⟨rb2, rfl, u4, k4⟩
    have U4 := hide u4
    have K4 := hide ((unhide KB).trans k4)
    have sz4 := k4.size
    simp only [World.size_alloc] at sz4
    have X4 := hide (bxk (unhide XB) k4 (by omega))
    have Y4 := hide (bxk (unhide YB) k4 (by omega))
    clear u4 k4 UB KB XB YB x0 x1
    cases rb2 with
    | false =>
      have p0 := (unhide X4).cv
      have pl := (unhide X4).lt
      have pf := (unhide X4).fz
      have r0 := (unhide Y4).cv
      have rl := (unhide Y4).lt
      have rf := (unhide Y4).fz
      have uE := hide ((Cu.setNew (unhide HU) (Cu.setNew (unhide HU) (unhide U4) (g := w.heap.size) (Nat.le_refl _) 0 (.string nm)) (g := w.heap.size) (Nat.le_refl _) 1 (.string vl)).mono (Q := P + 20) (by omega))
      have kE := hide (((unhide K4).setNew (p := ⟨w.heap.size, 0, none⟩) (Nat.le_refl _) (.string nm)).setNew (p := ⟨w.heap.size, 1, none⟩) (Nat.le_refl _) (.string vl))
      go_wp2_with fail
      refine bodyPost_ret (v := .agg #[.string nm, .string vl]) (by simp [results, Tryd.results49, go_sem, p0]) rfl ?_
      exact ⟨nm, vl, rfl, by omega, by omega, unhide uE, unhide kE⟩
    | true =>
      have hxw5 := hide (lit_texts w4 [⟨#[]⟩, ⟨#[120]⟩, ⟨#[118, 97, 108, 117, 101, 32, 111, 110, 101]⟩] 9 (fun x => x.size ≤ 9) (by decide))
      have hUw5 := hide ((unhide U4).alloc (.cells #[.string ⟨#[]⟩, .string ⟨#[120]⟩, .string ⟨#[118, 97, 108, 117, 101, 32, 111, 110, 101]⟩] 9))
      have hnew5 : w4.heap.size ≠ cb := by have := (unhide U4).lt; omega
      go_wp2_with fail
      refine (of_any cb a N cap (P + 2 + 2 + 2) w4.heap.size 3 3 (fun x => x.size ≤ 9) _ hN (by omega) (by omega) (by omega) (by simp) hnew5 (unhide hxw5) (unhide hUw5)).mono ?_
      rintro e w5 ⟨v, rfl, hsv, uw5, kw5⟩
      have U5 := hide uw5
      have K5 := hide (((unhide K4).alloc (.cells #[.string ⟨#[]⟩, .string ⟨#[120]⟩, .string ⟨#[118, 97, 108, 117, 101, 32, 111, 110, 101]⟩] 9)).trans kw5)
      have szw5 := kw5.size
      simp only [World.size_alloc] at szw5
      have X5 := hide (bxk ((unhide X4).alloc (.cells #[.string ⟨#[]⟩, .string ⟨#[120]⟩, .string ⟨#[118, 97, 108, 117, 101, 32, 111, 110, 101]⟩] 9)) kw5 (by omega))
      have Y5 := hide (bxk ((unhide Y4).alloc (.cells #[.string ⟨#[]⟩, .string ⟨#[120]⟩, .string ⟨#[118, 97, 108, 117, 101, 32, 111, 110, 101]⟩] 9)) kw5 (by omega))
      clear hxw5 hUw5 hnew5 uw5 kw5 U4 K4 X4 Y4
      have U6 := hide (Cu.setNew (unhide HU) (unhide U5) (g := w3.heap.size) (by omega) 1 (.string v))
      have K6 := hide ((unhide K5).setNew (p := ⟨w3.heap.size, 1, none⟩) (by show _ ≤ w3.heap.size; omega) (.string v))
      have p0 := (unhide X5).cv
      have pl := (unhide X5).lt
      have pf := (unhide X5).fz
      have r0 := (unhide Y5).cv
      have rl := (unhide Y5).lt
      have rf := (unhide Y5).fz
      have uE := hide ((Cu.setNew (unhide HU) (Cu.setNew (unhide HU) (unhide U6) (g := w.heap.size) (Nat.le_refl _) 0 (.string nm)) (g := w.heap.size) (Nat.le_refl _) 1 (.string v)).mono (Q := P + 20) (by omega))
      have kE := hide (((unhide K6).setNew (p := ⟨w.heap.size, 0, none⟩) (Nat.le_refl _) (.string nm)).setNew (p := ⟨w.heap.size, 1, none⟩) (Nat.le_refl _) (.string v))
      go_wp2_with fail
      refine bodyPost_ret (v := .agg #[.string nm, .string v]) (by simp [results, Tryd.results49, go_sem, p0]) rfl ?_
      exact ⟨nm, v, rfl, by omega, by omega, unhide uE, unhide kE⟩
  | false =>
    have hxw2 := hide (lit_texts w1 [⟨#[120]⟩, ⟨#[110, 97, 109, 101, 45, 116, 119, 111]⟩, ⟨#[58, 111, 116, 104, 101, 114]⟩, ⟨#[108, 111, 110, 103, 101, 114, 45, 110, 97, 109, 101, 45, 104, 101, 114, 101]⟩] 9 (fun x => x.size ≤ 16) (by decide))
    have hUw2 := hide ((unhide U1).alloc (.cells #[.string ⟨#[120]⟩, .string ⟨#[110, 97, 109, 101, 45, 116, 119, 111]⟩, .string ⟨#[58, 111, 116, 104, 101, 114]⟩, .string ⟨#[108, 111, 110, 103, 101, 114, 45, 110, 97, 109, 101, 45, 104, 101, 114, 101]⟩] 9))
    have hnew2 : w1.heap.size ≠ cb := by have := (unhide U1).lt; omega
    go_wp2_with fail
    refine (of_any cb a N cap (P + 2) w1.heap.size 4 4 (fun x => x.size ≤ 16) _ hN (by omega) (by omega) (by omega) (by simp) hnew2 (unhide hxw2) (unhide hUw2)).mono ?_
    rintro e w2 ⟨nm, rfl, hsnm, uw2, kw2⟩
    have U2 := hide uw2
    have K2 := hide (((unhide K1).alloc (.cells #[.string ⟨#[120]⟩, .string ⟨#[110, 97, 109, 101, 45, 116, 119, 111]⟩, .string ⟨#[58, 111, 116, 104, 101, 114]⟩, .string ⟨#[108, 111, 110, 103, 101, 114, 45, 110, 97, 109, 101, 45, 104, 101, 114, 101]⟩] 9)).trans kw2)
    have szw2 := kw2.size
    simp only [World.size_alloc] at szw2
    have X2 := hide (bxk ((unhide X1).alloc (.cells #[.string ⟨#[120]⟩, .string ⟨#[110, 97, 109, 101, 45, 116, 119, 111]⟩, .string ⟨#[58, 111, 116, 104, 101, 114]⟩, .string ⟨#[108, 111, 110, 103, 101, 114, 45, 110, 97, 109, 101, 45, 104, 101, 114, 101]⟩] 9)) kw2 (by omega))
    clear hxw2 hUw2 hnew2 uw2 kw2 U1 K1 X1
    have hxw3 := hide (lit_texts w2 [⟨#[]⟩, ⟨#[118]⟩, ⟨#[118, 97, 108, 117, 101]⟩] 9 (fun x => x.size ≤ 5) (by decide))
    have hUw3 := hide ((unhide U2).alloc (.cells #[.string ⟨#[]⟩, .string ⟨#[118]⟩, .string ⟨#[118, 97, 108, 117, 101]⟩] 9))
    have hnew3 : w2.heap.size ≠ cb := by have := (unhide U2).lt; omega
    go_wp2_with fail
    refine (of_any cb a N cap (P + 2 + 2) w2.heap.size 3 3 (fun x => x.size ≤ 5) _ hN (by omega) (by omega) (by omega) (by simp) hnew3 (unhide hxw3) (unhide hUw3)).mono ?_
    rintro e w3 ⟨vl, rfl, hsvl, uw3, kw3⟩
    have U3 := hide uw3
    have K3 := hide (((unhide K2).alloc (.cells #[.string ⟨#[]⟩, .string ⟨#[118]⟩, .string ⟨#[118, 97, 108, 117, 101]⟩] 9)).trans kw3)
    have szw3 := kw3.size
    simp only [World.size_alloc] at szw3
    have X3 := hide (bxk ((unhide X2).alloc (.cells #[.string ⟨#[]⟩, .string ⟨#[118]⟩, .string ⟨#[118, 97, 108, 117, 101]⟩] 9)) kw3 (by omega))
    clear hxw3 hUw3 hnew3 uw3 kw3 U2 K2 X2
    have UB := hide ((unhide U3).alloc (.cells #[.string nm, .string vl] 33))
    have KB := hide ((unhide K3).alloc (.cells #[.string nm, .string vl] 33))
    have XB := hide ((unhide X3).alloc (.cells #[.string nm, .string vl] 33))
    have YB := hide (Bx.new w3 [.string nm, .string vl] 33)
    clear U3 K3 X3
    go_wp2_with fail
    refine (pick_any cb a N cap (P + 2 + 2 + 2) 30 _ hN (by omega) (by omega) (by omega) (unhide UB)).mono ?_
    rintro e w4 ⟨r, rfl, hr0, hr1, u4, k4⟩
    have U4 := hide u4
    have K4 := hide ((unhide KB).trans k4)
    have sz4 := k4.size
    simp only [World.size_alloc] at sz4
    have X4 := hide (bxk (unhide XB) k4 (by omega))
    have Y4 := hide (bxk (unhide YB) k4 (by omega))
    clear u4 k4 UB KB XB YB
    by_cases e0 : r = 0
    · have b0 : (r == 0) = true := by rw [e0]; rfl
      clear e0
      have hxw5 := hide (lit_texts w4 [⟨#[]⟩, ⟨#[65]⟩, ⟨#[97, 58, 98]⟩] 9 (fun x => x.size ≤ 3) (by decide))
      have hUw5 := hide ((unhide U4).alloc (.cells #[.string ⟨#[]⟩, .string ⟨#[65]⟩, .string ⟨#[97, 58, 98]⟩] 9))
      have hnew5 : w4.heap.size ≠ cb := by have := (unhide U4).lt; omega
      go_wp2_with fail
      refine (of_any cb a N cap (P + 2 + 2 + 2 + 2) w4.heap.size 3 3 (fun x => x.size ≤ 3) _ hN (by omega) (by omega) (by omega) (by simp) hnew5 (unhide hxw5) (unhide hUw5)).mono ?_
      rintro e w5 ⟨v, rfl, hsv, uw5, kw5⟩
      have U5 := hide uw5
      have K5 := hide (((unhide K4).alloc (.cells #[.string ⟨#[]⟩, .string ⟨#[65]⟩, .string ⟨#[97, 58, 98]⟩] 9)).trans kw5)
      have szw5 := kw5.size
      simp only [World.size_alloc] at szw5
      have X5 := hide (bxk ((unhide X4).alloc (.cells #[.string ⟨#[]⟩, .string ⟨#[65]⟩, .string ⟨#[97, 58, 98]⟩] 9)) kw5 (by omega))
      have Y5 := hide (bxk ((unhide Y4).alloc (.cells #[.string ⟨#[]⟩, .string ⟨#[65]⟩, .string ⟨#[97, 58, 98]⟩] 9)) kw5 (by omega))
      clear hxw5 hUw5 hnew5 uw5 kw5 U4 K4 X4 Y4
      have U6 := hide (Cu.setNew (unhide HU) (unhide U5) (g := w3.heap.size) (by omega) 0 (.string v))
      have K6 := hide ((unhide K5).setNew (p := ⟨w3.heap.size, 0, none⟩) (by show _ ≤ w3.heap.size; omega) (.string v))
      have p0 := (unhide X5).cv
      have pl := (unhide X5).lt
      have pf := (unhide X5).fz
      have r0 := (unhide Y5).cv
      have rl := (unhide Y5).lt
      have rf := (unhide Y5).fz
      have uE := hide ((Cu.setNew (unhide HU) (Cu.setNew (unhide HU) (unhide U6) (g := w.heap.size) (Nat.le_refl _) 0 (.string v)) (g := w.heap.size) (Nat.le_refl _) 1 (.string vl)).mono (Q := P + 20) (by omega))
      have kE := hide (((unhide K6).setNew (p := ⟨w.heap.size, 0, none⟩) (Nat.le_refl _) (.string v)).setNew (p := ⟨w.heap.size, 1, none⟩) (Nat.le_refl _) (.string vl))
      go_wp2_with fail
      refine bodyPost_ret (v := .agg #[.string v, .string vl]) (by simp [results, Tryd.results49, go_sem, p0]) rfl ?_
      exact ⟨v, vl, rfl, by omega, by omega, unhide uE, unhide kE⟩
    · have b0 : (r == 0) = false := beq_false_of_ne e0
      by_cases e1 : r = 1
      · have b1 : (r == 1) = true := by rw [e1]; rfl
        clear e0 e1
        have hmk : (Instr.makeSlice 28 (.int .i64 3) (.int .i64 3)).run Tryd.prog w4 = .ok (.slice (some ⟨w4.heap.size, 0, none⟩) 3 3) (w4.alloc (.cells (us 3 fun _ => 0).toArray 5)) := mk_bytes 3 (by omega) w4
        have hA := Ar.new w4 3 (fun _ => 0) 5
        have hst := ar_string hA (fun i _ => by omega) 3
        have hsz := bq_le 3 3 (fun _ => 0) (by omega)
        generalize bq 3 (fun _ => 0) = v at *
        have U5 := hide ((unhide U4).alloc (.cells (us 3 fun _ => 0).toArray 5))
        have K5 := hide ((unhide K4).alloc (.cells (us 3 fun _ => 0).toArray 5))
        have X5 := hide ((unhide X4).alloc (.cells (us 3 fun _ => 0).toArray 5))
        have Y5 := hide ((unhide Y4).alloc (.cells (us 3 fun _ => 0).toArray 5))
        clear hA U4 K4 X4 Y4
        have U6 := hide (Cu.setNew (unhide HU) (unhide U5) (g := w3.heap.size) (by omega) 1 (.string v))
        have K6 := hide ((unhide K5).setNew (p := ⟨w3.heap.size, 1, none⟩) (by show _ ≤ w3.heap.size; omega) (.string v))
        have p0 := (unhide X5).cv
        have pl := (unhide X5).lt
        have pf := (unhide X5).fz
        have r0 := (unhide Y5).cv
        have rl := (unhide Y5).lt
        have rf := (unhide Y5).fz
        have uE := hide ((Cu.setNew (unhide HU) (Cu.setNew (unhide HU) (unhide U6) (g := w.heap.size) (Nat.le_refl _) 0 (.string nm)) (g := w.heap.size) (Nat.le_refl _) 1 (.string v)).mono (Q := P + 20) (by omega))
        have kE := hide (((unhide K6).setNew (p := ⟨w.heap.size, 0, none⟩) (Nat.le_refl _) (.string nm)).setNew (p := ⟨w.heap.size, 1, none⟩) (Nat.le_refl _) (.string v))
        go_wp2_with fail
        refine bodyPost_ret (v := .agg #[.string nm, .string v]) (by simp [results, Tryd.results49, go_sem, p0]) rfl ?_
        exact ⟨nm, v, rfl, by omega, by omega, unhide uE, unhide kE⟩
      · have b1 : (r == 1) = false := beq_false_of_ne e1
        by_cases e2 : r = 2
        · have b2 : (r == 2) = true := by rw [e2]; rfl
          clear e0 e1 e2
          go_wp2_with fail
          refine (pick_any cb a N cap (P + 2 + 2 + 2 + 2) 2 _ hN (by omega) (by omega) (by omega) (unhide U4)).mono ?_
          rintro e w5 ⟨q, rfl, hq0, hq1, u5, k5⟩
          obtain ⟨n, hn⟩ : ∃ n : Nat, (100 : Int) + q = (n : Int) := ⟨(100 + q).toNat, by omega⟩
          have hn1 : n ≤ 101 := by omega
          have sz5 := k5.size
          have hmk := mk_bytes n (by omega) w5
          have A5 := hide (Ar.new w5 n (fun _ => 0) 5)
          have U5 := hide (u5.alloc (.cells (us n fun _ => 0).toArray 5))
          have K5 := hide (((unhide K4).trans k5).alloc (.cells (us n fun _ => 0).toArray 5))
          have X5 := hide ((bxk (unhide X4) k5 (by omega)).alloc (.cells (us n fun _ => 0).toArray 5))
          have Y5 := hide ((bxk (unhide Y4) k5 (by omega)).alloc (.cells (us n fun _ => 0).toArray 5))
          clear u5 k5 U4 K4 X4 Y4
          go_wp2_with fail
          go_loopw [49] (fun iv wr => ∃ (k : Nat) (f : Nat → Nat), k ≤ n ∧ iv = .int .i64 k ∧ Hid (∀ i, f i < 256) ∧ Hid (Ar wr w5.heap.size 0 n f) ∧ Hid (Cu wr cb a N cap (P + 2 + 2 + 2 + 2 + 2)) ∧ Hid (Kx cb w wr) ∧ Hid (Bx wr w.heap.size [.string ⟨#[]⟩, .string ⟨#[]⟩]) ∧ Hid (Bx wr w3.heap.size [.string nm, .string vl])) (fun iv _ => n - (intOf iv).toNat)
          case atStart => exact ⟨0, _, Nat.zero_le _, rfl, fun _ => by omega, A5, U5, K5, X5, Y5⟩
          case round =>
            obtain ⟨k, f, hk, rfl, F0, A0, V0, K0, X0, Y0⟩ := hrel
            clear A5 U5 K5 X5 Y5 hmk
            by_cases hlt : k < n
            · have hI : (k : Int) < (n : Int) := by omega
              have hI0 : (0 : Int) ≤ (k : Int) := by omega
              have hc := (unhide A0).c0 k hlt
              have hz := (unhide A0).f0 k hlt
              have A2 := hide ((unhide A0).put0 (g := fun i => if i = k then 97 else f i) (k := k) (x := 97) hlt (by simp) (fun i _ hne => by simp [hne]))
              have K2 := hide ((unhide K0).setNew (p := ⟨w5.heap.size, k, none⟩) (by show _ ≤ w5.heap.size; omega) (.int .u8 97))
              have V2 := hide (Cu.setNew (unhide HU) (unhide V0) (g := w5.heap.size) (by omega) k (.int .u8 97))
              have X2 := hide ((unhide X0).other (c := w5.heap.size) (i := k) (u := .int .u8 97) (by omega))
              have Y2 := hide ((unhide Y0).other (c := w5.heap.size) (i := k) (u := .int .u8 97) (by omega))
              have F2 : Hid (∀ i, (if i = k then 97 else f i) < 256) := fun i => by
                by_cases e : i = k
                · rw [if_pos e]; omega
                · rw [if_neg e]; exact unhide F0 i
              generalize hf2 : (fun i => if i = k then 97 else f i) = f2 at *
              have F3 : Hid (∀ i, f2 i < 256) := fun i => by rw [← hf2]; exact unhide F2 i
              clear A0 K0 V0 X0 Y0 F2 hf2
              go_wp2_with fail
              exact ⟨⟨k + 1, f2, by omega, by go_num, F3, A2, V2, K2, X2, Y2⟩, by simp [intOf]; omega⟩
            · obtain rfl : k = n := by omega
              have hst := ar_string (unhide A0) (fun i _ => unhide F0 i) k
              have hsz := bq_le k 101 f (by omega)
              generalize bq k f = v at *
              have U6 := hide (Cu.setNew (unhide HU) (unhide V0) (g := w3.heap.size) (by omega) 1 (.string v))
              have K6 := hide ((unhide K0).setNew (p := ⟨w3.heap.size, 1, none⟩) (by show _ ≤ w3.heap.size; omega) (.string v))
              have p0 := (unhide X0).cv
              have pl := (unhide X0).lt
              have pf := (unhide X0).fz
              have r0 := (unhide Y0).cv
              have rl := (unhide Y0).lt
              have rf := (unhide Y0).fz
              clear A0 V0 K0 X0 Y0
              have uE := hide ((Cu.setNew (unhide HU) (Cu.setNew (unhide HU) (unhide U6) (g := w.heap.size) (Nat.le_refl _) 0 (.string nm)) (g := w.heap.size) (Nat.le_refl _) 1 (.string v)).mono (Q := P + 20) (by omega))
              have kE := hide (((unhide K6).setNew (p := ⟨w.heap.size, 0, none⟩) (Nat.le_refl _) (.string nm)).setNew (p := ⟨w.heap.size, 1, none⟩) (Nat.le_refl _) (.string v))
              go_wp2_with fail
              refine bodyPost_ret (v := .agg #[.string nm, .string v]) (by simp [results, Tryd.results49, go_sem, p0]) rfl ?_
              exact ⟨nm, v, rfl, by omega, by omega, unhide uE, unhide kE⟩
        · have b2 : (r == 2) = false := beq_false_of_ne e2
          clear e0 e1 e2
          have p0 := (unhide X4).cv
          have pl := (unhide X4).lt
          have pf := (unhide X4).fz
          have r0 := (unhide Y4).cv
          have rl := (unhide Y4).lt
          have rf := (unhide Y4).fz
          have uE := hide ((Cu.setNew (unhide HU) (Cu.setNew (unhide HU) (unhide U4) (g := w.heap.size) (Nat.le_refl _) 0 (.string nm)) (g := w.heap.size) (Nat.le_refl _) 1 (.string vl)).mono (Q := P + 20) (by omega))
          have kE := hide (((unhide K4).setNew (p := ⟨w.heap.size, 0, none⟩) (Nat.le_refl _) (.string nm)).setNew (p := ⟨w.heap.size, 1, none⟩) (Nat.le_refl _) (.string vl))
          go_wp2_with fail
          refine bodyPost_ret (v := .agg #[.string nm, .string vl]) (by simp [results, Tryd.results49, go_sem, p0]) rfl ?_
          exact ⟨nm, vl, rfl, by omega, by omega, unhide uE, unhide kE⟩
end Go.Proofs.YtidgjjbdabifnabDoor.Dr
