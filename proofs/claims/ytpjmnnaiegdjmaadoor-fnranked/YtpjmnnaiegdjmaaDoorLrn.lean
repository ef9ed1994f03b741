/-
  Contracts: the model's round over a block.
-/
import Derived.Test.YtpjmnnaiegdjmaaDoorLbg
import Derived.Test.YtpjmnnaiegdjmaaDoorSbh
import Derived.Test.YtpjmnnaiegdjmaaDoorSpw
namespace Go.Proofs.YtpjmnnaiegdjmaaDoor
open Go.ChangeShapes Go.WideShapes Go.ChangeAt Go.RowKit
set_option linter.unusedVariables false

theorem Rw.setOther {w : World} {b o n : Nat} {f : Nat → Nat} {a : Addr} {v : Value} (h : Rw w b o n f) (hne : a.block ≠ b) : Rw (w.setCell a v) b o n f := by
  refine ⟨fun i hi => ?_, by simpa [World.setCell] using h.lt⟩
  rw [World.cell?_setCell_other _ _ _ _ (by intro e; rw [e] at hne; simp at hne)]; exact h.c i hi
theorem Rw.drewN {w : World} {b o n : Nat} {f : Nat → Nat} (h : Rw w b o n f) (k : Nat) : Rw (w.drewN k) b o n f := ⟨h.c, h.lt⟩
theorem Rw.drew {w : World} {b o n : Nat} {f : Nat → Nat} (h : Rw w b o n f) : Rw w.drew b o n f := ⟨h.c, h.lt⟩
theorem rnd8 (s : Nat → Nat) (y t1 t2 : Nat) (h1 : t1W s y = t1) (h2 : t2W s = t2) : (uw 8 (rndW s y)).toArray = #[.int .u32 (((t1 + t2) % 4294967296 : Nat) : Int), .int .u32 (s 0 : Nat), .int .u32 (s 1 : Nat), .int .u32 (s 2 : Nat), .int .u32 (((s 3 + t1) % 4294967296 : Nat) : Int), .int .u32 (s 4 : Nat), .int .u32 (s 5 : Nat), .int .u32 (s 6 : Nat)] := by
  subst h1
  subst h2
  rw [uw_def]
  rfl
/-- five cells of a state -/
def C5 (g x1 x2 x3 x5 x6 : Nat) (W : World) : Prop := W.cell? ⟨g, 1, none⟩ = some (.int .u32 (x1 : Nat)) ∧ W.cell? ⟨g, 2, none⟩ = some (.int .u32 (x2 : Nat)) ∧ W.cell? ⟨g, 3, none⟩ = some (.int .u32 (x3 : Nat)) ∧ W.cell? ⟨g, 5, none⟩ = some (.int .u32 (x5 : Nat)) ∧ W.cell? ⟨g, 6, none⟩ = some (.int .u32 (x6 : Nat))
set_option maxRecDepth 100000 in
set_option maxHeartbeats 4000000 in
theorem specRound (b o cap gw cw : Nat) (f : Nat → Nat) (t : ByteArray) (hf : ∀ i, f i < 4294967296) (ht : t.size = 64) (w : World) (hr : Rw w b o 8 f) (hk : Rw w gw 0 64 KW) :
    Calls Tryd.prog 77 #[.slice (some ⟨b, o, none⟩) 8 cap, .slice (some ⟨gw, 0, none⟩) 64 cw, .string t] w fun e w' => ∃ g cp, e = .returned (.slice (some ⟨g, 0, none⟩) 8 cp) ∧ w.heap.size ≤ g ∧ Aw w' g 0 8 (bhW f t) ∧ Below w.heap.size w w' := by
  obtain ⟨i0, hi, hz0, hz1, hz2⟩ := info_u32i
  have HR := hide hr
  have HK := hide hk
  clear hr hk
  go_enter Tryd.func77, Tryd.ntmps77
  go_wp2_with fail
  have HWF := hide (fun i => wsF_lt t i)
  have HW1 := hide (fun i h => wsF_first t i h)
  have HW2 := hide (fun k h => wsF_next t k h)
  have HW4 := hide (fun i => w4_lt t i)
  have HBG := hide (fun i (h : 4 * i + 4 ≤ t.size) W => specBig4 (t.extract (4 * i) (4 * i + 4)) (by rw [ByteArray.size_extract]; omega) W)
  have HNB := hide (fun i (h : 4 * i + 4 ≤ t.size) => nbW_piece t i h)
  go_loopw [7, 8] (fun v iv wr => ∃ i : Nat, i ≤ 64 ∧ iv = .int .i64 i ∧ Below w.heap.size w wr ∧ ((i ≤ 16 ∧ Ow w.heap.size wr v i (wsF t)) ∨ (16 ≤ i ∧ ∃ g o' cp, v = .slice (some ⟨g, o', none⟩) i cp ∧ w.heap.size ≤ g ∧ Sgw wr g o' i cp (wsF t)))) (fun _ iv _ => 64 - (intOf iv).toNat)
  case atStart => exact ⟨0, by omega, rfl, Below.refl _ _, Or.inl ⟨by omega, Ow.nil _ _ _⟩⟩
  case round =>
    obtain ⟨i, hin, rfl, hB, hor⟩ := hrel
    have hwz := hB.size
    by_cases h16 : i < 16
    · have hO : Ow w.heap.size wr u7 i (wsF t) := by
        rcases hor with h | h
        · exact h.2
        · omega
      have hbg := unhide HBG i (by omega)
      rw [unhide HNB i (by omega)] at hbg
      have hX := unhide HW1 i h16
      have hX4 := unhide HW4 i
      have HBg := hide hbg
      generalize w4 t i = X at *
      have HX := hide hX
      have B1 := (Below.refl wr.heap.size wr).alloc (Nat.le_refl _) (.cells #[.int .u32 (X : Int)] 88)
      have HO3 := hide (hO.kept B1)
      have HB3 := hide (hB.trans (B1.mono hwz))
      have hz3 : (wr.alloc (.cells #[.int .u32 (X : Int)] 88)).heap.size = wr.heap.size + 1 := by simp
      have hnw := new_w wr X
      have hnew : Hid (∀ j u, (uw 1 (fun _ => X))[j]? = some u → (wr.alloc (.cells #[.int .u32 (X : Int)] 88)).cell? ((⟨wr.heap.size, 0, none⟩ : Addr).add j) = some u) := fun j u hu => by rw [Addr.add_mid]; exact hnw.range j u hu
      have hone := hide (uw_oneL 1 (fun _ => X))
      have e4 : 4 * (i : Int) = ((4 * i : Nat) : Int) := by omega
      have t1 : (4 * (i : Int)).toNat = 4 * i := by omega
      have t2 : (4 * (i : Int) + 4).toNat = 4 * i + 4 := by omega
      have m1 : 4 * (i : Int) + 4 ≤ 64 := by omega
      clear hor hbg hX B1 hnw hO hB e4
      go_wp2_with (first
        | (go_at_call 58; with_reducible refine (unhide HBg _).mono ?_; rintro e w9 ⟨rfl, h9⟩; rw [h9]; clear h9 w9)
        | (at_builtin; refine wpList_append_lies _ rfl _ _ 72 rfl w.heap.size 88 i0 (.int .u32 0) 1 4 Tryd.underlying72 hi hz0 hz1 hz2 rfl (by decide) _ _ _ rfl (unhide HO3) ⟨wr.heap.size, 0, none⟩ 1 1 (uw 1 (fun _ => X)) rfl ?c0 (unhide hnew) (unhide hone) (by omega) ?c3 ?c4 ?c5 (wr.heap.size + 1) ?c6 ?_))
      case c0 => rw [uw_length]
      case c3 => unfold maxLen; omega
      case c4 => omega
      case c5 => omega
      case c6 => exact hz3
      intro g cap' w' hown hgrow hat hlt'
      rw [show uw 1 (fun _ => X) = uw 1 (fun j => wsF t (i + j)) from uw_congr fun j hj => by obtain rfl : j = 0 := (by omega); exact (unhide HX).symm] at hown
      have R1 := hide (Ow.grow hown)
      have R2 := Ow.below (unhide HO3) hgrow (by omega)
      have R3 := hide ((unhide HB3).trans R2)
      clear hown hgrow hat R2 HO3 HB3 hnew hone
      go_wp2
      exact ⟨⟨i + 1, by omega, by go_num, unhide R3, Or.inl ⟨by omega, unhide R1⟩⟩, by simp [intOf]; omega⟩
    by_cases h64 : i < 64
    · obtain ⟨g, o', cp, rfl, hg, hS⟩ : ∃ g o' cp, u7 = .slice (some ⟨g, o', none⟩) i cp ∧ w.heap.size ≤ g ∧ Sgw wr g o' i cp (wsF t) := by
        rcases hor with ⟨h1, h2⟩ | ⟨_, h2⟩
        · obtain ⟨g, cp, e1, e2, e3⟩ := h2.sg (by omega)
          exact ⟨g, 0, cp, e1, e2, e3⟩
        · exact h2
      obtain ⟨j, hj⟩ : ∃ j, i = j + 16 := ⟨i - 16, by omega⟩
      have hX := unhide HW2 j (by omega)
      rw [← hj] at hX
      have c0 := hS.ar.c j (by omega)
      have c1 := hS.ar.c (j + 1) (by omega)
      have c9 := hS.ar.c (j + 9) (by omega)
      have c14 := hS.ar.c (j + 14) (by omega)
      have b0 := unhide HWF j
      have b1 := unhide HWF (j + 1)
      have b9 := unhide HWF (j + 9)
      have b14 := unhide HWF (j + 14)
      generalize wsF t j = x0 at *
      generalize wsF t (j + 1) = x1 at *
      generalize wsF t (j + 9) = x9 at *
      generalize wsF t (j + 14) = x14 at *
      have E0 := hide (lS0I x1 b1)
      have E1 := hide (lS1I x14 b14)
      have Y0 := lS0_lt x1 b1
      have Y1 := lS1_lt x14 b14
      have T7 : Hid (∀ W, Calls Tryd.prog 87 #[.int .u32 (x1 : Nat), .int .u64 7] W fun e w' => e = .returned (.int .u32 (rr x1 7 : Nat)) ∧ w' = W) := fun W => specRight x1 7 b1 (by omega) (by omega) W
      have T18 : Hid (∀ W, Calls Tryd.prog 87 #[.int .u32 (x1 : Nat), .int .u64 18] W fun e w' => e = .returned (.int .u32 (rr x1 18 : Nat)) ∧ w' = W) := fun W => specRight x1 18 b1 (by omega) (by omega) W
      have T17 : Hid (∀ W, Calls Tryd.prog 87 #[.int .u32 (x14 : Nat), .int .u64 17] W fun e w' => e = .returned (.int .u32 (rr x14 17 : Nat)) ∧ w' = W) := fun W => specRight x14 17 b14 (by omega) (by omega) W
      have T19 : Hid (∀ W, Calls Tryd.prog 87 #[.int .u32 (x14 : Nat), .int .u64 19] W fun e w' => e = .returned (.int .u32 (rr x14 19 : Nat)) ∧ w' = W) := fun W => specRight x14 19 b14 (by omega) (by omega) W
      generalize rr x1 7 = r7 at *
      generalize rr x1 18 = r18 at *
      generalize rr x14 17 = r17 at *
      generalize rr x14 19 = r19 at *
      generalize hy0 : lS0 x1 = y0 at *
      generalize hy1 : lS1 x14 = y1 at *
      clear hy0 hy1
      obtain ⟨X, hXX⟩ : ∃ X, X = (x0 + y0 + x9 + y1) % 4294967296 := ⟨_, rfl⟩
      have hXl : X < 4294967296 := by rw [hXX]; exact Nat.mod_lt _ (by omega)
      have hbase : w.heap.size ≤ (wr.drew.alloc (.cells #[.int .u32 (X : Int)] 88)).heap.size := by rw [World.size_alloc, World.size_drew]; omega
      obtain ⟨g2, o2, cap2, w5, hrun, hor2, hs5, hb5, ha5, hot5⟩ := (hS.drew.alloc (.cells #[.int .u32 (X : Int)] 88)).push hg hbase ⟨wr.heap.size, 0, none⟩ 1 _ (new_cell wr.drew (.int .u32 (X : Int)) 88) (by rw [hX, hXX]) rfl (by omega) 72
      rw [World.size_alloc, World.size_drew] at hor2
      have hgl : g < wr.heap.size := hS.ar.lt
      have F2 : Hid (w.heap.size ≤ g2) := by
        rcases hor2 with e | e
        · rw [e]; exact hg
        · exact (show w.heap.size ≤ g2 by omega)
      have F3 := hide hs5
      have F5 := hide ((hB.drew.alloc (by rw [World.size_drew]; omega) (.cells #[.int .u32 (X : Int)] 88)).trans hb5)
      have RUN := hide hrun
      have S0 : Hid (wr.drew.cell? ⟨g, o' + j, none⟩ = some (.int .u32 (x0 : Nat)) ∧ wr.drew.cell? ⟨g, o' + (j + 9), none⟩ = some (.int .u32 (x9 : Nat))) := ⟨c0, c9⟩
      have hal := (hS.ar.drew.alloc (.cells #[.int .u32 (X : Int)] 88))
      have HXX := hide hXX
      have S1 : Hid ((wr.drew.alloc (.cells #[.int .u32 (X : Int)] 88)).cell? ⟨g, o' + j, none⟩ = some (.int .u32 (x0 : Nat)) ∧ (wr.drew.alloc (.cells #[.int .u32 (X : Int)] 88)).cell? ⟨g, o' + (j + 9), none⟩ = some (.int .u32 (x9 : Nat))) :=
        ⟨(World.cell?_alloc_lt _ _ _ hgl).trans c0, (World.cell?_alloc_lt _ _ _ hgl).trans c9⟩
      have S2 : Hid (w5.cell? ⟨g, o' + j, none⟩ = some (.int .u32 (x0 : Nat)) ∧ w5.cell? ⟨g, o' + (j + 9), none⟩ = some (.int .u32 (x9 : Nat))) := by
        have k0 := (ha5.c j (by omega)).trans (((hal.c j (by omega)).symm.trans (World.cell?_alloc_lt _ _ _ hgl)).trans c0)
        have k9 := (ha5.c (j + 9) (by omega)).trans (((hal.c (j + 9) (by omega)).symm.trans (World.cell?_alloc_lt _ _ _ hgl)).trans c9)
        exact ⟨k0, k9⟩
      obtain ⟨j1, hj1⟩ : ∃ q, q = j + 1 := ⟨_, rfl⟩
      obtain ⟨j9, hj9⟩ : ∃ q, q = j + 9 := ⟨_, rfl⟩
      obtain ⟨j14, hj14⟩ : ∃ q, q = j + 14 := ⟨_, rfl⟩
      rw [← hj1] at c1
      rw [← hj9] at c9 S0 S1 S2
      rw [← hj14] at c14
      have v15 : IntKind.i64.wrap ((i : Int) - 15) = (j1 : Int) := by rw [show (i : Int) - 15 = (j1 : Int) by omega]; exact wraps_i64 _ (by omega) (by omega)
      have v2 : IntKind.i64.wrap ((i : Int) - 2) = (j14 : Int) := by rw [show (i : Int) - 2 = (j14 : Int) by omega]; exact wraps_i64 _ (by omega) (by omega)
      have v16 : IntKind.i64.wrap ((i : Int) - 16) = (j : Int) := by rw [show (i : Int) - 16 = (j : Int) by omega]; exact wraps_i64 _ (by omega) (by omega)
      have v7 : IntKind.i64.wrap ((i : Int) - 7) = (j9 : Int) := by rw [show (i : Int) - 7 = (j9 : Int) by omega]; exact wraps_i64 _ (by omega) (by omega)
      have u15 : (i : Int) - 15 = (j1 : Int) := by omega
      have u2 : (i : Int) - 2 = (j14 : Int) := by omega
      have m0 : (j : Int) < (i : Int) := by omega
      have m1 : (j1 : Int) < (i : Int) := by omega
      have m9 : (j9 : Int) < (i : Int) := by omega
      have m14 : (j14 : Int) < (i : Int) := by omega
      have HJ := hide hj
      have HX := hide hX
      clear hX hXX hbase hrun hor2 hs5 hb5 ha5 hot5 hal hS hB hor hj hj1 hj9 hj14
      go_wp2_with fail
      clear u15 u2
      refine wp_region_noPanic ?_
      refine wp_region_held_drew (S := fun V => V.cell? ⟨g, o' + j, none⟩ = some (.int .u32 (x0 : Nat)) ∧ V.cell? ⟨g, o' + j9, none⟩ = some (.int .u32 (x9 : Nat))) (by kernel_rfl) (unhide S0) (fun hHeld => ?_)
      refine wpAnyH_take (i := 0) (v := ?_) rfl (by kernel_rfl) (by kernel_rfl) (by kernel_rfl) (fun _ _ _ h => h) (Or.inl ⟨by rfl, ?_⟩) hHeld ?_
      rotate_left
      · intro V hSw; go_simp; rfl
      simp only [Act.put, List.getElem_toArray, List.getElem_cons_zero, List.setIfInBounds_toArray, List.set_cons_zero, List.set_cons_succ]
      refine wpAnyH_take (i := 1) (v := ?_) rfl (by kernel_rfl) (by kernel_rfl) (by kernel_rfl) (fun _ _ _ h => h) (Or.inl ⟨by rfl, ?_⟩) hHeld ?_
      rotate_left
      · intro V hSw; go_simp; rfl
      simp only [Act.put, List.getElem_toArray, List.getElem_cons_succ, List.getElem_cons_zero, List.setIfInBounds_toArray, List.set_cons_zero, List.set_cons_succ]
      refine wpAnyH_take (i := 2) (v := ?_) rfl (by kernel_rfl) (by kernel_rfl) (by kernel_rfl) (fun _ _ _ h => h) (Or.inl ⟨by rfl, ?_⟩) hHeld ?_
      rotate_left
      · intro V hSw; go_simp; rfl
      simp only [Act.put, List.getElem_toArray, List.getElem_cons_succ, List.getElem_cons_zero, List.setIfInBounds_toArray, List.set_cons_zero, List.set_cons_succ]
      refine wpAnyH_take (i := 3) (v := ?_) rfl (by kernel_rfl) (by kernel_rfl) (by kernel_rfl) (fun _ _ _ h => h) (Or.inl ⟨by rfl, ?_⟩) hHeld ?_
      rotate_left
      · intro V hSw; go_simp; rfl
      simp only [Act.put, List.getElem_toArray, List.getElem_cons_succ, List.getElem_cons_zero, List.setIfInBounds_toArray, List.set_cons_zero, List.set_cons_succ]
      refine wpAnyH_take (i := 4) (v := ?_) rfl (by kernel_rfl) (by kernel_rfl) (by kernel_rfl) (fun _ _ _ h => h) (Or.inl ⟨by rfl, ?_⟩) hHeld ?_
      rotate_left
      · intro V hSw; go_simp; rfl
      simp only [Act.put, List.getElem_toArray, List.getElem_cons_succ, List.getElem_cons_zero, List.setIfInBounds_toArray, List.set_cons_zero, List.set_cons_succ]
      refine wpAnyH_take (i := 5) (v := ?_) rfl (by kernel_rfl) (by kernel_rfl) (by kernel_rfl) (fun _ _ _ h => h) (Or.inl ⟨by rfl, ?_⟩) hHeld ?_
      rotate_left
      · intro V hSw; go_simp; rfl
      simp only [Act.put, List.getElem_toArray, List.getElem_cons_succ, List.getElem_cons_zero, List.setIfInBounds_toArray, List.set_cons_zero, List.set_cons_succ]
      refine wpAnyH_take (i := 6) (v := ?_) rfl (by kernel_rfl) (by kernel_rfl) (by kernel_rfl) (fun _ _ _ h => h) (Or.inl ⟨by rfl, ?_⟩) hHeld ?_
      rotate_left
      · intro V hSw; go_simp; rfl
      simp only [Act.put, List.getElem_toArray, List.getElem_cons_succ, List.getElem_cons_zero, List.setIfInBounds_toArray, List.set_cons_zero, List.set_cons_succ]
      refine wpAnyH_take (i := 8) (v := ?_) rfl (by kernel_rfl) (by kernel_rfl) (by kernel_rfl) (fun _ _ _ h => h) (Or.inl ⟨by rfl, ?_⟩) hHeld ?_
      rotate_left
      · intro V hSw; go_simp; rfl
      simp only [Act.put, List.getElem_toArray, List.getElem_cons_succ, List.getElem_cons_zero, List.setIfInBounds_toArray, List.set_cons_zero, List.set_cons_succ]
      refine wpAnyH_take (i := 11) (v := ?_) rfl (by kernel_rfl) (by kernel_rfl) (by kernel_rfl) (fun _ _ _ h => h) (Or.inl ⟨by rfl, ?_⟩) hHeld ?_
      rotate_left
      · intro V hSw; go_simp; rfl
      simp only [Act.put, List.getElem_toArray, List.getElem_cons_succ, List.getElem_cons_zero, List.setIfInBounds_toArray, List.set_cons_zero, List.set_cons_succ]
      refine wpAnyH_take (i := 12) (v := ?_) rfl (by kernel_rfl) (by kernel_rfl) (by kernel_rfl) (fun _ _ _ h => h) (Or.inl ⟨by rfl, ?_⟩) hHeld ?_
      rotate_left
      · intro V hSw; go_simp; rfl
      simp only [Act.put, List.getElem_toArray, List.getElem_cons_succ, List.getElem_cons_zero, List.setIfInBounds_toArray, List.set_cons_zero, List.set_cons_succ]
      refine wpAnyH_take (i := 15) (v := ?_) rfl (by kernel_rfl) (by kernel_rfl) (by kernel_rfl) (fun _ _ _ h => h) (Or.inl ⟨by rfl, ?_⟩) hHeld ?_
      rotate_left
      · intro V hSw; go_simp; rfl
      simp only [Act.put, List.getElem_toArray, List.getElem_cons_succ, List.getElem_cons_zero, List.setIfInBounds_toArray, List.set_cons_zero, List.set_cons_succ]
      refine wpAnyH_take (i := 16) (v := ?_) rfl (by kernel_rfl) (by kernel_rfl) (by kernel_rfl) (fun _ _ _ h => h) (Or.inl ⟨by rfl, ?_⟩) hHeld ?_
      rotate_left
      · intro V hSw; go_simp; rfl
      simp only [Act.put, List.getElem_toArray, List.getElem_cons_succ, List.getElem_cons_zero, List.setIfInBounds_toArray, List.set_cons_zero, List.set_cons_succ]
      refine wpAnyH_take (i := 17) (v := ?_) rfl (by kernel_rfl) (by kernel_rfl) (by kernel_rfl) (fun _ _ _ h => h) (Or.inl ⟨by rfl, ?_⟩) hHeld ?_
      rotate_left
      · intro V hSw; go_simp; rfl
      simp only [Act.put, List.getElem_toArray, List.getElem_cons_succ, List.getElem_cons_zero, List.setIfInBounds_toArray, List.set_cons_zero, List.set_cons_succ]
      refine wpAnyH_take (i := 18) (v := ?_) rfl (by kernel_rfl) (by kernel_rfl) (by kernel_rfl) (fun _ _ _ h => h) (Or.inl ⟨by rfl, ?_⟩) hHeld ?_
      rotate_left
      · intro V hSw; go_simp; rfl
      simp only [Act.put, List.getElem_toArray, List.getElem_cons_succ, List.getElem_cons_zero, List.setIfInBounds_toArray, List.set_cons_zero, List.set_cons_succ]
      refine wpAnyH_take (i := 19) (v := ?_) rfl (by kernel_rfl) (by kernel_rfl) (by kernel_rfl) (fun _ _ _ h => h) (Or.inl ⟨by rfl, ?_⟩) hHeld ?_
      rotate_left
      · intro V hSw; go_simp; rfl
      simp only [Act.put, List.getElem_toArray, List.getElem_cons_succ, List.getElem_cons_zero, List.setIfInBounds_toArray, List.set_cons_zero, List.set_cons_succ]
      refine wpAnyH_take (i := 21) (v := ?_) rfl (by kernel_rfl) (by kernel_rfl) (by kernel_rfl) (fun _ _ _ h => h) (Or.inl ⟨by rfl, ?_⟩) hHeld ?_
      rotate_left
      · intro V hSw; go_simp; rfl
      simp only [Act.put, List.getElem_toArray, List.getElem_cons_succ, List.getElem_cons_zero, List.setIfInBounds_toArray, List.set_cons_zero, List.set_cons_succ]
      refine wpAnyH_take (i := 23) (v := ?_) rfl (by kernel_rfl) (by kernel_rfl) (by kernel_rfl) (fun _ _ _ h => h) (Or.inl ⟨by rfl, ?_⟩) hHeld ?_
      rotate_left
      · intro V hSw; go_simp; rfl
      simp only [Act.put, List.getElem_toArray, List.getElem_cons_succ, List.getElem_cons_zero, List.setIfInBounds_toArray, List.set_cons_zero, List.set_cons_succ]
      refine wpAnyH_take (i := 26) (v := ?_) rfl (by kernel_rfl) (by kernel_rfl) (by kernel_rfl) (fun _ _ _ h => h) (Or.inl ⟨by rfl, ?_⟩) hHeld ?_
      rotate_left
      · intro V hSw; go_simp; rfl
      simp only [Act.put, List.getElem_toArray, List.getElem_cons_succ, List.getElem_cons_zero, List.setIfInBounds_toArray, List.set_cons_zero, List.set_cons_succ]
      refine wpAnyH_take (i := 27) (v := ?_) rfl (by kernel_rfl) (by kernel_rfl) (by kernel_rfl) (fun _ _ _ h => h) (Or.inl ⟨by rfl, ?_⟩) hHeld ?_
      rotate_left
      · intro V hSw; go_simp; rfl
      simp only [Act.put, List.getElem_toArray, List.getElem_cons_succ, List.getElem_cons_zero, List.setIfInBounds_toArray, List.set_cons_zero, List.set_cons_succ]
      refine wpAnyH_ready (rs := [7]) (by kernel_rfl) (by simp) ?_
      refine AllReadyH.cons rfl (fun K hK => ?_) AllReadyH.nil
      go_simp
      go_at_call 87
      with_reducible refine (unhide T7 _).mono ?_
      rintro e w9 ⟨rfl, h9⟩
      rw [h9]
      clear h9 w9
      refine hK.out _ _ (hHeld) (fun hHeld => ?_)
      clear hK K
      try simp only [Act.put, List.getElem_toArray, List.getElem_cons_succ, List.getElem_cons_zero, List.setIfInBounds_toArray, List.set_cons_zero, List.set_cons_succ]
      refine wpAnyH_ready (rs := [9]) (by kernel_rfl) (by simp) ?_
      refine AllReadyH.cons rfl (fun K hK => ?_) AllReadyH.nil
      go_simp
      go_at_call 87
      with_reducible refine (unhide T18 _).mono ?_
      rintro e w9 ⟨rfl, h9⟩
      rw [h9]
      clear h9 w9
      refine hK.out _ _ (hHeld) (fun hHeld => ?_)
      clear hK K
      try simp only [Act.put, List.getElem_toArray, List.getElem_cons_succ, List.getElem_cons_zero, List.setIfInBounds_toArray, List.set_cons_zero, List.set_cons_succ]
      refine wpAnyH_take (i := 10) (v := ?_) rfl (by kernel_rfl) (by kernel_rfl) (by kernel_rfl) (fun _ _ _ h => h) (Or.inl ⟨by rfl, ?_⟩) hHeld ?_
      rotate_left
      · intro V hSw; go_simp; rfl
      simp only [Act.put, List.getElem_toArray, List.getElem_cons_succ, List.getElem_cons_zero, List.setIfInBounds_toArray, List.set_cons_zero, List.set_cons_succ]
      refine wpAnyH_take (i := 13) (v := ?_) rfl (by kernel_rfl) (by kernel_rfl) (by kernel_rfl) (fun _ _ _ h => h) (Or.inl ⟨by rfl, ?_⟩) hHeld ?_
      rotate_left
      · intro V hSw; go_simp; rfl
      simp only [Act.put, List.getElem_toArray, List.getElem_cons_succ, List.getElem_cons_zero, List.setIfInBounds_toArray, List.set_cons_zero, List.set_cons_succ]
      refine wpAnyH_take (i := 14) (v := ?_) rfl (by kernel_rfl) (by kernel_rfl) (by kernel_rfl) (fun _ _ _ h => h) (Or.inl ⟨by rfl, ?_⟩) hHeld ?_
      rotate_left
      · intro V hSw; go_simp; rfl
      simp only [Act.put, List.getElem_toArray, List.getElem_cons_succ, List.getElem_cons_zero, List.setIfInBounds_toArray, List.set_cons_zero, List.set_cons_succ]
      refine wpAnyH_take (i := 20) (v := ?_) rfl (by kernel_rfl) (by kernel_rfl) (by kernel_rfl) (fun _ _ _ h => h) (Or.inl ⟨by rfl, ?_⟩) hHeld ?_
      rotate_left
      · intro V hSw; go_simp; rfl
      simp only [Act.put, List.getElem_toArray, List.getElem_cons_succ, List.getElem_cons_zero, List.setIfInBounds_toArray, List.set_cons_zero, List.set_cons_succ]
      refine wpAnyH_ready (rs := [22]) (by kernel_rfl) (by simp) ?_
      refine AllReadyH.cons rfl (fun K hK => ?_) AllReadyH.nil
      go_simp
      go_at_call 87
      with_reducible refine (unhide T17 _).mono ?_
      rintro e w9 ⟨rfl, h9⟩
      rw [h9]
      clear h9 w9
      refine hK.out _ _ (hHeld) (fun hHeld => ?_)
      clear hK K
      try simp only [Act.put, List.getElem_toArray, List.getElem_cons_succ, List.getElem_cons_zero, List.setIfInBounds_toArray, List.set_cons_zero, List.set_cons_succ]
      refine wpAnyH_ready (rs := [24]) (by kernel_rfl) (by simp) ?_
      refine AllReadyH.cons rfl (fun K hK => ?_) AllReadyH.nil
      go_simp
      go_at_call 87
      with_reducible refine (unhide T19 _).mono ?_
      rintro e w9 ⟨rfl, h9⟩
      rw [h9]
      clear h9 w9
      refine hK.out _ _ (hHeld) (fun hHeld => ?_)
      clear hK K
      try simp only [Act.put, List.getElem_toArray, List.getElem_cons_succ, List.getElem_cons_zero, List.setIfInBounds_toArray, List.set_cons_zero, List.set_cons_succ]
      refine wpAnyH_take (i := 25) (v := ?_) rfl (by kernel_rfl) (by kernel_rfl) (by kernel_rfl) (fun _ _ _ h => h) (Or.inl ⟨by rfl, ?_⟩) hHeld ?_
      rotate_left
      · intro V hSw; go_simp; rfl
      simp only [Act.put, List.getElem_toArray, List.getElem_cons_succ, List.getElem_cons_zero, List.setIfInBounds_toArray, List.set_cons_zero, List.set_cons_succ]
      refine wpAnyH_take (i := 28) (v := ?_) rfl (by kernel_rfl) (by kernel_rfl) (by kernel_rfl) (fun _ _ _ h => h) (Or.inl ⟨by rfl, ?_⟩) hHeld ?_
      rotate_left
      · intro V hSw; go_simp; rfl
      simp only [Act.put, List.getElem_toArray, List.getElem_cons_succ, List.getElem_cons_zero, List.setIfInBounds_toArray, List.set_cons_zero, List.set_cons_succ]
      refine wpAnyH_take (i := 29) (v := ?_) rfl (by kernel_rfl) (by kernel_rfl) (by kernel_rfl) (fun _ _ _ h => h) (Or.inl ⟨by rfl, ?_⟩) hHeld ?_
      rotate_left
      · intro V hSw; go_simp; rfl
      simp only [Act.put, List.getElem_toArray, List.getElem_cons_succ, List.getElem_cons_zero, List.setIfInBounds_toArray, List.set_cons_zero, List.set_cons_succ]
      rw [unhide E0, unhide E1, show IntKind.u32.wrap (IntKind.u32.wrap (IntKind.u32.wrap ((x0 : Int) + (y0 : Int)) + (x9 : Int)) + (y1 : Int)) = (X : Int) by simp only [IntKind.wrap_u32']; rw [unhide HXX]; omega]
      refine wpAnyH_ready (rs := [30]) (by kernel_rfl) (by simp) ?_
      refine AllReadyH.cons rfl (fun K hK => ?_) AllReadyH.nil
      go_simp
      refine hK.out _ _ (unhide S1) (fun hHeld => ?_)
      clear hK K
      try simp only [Act.put, List.getElem_toArray, List.getElem_cons_succ, List.getElem_cons_zero, List.setIfInBounds_toArray, List.set_cons_zero, List.set_cons_succ]
      refine wpAnyH_ready (rs := [31]) (by kernel_rfl) (by simp) ?_
      refine AllReadyH.cons rfl (fun K hK => ?_) AllReadyH.nil
      refine step_append_run rfl (.tmp 46) (.tmp 76) 72 rfl _ _ _ w5 rfl rfl (unhide RUN) ?_
      refine hK.out _ _ (unhide S2) (fun hHeld => ?_)
      clear hK K
      try simp only [Act.put, List.getElem_toArray, List.getElem_cons_succ, List.getElem_cons_zero, List.setIfInBounds_toArray, List.set_cons_zero, List.set_cons_succ]
      refine wpAnyH_take (i := 32) (v := ?_) rfl (by kernel_rfl) (by kernel_rfl) (by kernel_rfl) (fun _ _ _ h => h) (Or.inl ⟨by rfl, ?_⟩) hHeld ?_
      rotate_left
      · intro V hSw; go_simp; rfl
      simp only [Act.put, List.getElem_toArray, List.getElem_cons_succ, List.getElem_cons_zero, List.setIfInBounds_toArray, List.set_cons_zero, List.set_cons_succ]
      refine wpAnyH_done (by kernel_rfl) ?_ _
      refine NoPanic.normal ?_
      clear hHeld S0 S1 S2 RUN E0 E1 T7 T18 T17 T19
      go_wp2
      exact ⟨⟨i + 1, by omega, by go_num, unhide F5, Or.inr ⟨by omega, g2, o2, cap2, rfl, unhide F2, unhide F3⟩⟩, by simp [intOf]; omega⟩
    · obtain rfl : i = 64 := by omega
      obtain ⟨g, o', cp, rfl, hg, hS⟩ : ∃ g o' cp, u7 = .slice (some ⟨g, o', none⟩) 64 cp ∧ w.heap.size ≤ g ∧ Sgw wr g o' 64 cp (wsF t) := by
        rcases hor with ⟨h1, h2⟩ | ⟨_, h2⟩
        · omega
        · exact h2
      have HWR := hide hS.ar
      have HB := hide hB
      have hgl := hS.ar.lt
      clear hS hB hor HBG HNB HW1 HW2 HW4
      have hr2 := (unhide HR).kept (unhide HB)
      have hk2 := (unhide HK).kept (unhide HB)
      have B0 := (Below.refl wr.heap.size wr).alloc (Nat.le_refl _) (.cells #[] 88)
      have hnew : Hid (∀ j u, (uw 8 f)[j]? = some u → (wr.alloc (.cells #[] 88)).cell? ((⟨b, o, none⟩ : Addr).add j) = some u) := fun j u hu => by
        rw [Addr.add_mid]
        exact (hr2.kept B0).range j u hu
      have hone := hide (uw_oneL 8 f)
      have HR2 := hide hr2
      have HK2 := hide hk2
      clear hr2 hk2 B0
      rw [show ((64 : Nat) : Int) = (64 : Int) from rfl]
      go_wp2_with (at_builtin; refine wpList_append_grows _ rfl _ _ 72 rfl 88 i0 (.int .u32 0) 1 4 Tryd.underlying72 hi hz0 hz1 hz2 rfl (by decide) (some ⟨wr.heap.size, 0, none⟩) 0 0 [] rfl (by simp) rfl ?c9 ⟨b, o, none⟩ 8 cap (uw 8 f) rfl ?c0 (unhide hnew) (unhide hone) (by omega) ?c3 (by omega) ?_)
      case c9 => intro b _ j u hu; simp at hu
      case c0 => rw [uw_length]
      case c3 => unfold maxLen; omega
      intro v2 w2 hown hgr
      have B2 : Below wr.heap.size wr w2 := ((Below.refl wr.heap.size wr).alloc (Nat.le_refl _) (.cells #[] 88)).trans ⟨hgr.os, hgr.tape, hgr.output, hgr.size, fun k hk => hgr.block k (by simp; omega) (by simp)⟩
      obtain ⟨a2, c2, rfl, hop⟩ := Ow.opens (f := f) hown
      obtain ⟨gs, rfl, hgs, hA2⟩ := hop (by omega)
      have G0 := hide hA2
      have GW := hide ((unhide HWR).r.kept B2)
      have GR := hide ((unhide HR2).kept B2)
      have GK := hide ((unhide HK2).kept B2)
      have GB := hide ((unhide HB).trans (B2.mono (unhide HB).size))
      have hwz2 : w.heap.size ≤ gs := by have := (unhide HB).size; omega
      clear hown hgr hop hA2 HWR HR2 HK2 HB hnew hone B2
      have HF := hide hf
      have HRL := hide (fun k => rdsW_lt f (kwW t) hf k)
      have HRS : Hid (∀ k, rdsW f (kwW t) (k + 1) = rndW (rdsW f (kwW t) k) (kwW t k)) := fun k => rfl
      have HKW : Hid (∀ k, kwW t k = (KW k + wsF t k) % 4294967296) := fun k => rfl
      clear hf
      go_wp2_with fail
      go_loopw [11, 12] (fun sv iv wx => ∃ k gs cs : Nat, k ≤ 64 ∧ iv = .int .i64 k ∧ sv = .slice (some ⟨gs, 0, none⟩) 8 cs ∧ w.heap.size ≤ gs ∧ Aw wx gs 0 8 (rdsW f (kwW t) k) ∧ Rw wx g o' 64 (wsF t) ∧ Rw wx b o 8 f ∧ Rw wx gw 0 64 KW ∧ Below w.heap.size w wx) (fun _ iv _ => 64 - (intOf iv).toNat)
      case atStart => exact ⟨0, gs, c2, by omega, rfl, rfl, hwz2, unhide G0, unhide GW, unhide GR, unhide GK, unhide GB⟩
      case round =>
        obtain ⟨k, gs, cs, hk, rfl, rfl, hgs2, h0, h1, h2, h3, hB⟩ := hrel
        by_cases hlt : k < 64
        · have hfl := unhide HRL k
          have hrs := unhide HRS k
          have hkw := unhide HKW k
          have c0 := h0.c0 0 (by omega)
          have c1 := h0.c0 1 (by omega)
          have c2 := h0.c0 2 (by omega)
          have c3 := h0.c0 3 (by omega)
          have c4 := h0.c0 4 (by omega)
          have c5 := h0.c0 5 (by omega)
          have c6 := h0.c0 6 (by omega)
          have c7 := h0.c0 7 (by omega)
          have cw1 := h1.c k hlt
          have ck1 := h3.c k hlt
          rw [Nat.zero_add] at ck1
          generalize rdsW f (kwW t) k = s at *
          have hxw := unhide HWF k
          have hxk := KW_lt k
          generalize wsF t k = xw at *
          generalize KW k = xk at *
          generalize hy : kwW t k = y at *
          clear hy
          have HY := hide hkw
          have ERS := hide hrs
          have G0' := hide h0
          have G1' := hide h1
          have G2' := hide h2
          have G3' := hide h3
          have GB' := hide hB
          clear hkw hrs h0 h1 h2 h3 hB G0 GW GR GK GB
          have b0 := hfl 0
          have b1 := hfl 1
          have b2 := hfl 2
          have b3 := hfl 3
          have b4 := hfl 4
          have b5 := hfl 5
          have b6 := hfl 6
          have b7 := hfl 7
          have T6 : Hid (∀ W, Calls Tryd.prog 87 #[.int .u32 (s 4 : Nat), .int .u64 6] W fun e w' => e = .returned (.int .u32 (rr (s 4) 6 : Nat)) ∧ w' = W) := fun W => specRight (s 4) 6 b4 (by omega) (by omega) W
          have T11 : Hid (∀ W, Calls Tryd.prog 87 #[.int .u32 (s 4 : Nat), .int .u64 11] W fun e w' => e = .returned (.int .u32 (rr (s 4) 11 : Nat)) ∧ w' = W) := fun W => specRight (s 4) 11 b4 (by omega) (by omega) W
          have T25 : Hid (∀ W, Calls Tryd.prog 87 #[.int .u32 (s 4 : Nat), .int .u64 25] W fun e w' => e = .returned (.int .u32 (rr (s 4) 25 : Nat)) ∧ w' = W) := fun W => specRight (s 4) 25 b4 (by omega) (by omega) W
          have T2 : Hid (∀ W, Calls Tryd.prog 87 #[.int .u32 (s 0 : Nat), .int .u64 2] W fun e w' => e = .returned (.int .u32 (rr (s 0) 2 : Nat)) ∧ w' = W) := fun W => specRight (s 0) 2 b0 (by omega) (by omega) W
          have T13 : Hid (∀ W, Calls Tryd.prog 87 #[.int .u32 (s 0 : Nat), .int .u64 13] W fun e w' => e = .returned (.int .u32 (rr (s 0) 13 : Nat)) ∧ w' = W) := fun W => specRight (s 0) 13 b0 (by omega) (by omega) W
          have T22 : Hid (∀ W, Calls Tryd.prog 87 #[.int .u32 (s 0 : Nat), .int .u64 22] W fun e w' => e = .returned (.int .u32 (rr (s 0) 22 : Nat)) ∧ w' = W) := fun W => specRight (s 0) 22 b0 (by omega) (by omega) W
          have R6 := rr_lt (s 4) 6 b4
          have R11 := rr_lt (s 4) 11 b4
          have R25 := rr_lt (s 4) 25 b4
          have R2 := rr_lt (s 0) 2 b0
          have R13 := rr_lt (s 0) 13 b0
          have R22 := rr_lt (s 0) 22 b0
          generalize e6 : rr (s 4) 6 = r6 at *
          generalize e11 : rr (s 4) 11 = r11 at *
          generalize e25 : rr (s 4) 25 = r25 at *
          generalize e2 : rr (s 0) 2 = r2 at *
          generalize e13 : rr (s 0) 13 = r13 at *
          generalize e22 : rr (s 0) 22 = r22 at *
          have EE := hide (And.intro e6 (And.intro e11 (And.intro e25 (And.intro e2 (And.intro e13 e22)))))
          clear e6 e11 e25 e2 e13 e22
          have ik : (k : Int) < 64 := by omega
          go_wp2_with fail
          go_quiet (first | with_reducible exact Calls.quiet_of_same (unhide T6 _) | with_reducible exact Calls.quiet_of_same (unhide T11 _) | with_reducible exact Calls.quiet_of_same (unhide T25 _))
          rw [x3I r6 r11 r25 R6 R11 R25, chI (s 4) (s 5) (s 6) b4 b5 b6]
          have T1 : (((((s 7 : Nat) : Int) + ((r6 ^^^ r11 ^^^ r25 : Nat) : Int) + ((chW (s 4) (s 5) (s 6) : Nat) : Int)) + (xk : Int)) % 4294967296 + (xw : Int)) % 4294967296 = ((t1W s y : Nat) : Int) := by
            obtain ⟨q6, q11, q25, _⟩ := unhide EE
            unfold t1W bS1
            rw [q6, q11, q25, unhide HY]
            omega
          rw [T1]
          have HT1 : t1W s y < 4294967296 := Nat.mod_lt _ (by omega)
          clear T1
          generalize hT1 : t1W s y = t1 at *
          have ET1 := hide hT1
          clear hT1
          replace G0' := hide ((unhide G0').drewN nq)
          replace G1' := hide (Rw.drewN (unhide G1') nq)
          replace G2' := hide (Rw.drewN (unhide G2') nq)
          replace G3' := hide (Rw.drewN (unhide G3') nq)
          replace GB' := hide (Below.drewN' (unhide GB') nq)
          generalize wr.drewN nq = Wb at G0' G1' G2' G3' GB' ⊢
          clear c0 c1 c2 c3 c4 c5 c6 c7 cw1 ck1 T6 T11 T25
          have c1 := (unhide G0').c0 1 (by omega)
          have c2 := (unhide G0').c0 2 (by omega)
          go_wp2_with fail
          go_quiet (first | with_reducible exact Calls.quiet_of_same (unhide T2 _) | with_reducible exact Calls.quiet_of_same (unhide T13 _) | with_reducible exact Calls.quiet_of_same (unhide T22 _))
          rw [x3I r2 r13 r22 R2 R13 R22, majI (s 0) (s 1) (s 2) b0 b1 b2]
          have T2' : (((r2 ^^^ r13 ^^^ r22 : Nat) : Int) + ((majW (s 0) (s 1) (s 2) : Nat) : Int)) % 4294967296 = ((t2W s : Nat) : Int) := by
            obtain ⟨_, _, _, q2, q13, q22⟩ := unhide EE
            unfold t2W bS0
            rw [q2, q13, q22]
            omega
          rw [T2']
          have HT2 : t2W s < 4294967296 := Nat.mod_lt _ (by omega)
          clear T2'
          generalize hT2 : t2W s = t2 at *
          have ET2 := hide hT2
          clear hT2 T2 T13 T22
          replace G0' := hide ((unhide G0').drewN nq)
          replace G1' := hide (Rw.drewN (unhide G1') nq)
          replace G2' := hide (Rw.drewN (unhide G2') nq)
          replace G3' := hide (Rw.drewN (unhide G3') nq)
          replace GB' := hide (Below.drewN' (unhide GB') nq)
          generalize Wb.drewN nq = Wc at G0' G1' G2' G3' GB' ⊢
          clear c1 c2
          go_wp2_with fail
          have hE8 := rnd8 s y t1 t2 (unhide ET1) (unhide ET2)
          have hgsl := (unhide G0').lt
          have hN8 := Aw.new Wc.drew 8 (rndW s y) 88
          rw [World.size_drew] at hN8
          have BA := (Below.refl Wc.heap.size Wc).drew.alloc (Nat.le_refl _) (.cells (uw 8 (rndW s y)).toArray 88)
          have P1 := hide ((unhide G1').kept BA)
          have P2 := hide ((unhide G2').kept BA)
          have P3 := hide ((unhide G3').kept BA)
          have P4 := hide ((unhide GB').trans (BA.mono (unhide GB').size))
          have S0 : Hid (C5 gs (s 1) (s 2) (s 3) (s 5) (s 6) Wc.drew) := ⟨(unhide G0').c0 1 (by omega), (unhide G0').c0 2 (by omega), (unhide G0').c0 3 (by omega), (unhide G0').c0 5 (by omega), (unhide G0').c0 6 (by omega)⟩
          have h0A := (unhide G0').below BA hgsl
          have S1 : Hid (C5 gs (s 1) (s 2) (s 3) (s 5) (s 6) (Wc.drew.alloc (.cells (uw 8 (rndW s y)).toArray 88))) := ⟨h0A.c0 1 (by omega), h0A.c0 2 (by omega), h0A.c0 3 (by omega), h0A.c0 5 (by omega), h0A.c0 6 (by omega)⟩
          have hwzc : w.heap.size ≤ Wc.heap.size := (unhide GB').size
          rw [hE8] at hN8 P1 P2 P3 P4 S1
          have HN8 := hide hN8
          clear hN8 BA h0A hE8 G0' G1' G2' G3' GB'
          refine wp_region_noPanic ?_
          refine wp_region_held_drew (S := fun V => C5 gs (s 1) (s 2) (s 3) (s 5) (s 6) V) (by kernel_rfl) (unhide S0) (fun hHeld => ?_)
          refine wpAnyH_take (i := 0) (v := ?_) rfl (by kernel_rfl) (by kernel_rfl) (by kernel_rfl) (fun _ _ _ h => h) (Or.inl ⟨by rfl, ?_⟩) hHeld ?_
          rotate_left
          · intro V hSw; obtain ⟨z1, z2, z3, z5, z6⟩ := hSw; go_simp; rfl
          simp only [Act.put, List.getElem_toArray, List.getElem_cons_zero, List.setIfInBounds_toArray, List.set_cons_zero, List.set_cons_succ]
          refine wpAnyH_take (i := 1) (v := ?_) rfl (by kernel_rfl) (by kernel_rfl) (by kernel_rfl) (fun _ _ _ h => h) (Or.inl ⟨by rfl, ?_⟩) hHeld ?_
          rotate_left
          · intro V hSw; obtain ⟨z1, z2, z3, z5, z6⟩ := hSw; go_simp; rfl
          simp only [Act.put, List.getElem_toArray, List.getElem_cons_succ, List.getElem_cons_zero, List.setIfInBounds_toArray, List.set_cons_zero, List.set_cons_succ]
          refine wpAnyH_take (i := 2) (v := ?_) rfl (by kernel_rfl) (by kernel_rfl) (by kernel_rfl) (fun _ _ _ h => h) (Or.inl ⟨by rfl, ?_⟩) hHeld ?_
          rotate_left
          · intro V hSw; obtain ⟨z1, z2, z3, z5, z6⟩ := hSw; go_simp; rfl
          simp only [Act.put, List.getElem_toArray, List.getElem_cons_succ, List.getElem_cons_zero, List.setIfInBounds_toArray, List.set_cons_zero, List.set_cons_succ]
          refine wpAnyH_take (i := 3) (v := ?_) rfl (by kernel_rfl) (by kernel_rfl) (by kernel_rfl) (fun _ _ _ h => h) (Or.inl ⟨by rfl, ?_⟩) hHeld ?_
          rotate_left
          · intro V hSw; obtain ⟨z1, z2, z3, z5, z6⟩ := hSw; go_simp; rfl
          simp only [Act.put, List.getElem_toArray, List.getElem_cons_succ, List.getElem_cons_zero, List.setIfInBounds_toArray, List.set_cons_zero, List.set_cons_succ]
          refine wpAnyH_take (i := 4) (v := ?_) rfl (by kernel_rfl) (by kernel_rfl) (by kernel_rfl) (fun _ _ _ h => h) (Or.inl ⟨by rfl, ?_⟩) hHeld ?_
          rotate_left
          · intro V hSw; obtain ⟨z1, z2, z3, z5, z6⟩ := hSw; go_simp; rfl
          simp only [Act.put, List.getElem_toArray, List.getElem_cons_succ, List.getElem_cons_zero, List.setIfInBounds_toArray, List.set_cons_zero, List.set_cons_succ]
          refine wpAnyH_take (i := 5) (v := ?_) rfl (by kernel_rfl) (by kernel_rfl) (by kernel_rfl) (fun _ _ _ h => h) (Or.inl ⟨by rfl, ?_⟩) hHeld ?_
          rotate_left
          · intro V hSw; obtain ⟨z1, z2, z3, z5, z6⟩ := hSw; go_simp; rfl
          simp only [Act.put, List.getElem_toArray, List.getElem_cons_succ, List.getElem_cons_zero, List.setIfInBounds_toArray, List.set_cons_zero, List.set_cons_succ]
          refine wpAnyH_take (i := 6) (v := ?_) rfl (by kernel_rfl) (by kernel_rfl) (by kernel_rfl) (fun _ _ _ h => h) (Or.inl ⟨by rfl, ?_⟩) hHeld ?_
          rotate_left
          · intro V hSw; obtain ⟨z1, z2, z3, z5, z6⟩ := hSw; go_simp; rfl
          simp only [Act.put, List.getElem_toArray, List.getElem_cons_succ, List.getElem_cons_zero, List.setIfInBounds_toArray, List.set_cons_zero, List.set_cons_succ]
          refine wpAnyH_take (i := 7) (v := ?_) rfl (by kernel_rfl) (by kernel_rfl) (by kernel_rfl) (fun _ _ _ h => h) (Or.inl ⟨by rfl, ?_⟩) hHeld ?_
          rotate_left
          · intro V hSw; obtain ⟨z1, z2, z3, z5, z6⟩ := hSw; go_simp; rfl
          simp only [Act.put, List.getElem_toArray, List.getElem_cons_succ, List.getElem_cons_zero, List.setIfInBounds_toArray, List.set_cons_zero, List.set_cons_succ]
          refine wpAnyH_take (i := 8) (v := ?_) rfl (by kernel_rfl) (by kernel_rfl) (by kernel_rfl) (fun _ _ _ h => h) (Or.inl ⟨by rfl, ?_⟩) hHeld ?_
          rotate_left
          · intro V hSw; obtain ⟨z1, z2, z3, z5, z6⟩ := hSw; go_simp; rfl
          simp only [Act.put, List.getElem_toArray, List.getElem_cons_succ, List.getElem_cons_zero, List.setIfInBounds_toArray, List.set_cons_zero, List.set_cons_succ]
          refine wpAnyH_take (i := 9) (v := ?_) rfl (by kernel_rfl) (by kernel_rfl) (by kernel_rfl) (fun _ _ _ h => h) (Or.inl ⟨by rfl, ?_⟩) hHeld ?_
          rotate_left
          · intro V hSw; obtain ⟨z1, z2, z3, z5, z6⟩ := hSw; go_simp; rfl
          simp only [Act.put, List.getElem_toArray, List.getElem_cons_succ, List.getElem_cons_zero, List.setIfInBounds_toArray, List.set_cons_zero, List.set_cons_succ]
          refine wpAnyH_take (i := 10) (v := ?_) rfl (by kernel_rfl) (by kernel_rfl) (by kernel_rfl) (fun _ _ _ h => h) (Or.inl ⟨by rfl, ?_⟩) hHeld ?_
          rotate_left
          · intro V hSw; obtain ⟨z1, z2, z3, z5, z6⟩ := hSw; go_simp; rfl
          simp only [Act.put, List.getElem_toArray, List.getElem_cons_succ, List.getElem_cons_zero, List.setIfInBounds_toArray, List.set_cons_zero, List.set_cons_succ]
          refine wpAnyH_take (i := 11) (v := ?_) rfl (by kernel_rfl) (by kernel_rfl) (by kernel_rfl) (fun _ _ _ h => h) (Or.inl ⟨by rfl, ?_⟩) hHeld ?_
          rotate_left
          · intro V hSw; obtain ⟨z1, z2, z3, z5, z6⟩ := hSw; go_simp; rfl
          simp only [Act.put, List.getElem_toArray, List.getElem_cons_succ, List.getElem_cons_zero, List.setIfInBounds_toArray, List.set_cons_zero, List.set_cons_succ]
          refine wpAnyH_take (i := 12) (v := ?_) rfl (by kernel_rfl) (by kernel_rfl) (by kernel_rfl) (fun _ _ _ h => h) (Or.inl ⟨by rfl, ?_⟩) hHeld ?_
          rotate_left
          · intro V hSw; obtain ⟨z1, z2, z3, z5, z6⟩ := hSw; go_simp; rfl
          simp only [Act.put, List.getElem_toArray, List.getElem_cons_succ, List.getElem_cons_zero, List.setIfInBounds_toArray, List.set_cons_zero, List.set_cons_succ]
          refine wpAnyH_take (i := 13) (v := ?_) rfl (by kernel_rfl) (by kernel_rfl) (by kernel_rfl) (fun _ _ _ h => h) (Or.inl ⟨by rfl, ?_⟩) hHeld ?_
          rotate_left
          · intro V hSw; obtain ⟨z1, z2, z3, z5, z6⟩ := hSw; go_simp; rfl
          simp only [Act.put, List.getElem_toArray, List.getElem_cons_succ, List.getElem_cons_zero, List.setIfInBounds_toArray, List.set_cons_zero, List.set_cons_succ]
          refine wpAnyH_take (i := 14) (v := ?_) rfl (by kernel_rfl) (by kernel_rfl) (by kernel_rfl) (fun _ _ _ h => h) (Or.inl ⟨by rfl, ?_⟩) hHeld ?_
          rotate_left
          · intro V hSw; obtain ⟨z1, z2, z3, z5, z6⟩ := hSw; go_simp; rfl
          simp only [Act.put, List.getElem_toArray, List.getElem_cons_succ, List.getElem_cons_zero, List.setIfInBounds_toArray, List.set_cons_zero, List.set_cons_succ]
          refine wpAnyH_take (i := 15) (v := ?_) rfl (by kernel_rfl) (by kernel_rfl) (by kernel_rfl) (fun _ _ _ h => h) (Or.inl ⟨by rfl, ?_⟩) hHeld ?_
          rotate_left
          · intro V hSw; obtain ⟨z1, z2, z3, z5, z6⟩ := hSw; go_simp; rfl
          simp only [Act.put, List.getElem_toArray, List.getElem_cons_succ, List.getElem_cons_zero, List.setIfInBounds_toArray, List.set_cons_zero, List.set_cons_succ]
          refine wpAnyH_take (i := 16) (v := ?_) rfl (by kernel_rfl) (by kernel_rfl) (by kernel_rfl) (fun _ _ _ h => h) (Or.inl ⟨by rfl, ?_⟩) hHeld ?_
          rotate_left
          · intro V hSw; obtain ⟨z1, z2, z3, z5, z6⟩ := hSw; go_simp; rfl
          simp only [Act.put, List.getElem_toArray, List.getElem_cons_succ, List.getElem_cons_zero, List.setIfInBounds_toArray, List.set_cons_zero, List.set_cons_succ]
          refine wpAnyH_take (i := 17) (v := ?_) rfl (by kernel_rfl) (by kernel_rfl) (by kernel_rfl) (fun _ _ _ h => h) (Or.inl ⟨by rfl, ?_⟩) hHeld ?_
          rotate_left
          · intro V hSw; obtain ⟨z1, z2, z3, z5, z6⟩ := hSw; go_simp; rfl
          simp only [Act.put, List.getElem_toArray, List.getElem_cons_succ, List.getElem_cons_zero, List.setIfInBounds_toArray, List.set_cons_zero, List.set_cons_succ]
          refine wpAnyH_take (i := 18) (v := ?_) rfl (by kernel_rfl) (by kernel_rfl) (by kernel_rfl) (fun _ _ _ h => h) (Or.inl ⟨by rfl, ?_⟩) hHeld ?_
          rotate_left
          · intro V hSw; obtain ⟨z1, z2, z3, z5, z6⟩ := hSw; go_simp; rfl
          simp only [Act.put, List.getElem_toArray, List.getElem_cons_succ, List.getElem_cons_zero, List.setIfInBounds_toArray, List.set_cons_zero, List.set_cons_succ]
          refine wpAnyH_take (i := 19) (v := ?_) rfl (by kernel_rfl) (by kernel_rfl) (by kernel_rfl) (fun _ _ _ h => h) (Or.inl ⟨by rfl, ?_⟩) hHeld ?_
          rotate_left
          · intro V hSw; obtain ⟨z1, z2, z3, z5, z6⟩ := hSw; go_simp; rfl
          simp only [Act.put, List.getElem_toArray, List.getElem_cons_succ, List.getElem_cons_zero, List.setIfInBounds_toArray, List.set_cons_zero, List.set_cons_succ]
          refine wpAnyH_take (i := 20) (v := ?_) rfl (by kernel_rfl) (by kernel_rfl) (by kernel_rfl) (fun _ _ _ h => h) (Or.inl ⟨by rfl, ?_⟩) hHeld ?_
          rotate_left
          · intro V hSw; obtain ⟨z1, z2, z3, z5, z6⟩ := hSw; go_simp; rfl
          simp only [Act.put, List.getElem_toArray, List.getElem_cons_succ, List.getElem_cons_zero, List.setIfInBounds_toArray, List.set_cons_zero, List.set_cons_succ]
          refine wpAnyH_take (i := 21) (v := ?_) rfl (by kernel_rfl) (by kernel_rfl) (by kernel_rfl) (fun _ _ _ h => h) (Or.inl ⟨by rfl, ?_⟩) hHeld ?_
          rotate_left
          · intro V hSw; obtain ⟨z1, z2, z3, z5, z6⟩ := hSw; go_simp; rfl
          simp only [Act.put, List.getElem_toArray, List.getElem_cons_succ, List.getElem_cons_zero, List.setIfInBounds_toArray, List.set_cons_zero, List.set_cons_succ]
          rw [show IntKind.u32.wrap ((t1 : Int) + (t2 : Int)) = (((t1 + t2) % 4294967296 : Nat) : Int) by rw [IntKind.wrap_u32']; omega, show IntKind.u32.wrap (((s 3 : Nat) : Int) + (t1 : Int)) = (((s 3 + t1) % 4294967296 : Nat) : Int) by rw [IntKind.wrap_u32']; omega]
          refine wpAnyH_ready (rs := [22]) (by kernel_rfl) (by simp) ?_
          refine AllReadyH.cons rfl (fun K hK => ?_) AllReadyH.nil
          go_simp
          refine hK.out _ _ (unhide S1) (fun hHeld => ?_)
          clear hK K
          try simp only [Act.put, List.getElem_toArray, List.getElem_cons_succ, List.getElem_cons_zero, List.setIfInBounds_toArray, List.set_cons_zero, List.set_cons_succ]
          refine wpAnyH_take (i := 23) (v := ?_) rfl (by kernel_rfl) (by kernel_rfl) (by kernel_rfl) (fun _ _ _ h => h) (Or.inl ⟨by rfl, ?_⟩) hHeld ?_
          rotate_left
          · intro V hSw; go_simp; rfl
          simp only [Act.put, List.getElem_toArray, List.getElem_cons_succ, List.getElem_cons_zero, List.setIfInBounds_toArray, List.set_cons_zero, List.set_cons_succ]
          refine wpAnyH_done (by kernel_rfl) ?_ _
          refine NoPanic.normal ?_
          clear hHeld S0 S1
          go_wp2
          exact ⟨⟨k + 1, Wc.heap.size, 8, by omega, by go_num, rfl, hwzc, by rw [unhide ERS]; exact unhide HN8, unhide P1, unhide P2, unhide P3, unhide P4⟩, by simp [intOf]; omega⟩
        · obtain rfl : k = 64 := by omega
          have G0' := hide h0
          have G2' := hide h2
          have GB' := hide hB
          have hblt : b < w.heap.size := (unhide HR).lt
          have HRL2 := hide (unhide HRL 64)
          have HBH : Hid (∀ i, bhW f t i = (f i + rdsW f (kwW t) 64 i) % 4294967296) := fun i => rfl
          clear h0 h1 h2 h3 hB G0 GW GR GK GB HRL HRS HKW
          rw [show ((64 : Nat) : Int) = (64 : Int) from rfl]
          generalize rdsW f (kwW t) 64 = s at *
          generalize hr : bhW f t = r at *
          go_wp2_with fail
          go_loopw [179] (fun iv wx => ∃ k : Nat, k ≤ 8 ∧ iv = .int .i64 k ∧ Aw wx gs 0 8 (stp r s k) ∧ Rw wx b o 8 f ∧ Below w.heap.size w wx) (fun iv _ => 8 - (intOf iv).toNat)
          case atStart => exact ⟨0, by omega, rfl, (unhide G0').stepNone, unhide G2', unhide GB'⟩
          case round =>
            obtain ⟨k, hk, rfl, h0, h2, hB⟩ := hrel
            by_cases hlt : k < 8
            · have c0 := h0.c0 k hlt
              have f0 := h0.f0 k hlt
              have c2 := h2.c k hlt
              have e0 : stp r s k k = s k := by simp [stp]
              rw [e0] at c0
              have E2 := hide (unhide HBH k)
              have b1 := unhide HF k
              have b2 := unhide HRL2 k
              have q0 := hide h0
              have q2 := hide h2
              have q3 := hide hB
              clear h0 h2 hB e0 G0' G2' GB'
              have EV : Hid ((((s k : Nat) : Int) + ((f k : Nat) : Int)) % 4294967296 = ((r k : Nat) : Int)) := by rw [unhide E2]; exact (show (((s k : Nat) : Int) + ((f k : Nat) : Int)) % 4294967296 = (((f k + s k) % 4294967296 : Nat) : Int) by omega)
              generalize hs9 : s k = a0 at *
              generalize hf9 : f k = a2 at *
              generalize hr9 : r k = a3 at *
              clear hs9 hf9
              have HR9 := hide hr9
              clear hr9 E2
              go_wp2_with fail
              have ik : (k : Int) < 8 := by omega
              go_region
              go_wp2
              rw [unhide EV]
              refine ⟨⟨k + 1, by omega, by go_num, ?_, ?_, ?_⟩, by simp [intOf]; omega⟩
              · exact ((unhide q0).step hlt (unhide HR9)).drew
              · exact ((unhide q2).setOther (by show gs ≠ b; omega)).drew
              · exact ((unhide q3).setCell (by show w.heap.size ≤ gs; omega) _).drew
            · obtain rfl : k = 8 := by omega
              have q0 := hide h0.stepEnd
              have q3 := hide hB
              clear h0 h2 hB G0' G2' GB'
              go_wp2
              go_ret
              exact ⟨gs, cs, rfl, hgs2, by rw [hr]; exact unhide q0, unhide q3⟩
end Go.Proofs.YtpjmnnaiegdjmaaDoor
