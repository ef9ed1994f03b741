/-
  Contracts: boxOf.
-/
import Derived.Test.YtkpodgeinanceaaGbx
namespace Go.Proofs.Ytkpodgeinanceaa
open Go.ChangeShapes Go.WideShapes Go.ChangeAt Go.RowKit
set_option linter.unusedVariables false

theorem info_tab : (Try.prog.info? 124).map (·.size) = some 256 := by kernel_rfl
theorem info_pow : (Try.prog.info? 138).map (·.size) = some 255 := by kernel_rfl
set_option maxRecDepth 100000 in
theorem zero_tab (w : World) : (zeroValue 124).run Try.prog w = .ok (.agg (us 256 fun _ => 0).toArray) w := by rw [us_def]; kernel_rfl
set_option maxRecDepth 100000 in
theorem zero_pow (w : World) : (zeroValue 138).run Try.prog w = .ok (.agg (us 255 fun _ => 0).toArray) w := by rw [us_def]; kernel_rfl
set_option maxRecDepth 100000 in
theorem zc_tab : Try.zeroCells124 = (us 256 fun _ => 0).toArray := by rw [us_def]; kernel_rfl
set_option maxRecDepth 100000 in
theorem zc_pow : Try.zeroCells138 = (us 255 fun _ => 0).toArray := by rw [us_def]; kernel_rfl

set_option maxRecDepth 100000 in
set_option maxHeartbeats 2000000 in
theorem boxOf_gen (P : Nat → Nat) (hP0 : P 0 = 1) (hPn : ∀ i, i < 255 → P (i + 1) = P i ^^^ dbl (P i)) (hPl : ∀ i, i < 255 → P i < 256) (hPs : ∀ i, i < 255 → spr (P ((255 - i) % 255)) = sub (P i)) (w : World) :
    Calls Try.prog 86 #[] w fun e w' => e = .returned (.agg (us 256 (bx P 255)).toArray) ∧ Below w.heap.size w w' := by
  have HP0 := hide hP0
  have HPn := hide hPn
  have HPl := hide hPl
  have HPs := hide hPs
  clear hP0 hPn hPl hPs
  go_enter Try.func86, Try.ntmps86
  go_wp2_with fail
  rw [zc_tab, zc_pow]
  go_loopw [2, 7] (fun pv iv wr => ∃ k : Nat, k ≤ 255 ∧ iv = .int .i64 k ∧ pv = .int .u8 (P k : Nat) ∧ Ar wr w.heap.size 0 256 (fun _ => 0) ∧ Ar wr (w.heap.size + 1) 0 255 (stp P (fun _ => 0) k) ∧ wr.heap.size = w.heap.size + 1 + 1 ∧ Below w.heap.size w wr) (fun _ iv _ => 255 - (intOf iv).toNat)
  case atStart =>
    refine ⟨0, by omega, rfl, by rw [unhide HP0]; rfl, ?_, ?_, by simp, ?_⟩
    · exact (Ar.new w 256 (fun _ => 0) _).alloc _
    · have := Ar.new (w.alloc (.cells (us 256 fun _ => 0).toArray 124)) 255 (fun _ => 0) 138
      rw [World.size_alloc] at this
      exact this.stepNone
    · repeat (first | exact Below.refl _ _ | refine Below.alloc ?_ (by simp <;> omega) _)
  case round =>
    obtain ⟨k, hk, rfl, rfl, h1, h2, hsz, hbw⟩ := hrel
    have H1 := hide h1
    have H2 := hide h2
    have HB := hide hbw
    by_cases hlt : k < 255
    · have s0 := h2.c0 k hlt
      have f0 := h2.f0 k hlt
      have hx := unhide HPl k hlt
      have e1 := hide (xorI (P k) (dbl (P k)) hx (dbl_lt _ hx))
      have e2 := hide (unhide HPn k hlt)
      have hD := hide (fun W => implDouble (P k) hx W)
      clear h1 h2 hbw
      generalize hp : P k = x at *
      have HP := hide hp
      clear hp
      generalize dbl x = y at *
      go_wp2_with (go_at_call 88; with_reducible refine (unhide hD _).mono ?_; rintro e w1 ⟨rfl, rfl⟩)
      rw [unhide e1]
      refine ⟨⟨k + 1, by omega, by go_num, by rw [unhide e2], ?_, ?_, ?_, ?_⟩, by simp [intOf]; omega⟩
      · exact (unhide H1).other (by simp)
      · exact (unhide H2).step hlt (unhide HP)
      · simpa [World.setCell] using hsz
      · exact (unhide HB).setCell (by simp) _
    · have e : k = 255 := by omega
      subst e
      have H4 := hide h2.stepEnd
      clear h1 h2 hbw H2
      generalize P 255 = pp
      have hSp : Hid (∀ W, Calls Try.prog 101 #[.int .u8 0] W fun e w' => e = .returned (.int .u8 (sub 0 : Nat)) ∧ w' = W) := fun W => by
        have h := implSpr 0 (by omega) W
        rw [sub0] at h
        exact h
      have hs0 := sub_lt 0 (by omega)
      have hbx : Hid ((us 256 fun _ => 0).set 0 (.int .u8 ((sub 0 : Nat) : Int)) = us 256 (bx P 0)) := us_set (k := 0) (by omega) rfl (fun i _ hne => by simp [bx, hne])
      have hl0 : (us 256 fun _ => 0).length = 256 := us_length _ _
      generalize sub 0 = z at hSp hs0 hbx
      go_wp2_with (go_at_call 101; with_reducible refine (unhide hSp _).mono ?_; rintro e w1 ⟨rfl, rfl⟩)
      rw [zc_tab, List.setIfInBounds_toArray]
      rw [unhide hbx]
      have A3 := Ar.new wr 256 (bx P 0) 124
      rw [hsz] at A3
      have A1 := (unhide H1).alloc (.cells (us 256 (bx P 0)).toArray 124)
      have A4 := (unhide H4).alloc (.cells (us 256 (bx P 0)).toArray 124)
      have AB := (unhide HB).alloc (unhide HB).size (.cells (us 256 (bx P 0)).toArray 124)
      generalize wr.alloc (.cells (us 256 (bx P 0)).toArray 124) = w3 at A3 A1 A4 AB ⊢
      clear H1 H4 HB hbx hSp hsz
      refine wp_load_mid 138 (.tmp 1) rfl (w.heap.size + 1) 0 rfl (us 255 P) _ A4.range Try.underlying138 rfl (by rw [us_length]; exact info_pow) ?_
      have HA1 := hide A1
      have HA3 := hide A3
      have HA4 := hide A4
      have HAB := hide AB
      clear A1 A3 A4 AB
      go_wp2_with fail
      go_loopw [21] (fun iv wx => ∃ k : Nat, k ≤ 255 ∧ iv = .int .i64 k ∧ Ar wx w.heap.size 0 256 (fun _ => 0) ∧ Ar wx (w.heap.size + 1) 0 255 P ∧ Ar wx (w.heap.size + 1 + 1) 0 256 (bx P k) ∧ Below w.heap.size w wx) (fun iv _ => 255 - (intOf iv).toNat)
      case atStart => exact ⟨0, by omega, rfl, unhide HA1, unhide HA4, unhide HA3, unhide HAB⟩
      case round =>
        obtain ⟨k, hk, rfl, h1, h2, h3, hbw⟩ := hrel
        have H1 := hide h1
        have H2 := hide h2
        have H3 := hide h3
        have HB := hide hbw
        by_cases hlt : k < 255
        · have hx := unhide HPl k hlt
          have hy := unhide HPl ((255 - k) % 255) (by omega)
          have s0 : wr.cell? ⟨w.heap.size + 1, (-(k : Int) % 255).toNat, none⟩ = some (.int .u8 (P ((255 - k) % 255) : Nat)) := by
            rw [show (-(k : Int) % 255).toNat = (255 - k) % 255 by omega]
            exact h2.c0 ((255 - k) % 255) (by omega)
          have c0 := h3.c0 (P k) hx
          have f0 := h3.f0 (P k) hx
          have hI := idx_us 255 138 P k hlt Try.underlying138 wr
          have hSp := implSpr (P ((255 - k) % 255)) hy
          rw [unhide HPs k hlt] at hSp
          have HSp := hide hSp
          have e1 : Hid (∀ b, bx P (k + 1) b = if b = P k then sub b else bx P k b) := fun b => rfl
          clear h1 h2 h3 hbw hSp
          generalize P ((255 - k) % 255) = y at *
          generalize P k = x at *
          generalize hq : sub x = q at *
          have HQ := hide hq
          clear hq
          generalize bx P k x = o at *
          have i1 : (0 : Int) ≤ (x : Int) ∧ (x : Int) < 256 := by omega
          go_wp2_with (go_at_call 101; with_reducible refine (unhide HSp _).mono ?_; rintro e w1 ⟨rfl, rfl⟩)
          refine ⟨⟨k + 1, by omega, by go_num, ?_, ?_, ?_, ?_⟩, by simp [intOf]; omega⟩
          · exact (unhide H1).other (by simp <;> omega)
          · exact (unhide H2).other (by simp)
          · refine (unhide H3).put0 hx ?_ ?_
            · rw [unhide e1, if_pos rfl]; exact unhide HQ
            · intro i hi hne; rw [unhide e1, if_neg hne]
          · exact (unhide HB).setCell (by simp <;> omega) _
        · have e : k = 255 := by omega
          subst e
          have HH := hide (h1.puts (g := bx P 255))
          go_upto_region 16 with fail
          refine wp_region_list ?_
          refine wpList_load_mid rfl 124 (.tmp 4) rfl (w.heap.size + 1 + 1) 0 rfl (us 256 (bx P 255)) _ h3.range Try.underlying124 rfl (by rw [us_length]; exact info_tab) ?_
          refine wpList_store_mid rfl 124 (.tmp 0) (.tmp 34) rfl w.heap.size 0 (us 256 (bx P 255)).toArray rfl rfl (by rw [us_size]; exact h1.there) (by rw [us_size]; exact info_tab) (us_one _ _) ?_
          refine wpList_nil ?_
          clear h1 h2 h3 hbw H1 H2 H3
          go_wp2
          refine ret_arr 0 w.heap.size 256 124 _ (bx P 255) ?r1 ?r2 ?r3 (unhide HH) Try.underlying124 rfl info_tab ?_
          case r1 => rfl
          case r2 => rfl
          case r3 => rfl
          exact ⟨rfl, Go.Proofs.Ytkpodgeinanceaa.below_setCells (Nat.le_refl _) _ _ _ (unhide HB)⟩
theorem boxOf_any (w : World) :
    Calls Try.prog 86 #[] w fun e w' => e = .returned (.agg (us 256 sub).toArray) ∧ Below w.heap.size w w' := by
  have h := boxOf_gen pow3 rfl pow3_next pow3_lt pow3_sub w
  rw [us_congr (fun i hi => bx_end i hi)] at h
  exact h
end Go.Proofs.Ytkpodgeinanceaa
