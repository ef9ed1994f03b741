/-
  The law FnCarried, walked.
-/
import Derived.Test.YtgieglpjkjncfabDoorCdk
import Derived.Test.YtgieglpjkjncfabDoorCpo
import Derived.Test.YtgieglpjkjncfabDoorCrk
import Derived.Test.YtgieglpjkjncfabDoorVtv
import Derived.Deep.DeepCutAuto
namespace Go.Proofs.YtgieglpjkjncfabDoor.fnCarried
open Go.ChangeShapes Go.WideShapes Go.ChangeAt Go.RowKit Go.Deep Rc
set_option linter.unusedVariables false
set_option maxRecDepth 100000

/-- what is told comes back -/
theorem carried_back {D : CarriedD} (h : gdK D = true) : rkO ⟨(cyL D).toArray⟩ = some D := by
  have hg := h
  obtain ⟨f0, f1, f2⟩ := D
  obtain ⟨d0, d1, d2, d3, d4⟩ := gdK_n h
  dsimp only at d0 d1 d2 d3 d4
  have hm : Int.tmod f0 4 = 0 := by
    unfold gdK at h
    simp only [Bool.and_eq_true, decide_eq_true_eq] at h
    exact h.1.2
  have hq0 : Int.tdiv f0 4 = f0 / 4 := Int.tdiv_eq_ediv_of_nonneg d0
  rw [Int.tmod_eq_emod_of_nonneg d0] at hm
  have hL : cyL ⟨f0, f1, f2⟩ = vb (Int.tdiv f0 4) ++ (vb f1 ++ f2.data.toList) := rfl
  obtain ⟨q, hq⟩ : ∃ q, Int.tdiv f0 4 = q := ⟨_, rfl⟩
  rw [hq] at hL hq0
  have l0 := vb_length q
  have l1 := vb_length f1
  have p0 := vsz_le q
  have p1 := vsz_le f1
  have hl : f2.data.toList.length = f2.size := by rw [Array.length_toList]; rfl
  have hz : (⟨(cyL ⟨f0, f1, f2⟩).toArray⟩ : ByteArray).size = vsz q + vsz f1 + f2.size := by
    rw [sz_t, hL, List.length_append, List.length_append]
    omega
  have e0 : dr ⟨(cyL ⟨f0, f1, f2⟩).toArray⟩ 0 = vb q ++ (vb f1 ++ f2.data.toList) := hL
  have e1 : dr ⟨(cyL ⟨f0, f1, f2⟩).toArray⟩ (vsz q) = vb f1 ++ f2.data.toList := by
    show (cyL ⟨f0, f1, f2⟩).drop _ = _
    rw [hL, List.drop_left' l0]
  have t0 := vb_tk q (by omega) (by omega) (vb f1 ++ f2.data.toList)
  have t1 := vb_tk f1 d2 d3 f2.data.toList
  have ed : (⟨(cyL ⟨f0, f1, f2⟩).toArray⟩ : ByteArray).extract (vsz q + vsz f1) (vsz q + vsz f1 + f2.size) = f2 := by
    apply ByteArray.ext
    apply Array.toList_inj.1
    rw [ByteArray.data_extract, Array.toList_extract, List.extract_eq_take_drop]
    show ((cyL ⟨f0, f1, f2⟩).drop _).take _ = _
    rw [hL, ← List.drop_drop, List.drop_left' l0, List.drop_left' l1]
    exact List.take_of_length_le (by omega)
  have hD : rkD ⟨(cyL ⟨f0, f1, f2⟩).toArray⟩ (q, vsz q) (f1, vsz f1) = ⟨f0, f1, f2⟩ := by
    unfold rkD
    dsimp only
    rw [hz, ed, show 4 * q = f0 by omega]
  unfold rkO
  rw [if_pos (by rw [hz]; omega), e0, t0]
  unfold ckO
  dsimp only
  rw [if_neg (by omega), if_neg (by omega), e1, t1]
  dsimp only
  rw [if_neg (by omega), hD]
  exact if_pos hg
set_option maxHeartbeats 8000000 in
theorem walk_small (a0 : Option Addr) (n0 c0 : Nat) (w : World) (h : n0 ≤ 1048576) (hC0 : Dr.Cd w a0 n0) (hz : Tz w) :
    Calls Tryd.prog 4 #[.slice a0 n0 c0] w fun e w' => e = .returned (.bool true) ∧ Below w.heap.size w w' := by
  have g0 : ¬ (1048576 : Int) < (n0 : Int) := by omega
  have HC0 := hide hC0
  have HZ := hide (fun W (b : Below w.heap.size w W) => hz.kept b (tz_low hz))
  clear hC0 hz
  go_enter Tryd.func4, Tryd.ntmps4
  go_wp2_with fail
  refine (Dr.drawCY_any a0 n0 c0 _ (by omega) (unhide HC0)).mono ?_
  rintro e w1 ⟨D, rfl, hD, b1⟩
  have hcy : (cyR D).size ≤ 1048576 := by
    unfold cyR
    split
    · rename_i hg
      have h9 := gdK_n hg
      rw [sz_t]
      unfold cyL
      rw [List.length_append, List.length_append]
      have h1 := vb_le (Int.tdiv D.f0 4)
      have h2 := vb_le D.f1
      have hl : D.f2.data.toList.length = D.f2.size := by rw [Array.length_toList]; rfl
      omega
    · show 0 ≤ _; omega
  obtain ⟨V, hV⟩ : ∃ V, V = w1.alloc (.cells #[.int .i64 D.f0, .int .i64 D.f1, .string D.f2] 38) := ⟨_, rfl⟩
  have B1 : Hid (Below w.heap.size w V) := by show Below _ _ _; rw [hV]; exact b1.alloc b1.size _
  have X1 : Hid (Bx V w1.heap.size (carriedC D)) := by show Bx _ _ _; rw [hV]; exact Bx.new w1 _ _
  have HV := hide hV
  have HI := hide (fun W (b : Below w.heap.size w W) => implCY D (by omega) W (unhide HZ W b))
  have HS := hide (fun W => specCY D (by omega) W)
  have HR := hide (fun W => implRK (cyR D) W hcy)
  have HBK : Hid (gdK D = true → rkO (cyR D) = some D) := fun hg => by unfold cyR; rw [if_pos hg]; exact carried_back hg
  have HNO : Hid (gdK D = false → cyR D = ⟨#[]⟩) := fun hg => by unfold cyR; rw [if_neg (by rw [hg]; decide)]
  generalize cyR D = O at *
  generalize gdK D = ok at *
  clear b1 hV hcy HC0
  go_upto_region 4 with fail
  rw [← unhide HV]
  have x1 := (unhide X1).cv
  have x1l := (unhide X1).lt
  go_wp2_with fail
  refine (unhide HI _ (unhide B1)).mono ?_
  rintro e w2 ⟨rfl, b2⟩
  have B2 := hide ((unhide B1).trans (b2.mono (unhide B1).size))
  have X2 := hide ((unhide X1).below b2)
  clear b2 B1 X1 x1 x1l HI HV
  have x1 := (unhide X2).cv
  have x1l := (unhide X2).lt
  go_wp2_with fail
  refine (unhide HS _).mono ?_
  rintro e w3 ⟨rfl, b3⟩
  have B3 := hide ((unhide B2).trans (b3.mono (unhide B2).size))
  have X3 := hide ((unhide X2).below b3)
  clear b3 B2 X2 x1 x1l HS
  cases ok with
  | false =>
    obtain rfl := unhide HNO rfl
    clear HNO HBK HR
    go_wp2
    go_ret
    exact ⟨rfl, unhide B3⟩
  | true =>
    have HE := unhide HBK rfl
    rw [HE] at HR
    clear HE HNO HBK
    go_wp2_with fail
    refine (unhide HR _).mono ?_
    rintro e w4 ⟨he, b4⟩
    unfold RkP at he
    dsimp only [Option.getD, Option.isSome] at he
    subst he
    obtain ⟨V4, hV4⟩ : ∃ V, V = w4.alloc (.cells #[.int .i64 D.f0, .int .i64 D.f1, .string D.f2] 38) := ⟨_, rfl⟩
    have hB4 := (unhide B3).trans (b4.mono (unhide B3).size)
    have B5 : Hid (Below w.heap.size w V4) := by show Below _ _ _; rw [hV4]; exact hB4.alloc hB4.size _
    have Y5 : Hid (Bx V4 w4.heap.size (carriedC D)) := by show Bx _ _ _; rw [hV4]; exact Bx.new w4 _ _
    have X5 : Hid (Bx V4 w1.heap.size (carriedC D)) := by show Bx _ _ _; rw [hV4]; exact ((unhide X3).below b4).alloc _
    have HV4 := hide hV4
    clear hV4 hB4 b4 B3 X3 HR
    go_upto_region 11 with fail
    rw [← unhide HV4]
    clear HV4
    have y1 := (unhide Y5).cv
    have y1l := (unhide Y5).lt
    have x1 := (unhide X5).cv
    have x1l := (unhide X5).lt
    go_wp2
    go_ret
    exact ⟨rfl, unhide B5⟩
theorem walk (a0 : Option Addr) (n0 c0 : Nat) (w : World) (hN0 : n0 ≤ 140737488355328) (hC0 : Dr.Cd w a0 n0) (hz : Tz w) :
    Calls Tryd.prog 4 #[.slice a0 n0 c0] w fun e w' => e = .returned (.bool true) ∧ Below w.heap.size w w' := by
  by_cases h : (1048576 : Int) < (n0 : Int)
  · clear hC0
    go_enter Tryd.func4, Tryd.ntmps4
    go_wp2
    go_ret
    exact ⟨rfl, Below.refl _ _⟩
  · exact walk_small a0 n0 c0 w (by omega) hC0 hz
end Go.Proofs.YtgieglpjkjncfabDoor.fnCarried
