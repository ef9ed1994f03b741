/-
  Contracts: a list of ranges cut off behind the twentieth, by the program.
-/
import Derived.Test.YthjciigcipblpaaLsRange
import Derived.Test.YthjciigcipblpaaRgj
import Derived.Deep.AppendSrc
import Derived.Lib.SliceRun
namespace Go.Proofs.Ythjciigcipblpaa.Rc
open Go.ChangeShapes Go.WideShapes Go.ChangeAt Go.RowKit Go.Deep
set_option linter.unusedVariables false
set_option maxRecDepth 100000

theorem zeroRange (w : World) : (zeroValue 65).run Try.prog w = .ok (.agg #[.int .i64 0, .int .i64 0]) w := by kernel_rfl
theorem clearR (W : World) (ty : TypeId) (g c : Nat) (hc : ∀ j, j < 2 → (W.cell? ⟨g, 40 + j, none⟩).isSome = true) (hf : ∀ j, j < 2 → W.frozen? ⟨g, 40 + j, none⟩ = false) :
    (Builtin.clear_ #[23] ty #[.slice (some ⟨g, 40, none⟩) 1 c]).run Try.prog W = .ok (.tuple #[]) ((W.setCell ⟨g, 40, none⟩ (.int .i64 0)).setCell ⟨g, 41, none⟩ (.int .i64 0)) := by
  have hst := run_storeCells_cells (P := Try.prog) g 40 [.int .i64 0, .int .i64 0] 0 W (by simpa using hc) (by simpa using hf) (by intro v hv; simp at hv; rw [hv]; rfl)
  simp only [Nat.add_zero] at hst
  have hz : (Builtin.zeroCells (Value.agg #[.int .i64 0, .int .i64 0]).cells 1).toList = [.int .i64 0, .int .i64 0] := by kernel_rfl
  have hv := fun w => zeroRange w
  simp [Builtin.clear_, run_underlying Try.underlying23, hv, hz, hst, World.setCells]
theorem appNil (W : World) (ty : TypeId) (g n cap c : Nat) (sa : Option Addr) (hn : n ≤ cap) :
    (Builtin.append_ #[23, 23] ty #[.slice (some ⟨g, 0, none⟩) n cap, .slice sa 0 c]).run Try.prog W = .ok (.slice (some ⟨g, 0, none⟩) n cap) W := by
  obtain ⟨i0, hi, hz0, hz1, hz2⟩ := info_parts Try.infoRange
  have hs : Src Try.prog i0.size 23 (.slice sa 0 c) 0 [] W := by
    cases sa with
    | none => exact Src.ofNil (P := Try.prog) (w := W) (size := i0.size) Try.underlying23 c
    | some a => exact Src.ofSlice (P := Try.prog) (w := W) (size := i0.size) Try.underlying23 a 0 c [] (by simp) (fun j u hu => by simp at hu) (fun u hu => by cases hu)
  have r := run_append_room_src (P := Try.prog) (w := W) 23 23 ty 65 i0 Try.underlying23 hi g 0 n cap (.slice sa 0 c) 0 [] hs (by omega) (fun j hj => by simp at hj) (fun j hj => by simp at hj)
  rw [r]
  simp [World.setCells]
set_option maxHeartbeats 4000000 in
theorem delR (g cap : Nat) (f : Nat → Value) (w : World) (hcap : 21 ≤ cap) (h : Rg w g 42 f) :
    Calls Try.prog 58 #[.slice (some ⟨g, 0, none⟩) 21 cap, .int .i64 20, .int .i64 21] w fun e w' => e = .returned (.slice (some ⟨g, 0, none⟩) 20 cap) ∧ Rg w' g 40 f ∧ Kq (fun q => q = g) w w' := by
  have hD : Rg w.drew g 42 f := h.below (Below.refl _ _).drew
  have CL := hide (fun ty c => clearR w.drew ty g c (fun j hj => by rw [hD.c _ (by omega)]; rfl) (fun j hj => hD.fz _))
  have AP := hide (fun W ty c sa => appNil W ty g 20 cap c sa (by omega))
  have FIN : Hid (Rg ((w.drew.setCell ⟨g, 40, none⟩ (.int .i64 0)).setCell ⟨g, 41, none⟩ (.int .i64 0)) g 40 f ∧ Kq (fun q => q = g) w ((w.drew.setCell ⟨g, 40, none⟩ (.int .i64 0)).setCell ⟨g, 41, none⟩ (.int .i64 0))) := by
    refine ⟨⟨by simpa using hD.lt, fun o ho => ?_, fun o => by simpa using hD.fz o⟩, ((Kq.of (P := fun q => q = g) (Below.refl _ _).drew).set rfl).set rfl⟩
    rw [World.cell?_setCell_other _ _ _ _ (by intro q; injection q with _ q _; omega), World.cell?_setCell_other _ _ _ _ (by intro q; injection q with _ q _; omega)]
    exact hD.c o (by omega)
  clear hD h
  have h1 : (21 : Int) ≤ (cap : Int) := by omega
  have h2 : (20 : Int) ≤ (cap : Int) := by omega
  by_cases h21 : cap = 21
  · subst h21
    go_enter Try.func58, Try.ntmps58
    go_upto_region 5 with fail
    go_region_law (refine stp_app rfl _ _ 23 rfl _ _ _ _ (by simp [Act.eval, Act.put]) (by simp [Act.eval, Act.put]) (unhide AP w.drew 23 0 (some ⟨g, 0, none⟩)) ?_)
    all_goals
      go_wp2_with (simp only [unhide CL])
      go_ret
      exact ⟨rfl, unhide FIN⟩
  · go_enter Try.func58, Try.ntmps58
    go_upto_region 5 with fail
    go_region_law (refine stp_app rfl _ _ 23 rfl _ _ _ _ (by simp [Act.eval, Act.put]) (by simp [Act.eval, Act.put]) (unhide AP w.drew 23 (cap - 21) (some ⟨g, 42, none⟩)) ?_)
    all_goals
      go_wp2_with (simp only [unhide CL])
      go_ret
      exact ⟨rfl, unhide FIN⟩
set_option maxHeartbeats 4000000 in
theorem cutR (gx lb ls c : Nat) (a : Option Addr) (R : List RangeD) (w : World) (hR : R.length ≤ 21) (hc : R.length ≤ c) (hx : Bx w gx [.slice a R.length c]) (hg : gx < lb ∨ ls ≤ gx) (h : Ri rangeK lb ls w a R) :
    Calls Try.prog 27 #[.pointer (some ⟨gx, 0, none⟩), .int .i64 20] w fun e w' => e = .returned (.tuple #[]) ∧ Bx w' gx [.slice a (R.take 20).length c] ∧ Ri rangeK lb ls w' a (R.take 20) ∧ Kq (fun q => q = gx ∨ (lb ≤ q ∧ q < ls)) w w' := by
  obtain ⟨T, hT⟩ : ∃ T, R.take 20 = T := ⟨_, rfl⟩
  rw [hT]
  by_cases h20 : R.length ≤ 20
  · have e9 : Hid (T = R) := by show _ = _; rw [← hT]; exact List.take_of_length_le h20
    have g9 : ¬ (20 : Int) < (R.length : Int) := by omega
    have x := hx.cv
    have FIN := hide (And.intro hx h)
    clear hx h h20 hR hc hT
    go_enter Try.func27, Try.ntmps27
    go_wp2
    go_end0
    exact ⟨rfl, by rw [unhide e9]; exact (unhide FIN).1, by rw [unhide e9]; exact (unhide FIN).2, Kq.refl _ _⟩
  · obtain e21 : R.length = 21 := by omega
    rcases h with h0 | ⟨g, rfl, hl, hgr⟩
    · rw [h0] at e21; cases e21
    have hlt : T.length = 20 := by rw [← hT, List.length_take]; omega
    rw [e21] at hx
    have hgr2 : Rg w g 42 (cl rangeK R) := by have h9 := hgr; rw [e21] at h9; exact h9
    have HD := hide (delR g c (cl rangeK R) w.drew (by omega) (hgr2.below (Below.refl _ _).drew))
    have XD := hide hx.drew
    have x := hx.cv
    have xl := hx.lt
    have xd := hx.drew.cv
    have hne : gx ≠ g := by omega
    have TK : Hid (∀ w', Rg w' g 40 (cl rangeK R) → Ri rangeK lb ls w' (some ⟨g, 0, none⟩) T) := fun w' h9 => Or.inr ⟨g, rfl, hl, h9.lt, fun q hq => by
      have hq2 : q < 20 * 2 := by rw [hlt] at hq; exact hq
      rw [← hT, cl_take rangeK R 20 q hq2]
      exact h9.c q (by omega), h9.fz⟩
    have HLT := hide hlt
    clear hx hgr hgr2 h20 e21 hR hc hlt hT
    go_enter Try.func27, Try.ntmps27
    go_upto_region 1 with fail
    go_region_law (go_simp; go_at_call 58; with_reducible refine (unhide HD).mono ?_; rintro e w6 ⟨rfl, r6, k6⟩; have x6 := ((unhide XD).kept k6.size (k6.block _ (unhide XD).lt hne)).cv; have x6f := ((unhide XD).kept k6.size (k6.block _ (unhide XD).lt hne)).fz; have x6l := ((unhide XD).kept k6.size (k6.block _ (unhide XD).lt hne)).lt)
    all_goals
      have X6 := hide ((unhide XD).kept k6.size (k6.block _ (unhide XD).lt hne))
      have R6 := hide (unhide TK _ r6)
      have K6 : Hid (Kq (fun q => q = gx ∨ (lb ≤ q ∧ q < ls)) w w6) := (Kq.of (Below.refl _ _).drew).trans (k6.imp (fun q hq => Or.inr (by omega)))
      clear r6 k6
      go_wp2
      go_end0
      refine ⟨rfl, by rw [unhide HLT]; exact (unhide X6).set (i := 0) (by simp), ?_, (unhide K6).set (Or.inl rfl)⟩
      exact (unhide R6).kq ((Kq.refl (fun q => q = gx) w6).set rfl) (fun q hq => by omega)
end Go.Proofs.Ythjciigcipblpaa.Rc
