/-
  Contracts: the program's lists of impl.Sent: copied, made, one put behind.
-/
import Derived.Test.YtccfbkpelehldaaRcSent
import Derived.Deep.RegionLaw
import Derived.Deep.DeepCutAuto
namespace Go.Proofs.Ytccfbkpelehldaa.Rc
open Go.ChangeShapes Go.WideShapes Go.ChangeAt Go.RowKit Go.Deep
set_option linter.unusedVariables false
set_option maxRecDepth 100000

set_option maxHeartbeats 1000000 in
theorem cloneSent (a : Option Addr) (cap : Nat) (L : List SentD) (w : World) (hn : L.length ≤ 1048576) (h : Rd sentK w a L) :
    Calls Try.prog 40 #[.slice a L.length cap] w fun e w' => ∃ v, e = .returned v ∧ Ro sentK 37 w.heap.size w' v L ∧ Below w.heap.size w w' := by
  have qT : ∀ W : World, ∀ (r : Option Addr) (n c : Nat), (binOp .eql 23 (.slice r n c) (.slice none 0 0)).run Try.prog W = .ok (.bool r.isNone) W := fun W r n c => Lib.run_eql_slice_nil W 23 _ r n c _ _ Try.underlying23
  cases a with
  | none =>
    obtain rfl : L = [] := by
      rcases h with h | ⟨b, o, e, _⟩
      · exact h
      · cases e
    clear h
    go_enter Try.func40, Try.ntmps40
    go_wp2
    go_ret
    exact ⟨_, rfl, Ro.nil _ _ _ _, Below.refl _ _⟩
  | some p =>
    have A2 := hide ((Below.refl w.heap.size w).alloc (Nat.le_refl _) (.cells #[] 37))
    obtain ⟨v3, w3, run, o3, b3, _⟩ := joinSent (w.alloc (.cells #[] 37)) w.heap.size _ [] L (some p) cap (lit0Sent w w.heap.size (Nat.le_refl _)) (h.below (unhide A2)) (by simp; omega) (unhide A2).size
    have RUN := hide run
    have O3 : Hid (Ro sentK 37 w.heap.size w3 v3 L) := o3
    have B3 := hide ((unhide A2).trans b3)
    clear run o3 b3 h A2
    generalize L.length = n at *
    go_enter Try.func40, Try.ntmps40
    go_wp2_with (at_builtin; refine wpl_app rfl _ _ 23 rfl _ _ _ _ rfl rfl (unhide RUN) ?_)
    go_ret
    exact ⟨_, rfl, unhide O3, unhide B3⟩
set_option maxHeartbeats 1000000 in
theorem listSent (a : Option Addr) (cap : Nat) (L : List SentD) (w : World) (hn : L.length ≤ 1048576) (h : Rd sentK w a L) :
    Calls Try.prog 16 #[.slice a L.length cap] w fun e w' => ∃ v, e = .returned (.agg #[v]) ∧ Ro sentK 37 (w.heap.size + 1) w' v L ∧ Below w.heap.size w w' := by
  obtain ⟨V, hV⟩ : ∃ V, V = w.alloc (.cells #[.slice none 0 0] 55) := ⟨_, rfl⟩
  have hAl : Below w.heap.size w V := by rw [hV]; exact (Below.refl _ _).alloc (Nat.le_refl _) _
  have hz : V.heap.size = w.heap.size + 1 := by rw [hV]; simp
  have BX := hide (show Bx V w.heap.size [.slice none 0 0] by rw [hV]; exact Bx.new w _ _)
  have H := hide (cloneSent a cap L V hn (h.below hAl))
  have HV := hide hV
  have HA := hide hAl
  have HZ := hide hz
  clear h hV hAl hz
  go_enter Try.func16, Try.ntmps16
  go_upto_region 1 with fail
  rw [← unhide HV]
  clear HV
  go_wp2_with fail
  refine (unhide H).mono ?_
  rintro e w1 ⟨v, rfl, o1, b1⟩
  have B1 := hide ((unhide HA).trans (b1.mono (unhide HA).size))
  have X1 := (unhide BX).below b1
  have x1 := X1.cv
  have x1f := X1.fz
  have x1l := X1.lt
  have O1 : Hid (Ro sentK 37 (w.heap.size + 1) w1 v L) := by show Ro _ _ _ _ _ _; rw [← unhide HZ]; exact o1
  obtain ⟨av, cv, rfl⟩ := o1.opens
  clear b1 X1 o1 BX H HZ
  go_wp2
  refine bodyPost_ret (v := .agg #[.slice av L.length cv]) (by simp [results, Try.results16, go_sem, x1]) rfl ⟨_, rfl, ?_, ?_⟩
  · exact (unhide O1).kq ((Kq.refl (fun q => q = w.heap.size) w1).set rfl) (fun q hq => by omega)
  · exact (unhide B1).setCell (p := ⟨w.heap.size, 0, none⟩) (Nat.le_refl _) _
set_option maxHeartbeats 4000000 in
theorem putSent (g base : Nat) (v : Value) (L : List SentD) (D : SentD) (w : World) (hn : L.length ≤ 1000000) (hg : g < base) (hb : base ≤ w.heap.size) (hx : Bx w g [v]) (ho : Ro sentK 37 base w v L) :
    Calls Try.prog 41 #[.pointer (some ⟨g, 0, none⟩), sentV D] w fun e w' => e = .returned (.tuple #[]) ∧ ∃ v', Bx w' g [v'] ∧ Ro sentK 37 base w' v' (L ++ [D]) ∧ Kq (fun q => q = g ∨ base ≤ q) w w' := by
  obtain ⟨V, hV⟩ : ∃ V, V = w.alloc (.cells #[.int .i64 D.f0, .int .i64 D.f1, .int .i64 D.f2] 37) := ⟨_, rfl⟩
  have hAl : Below w.heap.size w V := by rw [hV]; exact (Below.refl _ _).alloc (Nat.le_refl _) _
  have hz : V.heap.size = w.heap.size + 1 := by rw [hV]; simp
  have DX := (show Bx V w.heap.size (sentC D) by rw [hV]; exact Bx.new w _ _)
  have GX := hx.below hAl
  have hd : V.drew.heap.size = V.heap.size := World.size_drew _
  obtain ⟨v2, w2, run, o2, b2, kp⟩ := pushSent V.drew base v L D ((ho.below hAl).below (Below.refl _ _).drew) (by omega) (by omega)
  have e1 : V.drew.alloc (.cells #[.int .i64 D.f0, .int .i64 D.f1, .int .i64 D.f2] 37) = (V.alloc (.cells #[.int .i64 D.f0, .int .i64 D.f1, .int .i64 D.f2] 37)).drew := rfl
  rw [e1, hd] at run
  have hln : (L ++ [D]).length = L.length + 1 := by simp
  obtain ⟨a2, c2, rfl⟩ := o2.opens
  rw [hln] at o2 run
  have G2 := GX.drew.kept b2.size (b2.block g (by omega))
  have K2 : Hid (Kq (fun q => q = g ∨ base ≤ q) w w2) := by
    refine ⟨b2.os.trans hAl.os, b2.tape.trans ?_, b2.output.trans hAl.output, Nat.le_trans hAl.size (by have := b2.size; omega), fun q hq hnq => ?_⟩
    · exact (Below.refl V.heap.size V).drew.tape.trans hAl.tape
    · exact (b2.block q (by omega)).trans (((Below.refl V.heap.size V).drew.block q (by omega)).trans (hAl.block q hq))
  have RUN := hide run
  have O2 := hide o2
  have HG2 := hide G2
  have d0 := DX.cv
  have x0 := GX.cv
  have x2 := G2.cv
  have x2f := G2.fz
  have x2l := G2.lt
  have hgv : g < V.heap.size := GX.lt
  obtain ⟨av, cv, rfl⟩ := ho.opens
  have HV := hide hV
  clear run o2 b2 kp e1 hln hd hV hAl hz DX GX G2 hx ho
  go_enter Try.func41, Try.ntmps41
  go_upto_region 1 with fail
  rw [← unhide HV]
  clear HV
  go_region_law (refine stp_app rfl _ _ 23 rfl _ _ _ _ (by simp [Act.eval]) (by simp [Act.eval]) (unhide RUN) ?_)
  all_goals
    go_wp2
    go_end0
    refine ⟨rfl, _, (unhide HG2).set (i := 0) (by simp), ?_, ?_⟩
    · exact (unhide O2).kq ((Kq.refl (fun q => q = g) w2).set rfl) (fun q hq => by omega)
    · exact (unhide K2).set (Or.inl rfl)
end Go.Proofs.Ytccfbkpelehldaa.Rc
