/-
  Contract: one put behind a list of packets by the program, wherever its row lies.
-/
import Derived.Test.YtccfbkpelehldaaLsSent
namespace Go.Proofs.Ytccfbkpelehldaa.Rc
open Go.ChangeShapes Go.WideShapes Go.ChangeAt Go.RowKit Go.Deep
set_option linter.unusedVariables false
set_option maxRecDepth 100000

/-- a box of one cell holds no row of packets -/
theorem box_no {T base g : Nat} {w : World} {v u : Value} {L : List SentD} (hx : Bx w g [u]) (ho : Ro sentK T base w v L) (hL : 0 < L.length) : v.ownBlock ≠ some g := by
  intro e
  obtain ⟨a, c, rfl, _, ri⟩ := ho.form
  rcases ri with h0 | ⟨q, rfl, _, hg⟩
  · rw [h0] at hL; exact absurd hL (by simp)
  · have eq : q = g := by simp [Value.ownBlock] at e; exact e
    subst eq
    have h1 := hg.c 1 (by show 1 < L.length * 3; omega)
    rw [hx.cv 1] at h1
    cases h1
theorem roff {T base gw i : Nat} {w : World} {v u : Value} {L : List SentD} (h : Ro sentK T base w v L) (hne : v.ownBlock ≠ some gw) : Ro sentK T base (w.setCell ⟨gw, i, none⟩ u) v L := by
  refine ⟨h.1, ?_⟩
  rcases h.2 with hn | ⟨g, cap, cur, rfl, hg, hgg, rest⟩
  · exact .inl hn
  · exact .inr ⟨g, cap, cur, rfl, hg, (Below.heap_setCell w ⟨gw, i, none⟩ u g (by show g ≠ gw; intro e; exact hne (by rw [e]; rfl))).trans hgg, rest⟩
/-- one more is put behind, and where the row lies then -/
theorem pushTo (w : World) (base : Nat) (v : Value) (L : List SentD) (D : SentD) (hown : Ro sentK 37 base w v L) (hb : L.length ≤ 1048576) (hbase : base ≤ w.heap.size) :
    ∃ v' w', (Builtin.append_ #[23, 23] 23 #[v, .slice (some ⟨w.heap.size, 0, none⟩) 1 1]).run Try.prog (w.alloc (.cells #[.int .i64 D.f0, .int .i64 D.f1, .int .i64 D.f2] 37)) = .ok v' w' ∧ Ro sentK 37 base w' v' (L ++ [D]) ∧ (v'.ownBlock = v.ownBlock ∨ ∃ k, v'.ownBlock = some k ∧ w.heap.size ≤ k) ∧ Kq (fun q => v.ownBlock = some q) w w' := by
  obtain ⟨i0, hi, hz0, hz1, hz2⟩ := info_parts Try.infoSent
  have hA := (Below.refl w.heap.size w).alloc (Nat.le_refl _) (.cells #[.int .i64 D.f0, .int .i64 D.f1, .int .i64 D.f2] 37)
  obtain ⟨v', w', h1, h2, h3, h4, h5⟩ := app sentK (w.alloc (.cells #[.int .i64 D.f0, .int .i64 D.f1, .int .i64 D.f2] 37)) 23 23 37 base i0 _ 24 Try.underlying23 hi hz0 hz1 hz2 rfl (by decide) v L (hown.below hA) (some ⟨w.heap.size, 0, none⟩) 1 [D] (Or.inr ⟨_, rfl, fun j u hu => by
    have e : ([D] : List SentD).flatMap sentK.f = sentC D := by simp [sentK]
    rw [e] at hu
    rw [add_none, Nat.zero_add]
    have := (Bx.new w (sentC D) 37).cv j
    exact this.trans hu⟩) (by simp; omega) (by simp; omega)
  refine ⟨v', w', h1, h2, ?_, ?_⟩
  · rcases h4 with h4 | h4
    · exact Or.inl h4
    · exact Or.inr ⟨_, h4, by simp⟩
  · refine ⟨h5.os.trans hA.os, h5.tape.trans hA.tape, h5.output.trans hA.output, Nat.le_trans hA.size h5.size, fun q hq hnq => ?_⟩
    exact (h5.block q (by simp; omega) (fun e => hnq e.symm)).trans (hA.block q hq)
set_option maxHeartbeats 4000000 in
theorem putGSent (g base : Nat) (v : Value) (L : List SentD) (D : SentD) (w : World) (hn : L.length ≤ 1000000) (hb : base ≤ w.heap.size) (hx : Bx w g [v]) (ho : Ro sentK 37 base w v L) (hne : v.ownBlock ≠ some g) :
    Calls Try.prog 41 #[.pointer (some ⟨g, 0, none⟩), sentV D] w fun e w' => e = .returned (.tuple #[]) ∧ ∃ v', Bx w' g [v'] ∧ Ro sentK 37 base w' v' (L ++ [D]) ∧ (v'.ownBlock = v.ownBlock ∨ ∃ k, v'.ownBlock = some k ∧ w.heap.size ≤ k) ∧ Kq (fun q => q = g ∨ v.ownBlock = some q) w w' := by
  obtain ⟨V, hV⟩ : ∃ V, V = w.alloc (.cells #[.int .i64 D.f0, .int .i64 D.f1, .int .i64 D.f2] 37) := ⟨_, rfl⟩
  have hAl : Below w.heap.size w V := by rw [hV]; exact (Below.refl _ _).alloc (Nat.le_refl _) _
  have hz : V.heap.size = w.heap.size + 1 := by rw [hV]; simp
  have DX := (show Bx V w.heap.size (sentC D) by rw [hV]; exact Bx.new w _ _)
  have GX := hx.below hAl
  have hd : V.drew.heap.size = V.heap.size := World.size_drew _
  obtain ⟨v2, w2, run, o2, hbl, kp⟩ := pushTo V.drew base v L D ((ho.below hAl).below (Below.refl _ _).drew) (by omega) (by omega)
  have e1 : V.drew.alloc (.cells #[.int .i64 D.f0, .int .i64 D.f1, .int .i64 D.f2] 37) = (V.alloc (.cells #[.int .i64 D.f0, .int .i64 D.f1, .int .i64 D.f2] 37)).drew := rfl
  rw [e1, hd] at run
  have hln : (L ++ [D]).length = L.length + 1 := by simp
  have G2 := GX.drew.kept kp.size (kp.block g (by have := GX.lt; omega) hne)
  have hne2 := hide (box_no G2 o2 (by omega))
  obtain ⟨a2, c2, rfl⟩ := o2.opens
  rw [hln] at o2 run hbl
  rw [hln] at hne2
  have HBL : Hid ((Value.slice a2 (L.length + 1) c2).ownBlock = v.ownBlock ∨ ∃ k, (Value.slice a2 (L.length + 1) c2).ownBlock = some k ∧ w.heap.size ≤ k) := by
    rcases hbl with h | ⟨k, h, h'⟩
    · exact Or.inl h
    · exact Or.inr ⟨k, h, by omega⟩
  have K2 : Hid (Kq (fun q => q = g ∨ v.ownBlock = some q) w w2) := ((Kq.of hAl).trans (Kq.of (Below.refl V.heap.size V).drew)).trans (kp.imp (fun q hq => Or.inr hq))
  have RUN := hide run
  have O2 := hide o2
  have HG2 := hide G2
  have d0 := DX.cv
  have x0 := GX.cv
  have x2 := G2.cv
  have x2f := G2.fz
  have x2l := G2.lt
  have hgv : g < V.heap.size := GX.lt
  obtain ⟨av, cv, rfl⟩ := ho.opens
  have HV := hide hV
  clear run o2 hbl kp e1 hln hd hV hAl hz DX GX G2 hx ho hne
  go_enter Try.func41, Try.ntmps41
  go_upto_region 1 with fail
  rw [← unhide HV]
  clear HV
  go_region_law (refine stp_app rfl _ _ 23 rfl _ _ _ _ (by simp [Act.eval]) (by simp [Act.eval]) (unhide RUN) ?_)
  all_goals
    go_wp2
    go_end0
    exact ⟨rfl, _, (unhide HG2).set (i := 0) (by simp), roff (unhide O2) (unhide hne2), unhide HBL, (unhide K2).set (Or.inl rfl)⟩
end Go.Proofs.Ytccfbkpelehldaa.Rc
