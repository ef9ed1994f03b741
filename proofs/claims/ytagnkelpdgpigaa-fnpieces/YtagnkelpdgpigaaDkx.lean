/-
  What is kept while the model draws.
-/
import Derived.Test.YtagnkelpdgpigaaRcs
import Derived.Test.YtagnkelpdgpigaaCur
namespace Go.Proofs.Ytagnkelpdgpigaa.Rc
open Go.ChangeShapes Go.WideShapes Go.ChangeAt Go.RowKit Go.Deep
set_option linter.unusedVariables false
set_option maxRecDepth 100000

theorem bx_kx {cb g : Nat} {w w' : World} {xs : List Value} (h : Bx w g xs) (k : Kx cb w w') (hne : g ≠ cb) : Bx w' g xs := h.kept k.size (k.block g h.lt hne)
theorem cu_bel {w0 W W' : World} {cb B : Nat} {a : Option Addr} {N cap P P0 : Nat} (h0 : Cu w0 cb a N cap P0) (h : Cu W cb a N cap P) (hb : Below B W W') (hB : w0.heap.size ≤ B) : Cu W' cb a N cap P := by
  have hl := h0.lt
  have hc : ∀ q : Nat, W'.cell? ⟨cb, q, none⟩ = W.cell? ⟨cb, q, none⟩ := fun q => World.cell?_of_block (a := ⟨cb, q, none⟩) (hb.block cb (by omega))
  refine ⟨Nat.lt_of_lt_of_le h.lt hb.size, (hc 0).trans h.c0, ?_, ?_, fun q => ?_, ?_⟩
  · obtain ⟨p, h1, h2⟩ := h.c1
    exact ⟨p, h1, (hc 1).trans h2⟩
  · obtain ⟨s, h1, h2, h3⟩ := h.c2
    exact ⟨s, h1, h2, (hc 2).trans h3⟩
  · exact (World.frozen?_of_block (w := W) (a := ⟨cb, q, none⟩) (hb.block cb (by omega))).trans (h.fz q)
  · rcases h.cd with e | ⟨b, off, e, hl1, hn1, hx⟩
    · exact Or.inl e
    · rcases h0.cd with e0 | ⟨b0, off0, e0, hl0, _, _⟩
      · exact Or.inl e0
      · have hbb : b = b0 := by
          rw [e] at e0
          simp at e0
          exact e0.1
        refine Or.inr ⟨b, off, e, Nat.lt_of_lt_of_le hl1 hb.size, hn1, fun i hi => ?_⟩
        obtain ⟨x, h1, h2⟩ := hx i hi
        exact ⟨x, h1, (World.cell?_of_block (a := ⟨b, off + i, none⟩) (hb.block b (by omega))).trans h2⟩
theorem kx_bel {cb B : Nat} {w W W' : World} (h : Kx cb w W) (hb : Below B W W') (hB : w.heap.size ≤ B) : Kx cb w W' :=
  ⟨hb.os.trans h.os, hb.tape.trans h.tape, hb.output.trans h.output, Nat.le_trans h.size hb.size, fun k hk hne => (hb.block k (by omega)).trans (h.block k hk hne)⟩
theorem kx_kq {cb : Nat} {w w' : World} (h : Kx cb w w') : Kq (fun q => q = cb) w w' := ⟨h.os, h.tape, h.output, h.size, fun q hq hn => h.block q hq hn⟩
theorem pickN (cb : Nat) (a : Option Addr) (N cap P n : Nat) (w : World) (hN : N ≤ 1048576) (hP : P ≤ 900000) (h0 : 0 < n) (h1 : n ≤ 60000) (h : Cu w cb a N cap P) :
    Calls Try.prog 11 #[.pointer (some ⟨cb, 0, none⟩), .int .i64 n] w fun e w' => ∃ r : Nat, e = .returned (.int .i64 r) ∧ r < n ∧ Cu w' cb a N cap (P + 2) ∧ Kx cb w w' := by
  by_cases e : n = 1
  · subst e
    have HU := hide h
    clear h
    go_enter Try.func11, Try.ntmps11
    go_wp2
    go_ret
    exact ⟨0, rfl, by omega, (unhide HU).mono (by omega), Kx.refl _ _⟩
  · refine (pick_any cb a N cap P n w hN hP (by omega) (by omega) h).mono ?_
    rintro e w' ⟨r, rfl, h2, h3, u, k⟩
    obtain ⟨m, rfl⟩ := Int.eq_ofNat_of_zero_le h2
    exact ⟨m, rfl, by omega, u, k⟩
end Go.Proofs.Ytagnkelpdgpigaa.Rc
