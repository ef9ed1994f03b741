/-
  Contracts: bytes and texts that the model draws.
-/
import Derived.Test.YtgieglpjkjncfabDoorXcu
import Derived.Test.YtgieglpjkjncfabDoorXas
namespace Go.Proofs.YtgieglpjkjncfabDoor.Dr
open Go.ChangeShapes Go.WideShapes Go.ChangeAt Go.RowKit
set_option linter.unusedVariables false

theorem Kx.setNew {cb : Nat} {a w : World} (h : Kx cb a w) {p : Addr} (hp : a.heap.size ≤ p.block) (u : Value) : Kx cb a (w.setCell p u) :=
  ⟨h.os, h.tape, h.output, by simpa [World.setCell] using h.size, fun k hk hne => (Below.heap_setCell _ _ _ _ (by omega)).trans (h.block k hk hne)⟩
theorem Cu.setNew {w0 w : World} {cb : Nat} {a : Option Addr} {N cap P P0 : Nat} (h0 : Cu w0 cb a N cap P0) (h : Cu w cb a N cap P) {g : Nat} (hg : w0.heap.size ≤ g) (o : Nat) (u : Value) : Cu (w.setCell ⟨g, o, none⟩ u) cb a N cap P := by
  have hl := h0.lt
  have hne : ∀ q : Nat, (⟨g, o, none⟩ : Addr) ≠ ⟨cb, q, none⟩ := fun q e => absurd (congrArg Addr.block e) (by show g ≠ cb; omega)
  have hc : ∀ q : Nat, (w.setCell ⟨g, o, none⟩ u).cell? ⟨cb, q, none⟩ = w.cell? ⟨cb, q, none⟩ := fun q => World.cell?_setCell_other _ _ _ _ (hne q)
  refine ⟨by simpa [World.setCell] using h.lt, (hc 0).trans h.c0, ?_, ?_, fun q => ?_, ?_⟩
  · obtain ⟨p, h1, h2⟩ := h.c1
    exact ⟨p, h1, (hc 1).trans h2⟩
  · obtain ⟨s, h1, h2, h3⟩ := h.c2
    exact ⟨s, h1, h2, (hc 2).trans h3⟩
  · have := h.fz q
    rw [← this]
    exact World.frozen?_of_block (w := w) (a := ⟨cb, q, none⟩) (Below.heap_setCell w ⟨g, o, none⟩ u cb (by show cb ≠ g; omega))
  · rcases h.cd with e | ⟨b, off, e, hl1, hn1, hx⟩
    · exact Or.inl e
    · rcases h0.cd with e0 | ⟨b0, off0, e0, hl0, _, _⟩
      · exact Or.inl e0
      · have hb : b = b0 := by
          rw [e] at e0
          simp at e0
          exact e0.1
        refine Or.inr ⟨b, off, e, by simpa [World.setCell] using hl1, hn1, fun i hi => ?_⟩
        obtain ⟨x, h1, h2⟩ := hx i hi
        refine ⟨x, h1, ?_⟩
        rw [World.cell?_setCell_other _ _ _ _ (fun e9 => absurd (congrArg Addr.block e9) (by show g ≠ b; omega))]
        exact h2
theorem Ar.kx {cb b o n : Nat} {f : Nat → Nat} {w w' : World} (h : Kx cb w w') (hI : Ar w b o n f) (hne : b ≠ cb) : Ar w' b o n f := by
  have e := h.block b hI.lt hne
  exact ⟨fun i hi => (World.cell?_of_block (a := ⟨b, o + i, none⟩) e).trans (hI.c i hi), fun i hi => (World.frozen?_of_block (a := ⟨b, o + i, none⟩) e).trans (hI.fz i hi), Nat.lt_of_lt_of_le hI.lt h.size⟩
set_option maxRecDepth 100000 in
set_option maxHeartbeats 1000000 in
theorem sizedBytes_any (cb : Nat) (a : Option Addr) (N cap P n : Nat) (w : World) (hN : N ≤ 1048576) (hP : P ≤ 500000) (hn : n ≤ 10000) (h : Cu w cb a N cap P) :
    Calls Tryd.prog 57 #[.pointer (some ⟨cb, 0, none⟩), .int .i64 n] w fun e w' => ∃ f, e = .returned (.slice (some ⟨w.heap.size, 0, none⟩) n n) ∧ (∀ i, f i < 256) ∧ Ar w' w.heap.size 0 n f ∧ Cu w' cb a N cap (P + 2 * n) ∧ Kx cb w w' := by
  have HU := hide h
  have hcl := h.lt
  have hmk := mk_bytes n (by omega) w
  have hN0 := Ar.new w n (fun _ => 0) 5
  have u1 := h.alloc (.cells (us n fun _ => 0).toArray 5)
  have k1 := (Kx.refl cb w).alloc (.cells (us n fun _ => 0).toArray 5)
  have A1 := hide hN0
  have U1 := hide u1
  have K1 := hide k1
  clear h hN0 u1 k1
  go_enter Tryd.func57, Tryd.ntmps57
  go_wp2_with fail
  go_loopw [11] (fun iv wr => ∃ (k : Nat) (f : Nat → Nat), k ≤ n ∧ iv = .int .i64 k ∧ (∀ i, f i < 256) ∧ Ar wr w.heap.size 0 n f ∧ Cu wr cb a N cap (P + 2 * k) ∧ Kx cb w wr) (fun iv _ => n - (intOf iv).toNat)
  case atStart => exact ⟨0, _, by omega, rfl, fun _ => by omega, unhide A1, unhide U1, unhide K1⟩
  case round =>
    obtain ⟨k, f, hk, rfl, hf, hA, hU, hK⟩ := hrel
    clear A1 U1 K1
    by_cases hlt : k < n
    · have U0 := hide hU
      have K0 := hide hK
      have A0 := hide hA
      have F0 := hide hf
      clear hU hK hA hf hmk
      go_wp2_with fail
      refine (pick_any cb a N cap (P + 2 * k) 256 _ hN (by omega) (by omega) (by omega) (unhide U0)).mono ?_
      rintro e w1 ⟨r, rfl, hr0, hr1, u1, k1⟩
      obtain ⟨x, rfl⟩ := Int.eq_ofNat_of_zero_le hr0
      have A1 := Ar.kx k1 (unhide A0) (by omega)
      have K1 := (unhide K0).trans k1
      have hc := A1.c0 k hlt
      have hz := A1.f0 k hlt
      have A2 := hide (A1.put0 (g := fun i => if i = k then x else f i) (k := k) (x := x) hlt (by simp) (fun i _ hne => by simp [hne]))
      have K2 := hide (K1.setNew (p := ⟨w.heap.size, k, none⟩) (Nat.le_refl _) (.int .u8 (x : Int)))
      have U2 := hide (Cu.setNew (unhide HU) u1 (Nat.le_refl _) k (.int .u8 (x : Int)))
      have F2 : Hid (∀ i, (if i = k then x else f i) < 256) := fun i => by
        by_cases e : i = k
        · rw [if_pos e]; omega
        · rw [if_neg e]; exact unhide F0 i
      clear A1 K1 u1 k1 U0 K0 A0 F0
      generalize hf2 : (fun i => if i = k then x else f i) = f2 at *
      have HF2 := hide hf2
      clear hf2
      go_wp2
      exact ⟨⟨k + 1, f2, by omega, by go_num, by rw [← unhide HF2]; exact unhide F2, unhide A2, by rw [show P + 2 * (k + 1) = P + 2 * k + 2 by omega]; exact unhide U2, unhide K2⟩, by simp [intOf]; omega⟩
    · obtain rfl : k = n := by omega
      clear hmk
      go_wp2
      go_ret
      exact ⟨f, rfl, hf, hA, hU, hK⟩
theorem bq_le (n m : Nat) (f : Nat → Nat) (h : n ≤ m) : (bq n f).size ≤ m := by rw [bq_size]; exact h
end Go.Proofs.YtgieglpjkjncfabDoor.Dr
