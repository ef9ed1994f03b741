/-
  Contracts: bytes and texts that the model draws.
-/
import Derived.Test.YtcedecmapgfkhaaDoorCur
import Derived.Test.YtcedecmapgfkhaaDoorObs
namespace Go.Proofs.YtcedecmapgfkhaaDoor
open Go.ChangeShapes Go.WideShapes Go.ChangeAt Go.RowKit
set_option linter.unusedVariables false

theorem Kx.setNew {cb : Nat} {a w : World} (h : Kx cb a w) {p : Addr} (hp : a.heap.size ≤ p.block) (u : Value) : Kx cb a (w.setCell p u) :=
  ⟨h.os, h.tape, h.output, by simpa [World.setCell] using h.size, fun k hk hne => (Below.heap_setCell _ _ _ _ (by omega)).trans (h.block k hk hne)⟩
theorem Cu.setNew {w0 w : World} {cb : Nat} {a : Option Addr} {N cap P P0 : Nat} (h0 : Cu w0 cb a N cap P0) (h : Cu w cb a N cap P) {g : Nat} (hg : w0.heap.size ≤ g) (o : Nat) (u : Value) : Cu (w.setCell ⟨g, o, none⟩ u) cb a N cap P := by
  have hl := h0.lt
  have hne : ∀ q : Nat, (⟨g, o, none⟩ : Addr) ≠ ⟨cb, q, none⟩ := fun q e => absurd (congrArg Addr.block e) (by show g ≠ cb; omega)
  have hc : ∀ q : Nat, (w.setCell ⟨g, o, none⟩ u).cell? ⟨cb, q, none⟩ = w.cell? ⟨cb, q, none⟩ := fun q => World.cell?_setCell_other _ _ _ _ (hne q)
  refine ⟨by simpa [World.setCell] using h.lt, (hc 0).trans h.c0, ?_, ?_, fun q => ?_, ?_⟩
  · obtain ⟨p, h1, h2⟩ := h.c1
    exact ⟨p, h1, (hc 1).trans h2⟩
  · obtain ⟨s, h1, h2, h3⟩ := h.c2
    exact ⟨s, h1, h2, (hc 2).trans h3⟩
  · have := h.fz q
    rw [← this]
    exact World.frozen?_of_block (w := w) (a := ⟨cb, q, none⟩) (Below.heap_setCell w ⟨g, o, none⟩ u cb (by show cb ≠ g; omega))
  · rcases h.cd with e | ⟨b, off, e, hl1, hn1, hx⟩
    · exact Or.inl e
    · rcases h0.cd with e0 | ⟨b0, off0, e0, hl0, _, _⟩
      · exact Or.inl e0
      · have hb : b = b0 := by
          rw [e] at e0
          simp at e0
          exact e0.1
        refine Or.inr ⟨b, off, e, by simpa [World.setCell] using hl1, hn1, fun i hi => ?_⟩
        obtain ⟨x, h1, h2⟩ := hx i hi
        refine ⟨x, h1, ?_⟩
        rw [World.cell?_setCell_other _ _ _ _ (fun e9 => absurd (congrArg Addr.block e9) (by show g ≠ b; omega))]
        exact h2
theorem Ar.kx {cb b o n : Nat} {f : Nat → Nat} {w w' : World} (h : Kx cb w w') (hI : Ar w b o n f) (hne : b ≠ cb) : Ar w' b o n f := by
  have e := h.block b hI.lt hne
  exact ⟨fun i hi => (World.cell?_of_block (a := ⟨b, o + i, none⟩) e).trans (hI.c i hi), fun i hi => (World.frozen?_of_block (a := ⟨b, o + i, none⟩) e).trans (hI.fz i hi), Nat.lt_of_lt_of_le hI.lt h.size⟩
set_option maxRecDepth 100000 in
set_option maxHeartbeats 1000000 in
theorem sizedBytes_any (cb : Nat) (a : Option Addr) (N cap P n : Nat) (w : World) (hN : N ≤ 1048576) (hP : P ≤ 500000) (hn : n ≤ 10000) (h : Cu w cb a N cap P) :
    Calls Tryd.prog 52 #[.pointer (some ⟨cb, 0, none⟩), .int .i64 n] w fun e w' => ∃ f, e = .returned (.slice (some ⟨w.heap.size, 0, none⟩) n n) ∧ (∀ i, f i < 256) ∧ Ar w' w.heap.size 0 n f ∧ Cu w' cb a N cap (P + 2 * n) ∧ Kx cb w w' := by
  have HU := hide h
  have hcl := h.lt
  have hmk := mk_bytes n (by omega) w
  have hN0 := Ar.new w n (fun _ => 0) 5
  have u1 := h.alloc (.cells (us n fun _ => 0).toArray 5)
  have k1 := (Kx.refl cb w).alloc (.cells (us n fun _ => 0).toArray 5)
  have A1 := hide hN0
  have U1 := hide u1
  have K1 := hide k1
  clear h hN0 u1 k1
  go_enter Tryd.func52, Tryd.ntmps52
  go_wp2_with fail
  go_loopw [11] (fun iv wr => ∃ (k : Nat) (f : Nat → Nat), k ≤ n ∧ iv = .int .i64 k ∧ (∀ i, f i < 256) ∧ Ar wr w.heap.size 0 n f ∧ Cu wr cb a N cap (P + 2 * k) ∧ Kx cb w wr) (fun iv _ => n - (intOf iv).toNat)
  case atStart => exact ⟨0, _, by omega, rfl, fun _ => by omega, unhide A1, unhide U1, unhide K1⟩
  case round =>
    obtain ⟨k, f, hk, rfl, hf, hA, hU, hK⟩ := hrel
    clear A1 U1 K1
    by_cases hlt : k < n
    · have U0 := hide hU
      have K0 := hide hK
      have A0 := hide hA
      have F0 := hide hf
      clear hU hK hA hf hmk
      go_wp2_with fail
      refine (pick_any cb a N cap (P + 2 * k) 256 _ hN (by omega) (by omega) (by omega) (unhide U0)).mono ?_
      rintro e w1 ⟨r, rfl, hr0, hr1, u1, k1⟩
      obtain ⟨x, rfl⟩ := Int.eq_ofNat_of_zero_le hr0
      have A1 := Ar.kx k1 (unhide A0) (by omega)
      have K1 := (unhide K0).trans k1
      have hc := A1.c0 k hlt
      have hz := A1.f0 k hlt
      have A2 := hide (A1.put0 (g := fun i => if i = k then x else f i) (k := k) (x := x) hlt (by simp) (fun i _ hne => by simp [hne]))
      have K2 := hide (K1.setNew (p := ⟨w.heap.size, k, none⟩) (Nat.le_refl _) (.int .u8 (x : Int)))
      have U2 := hide (Cu.setNew (unhide HU) u1 (Nat.le_refl _) k (.int .u8 (x : Int)))
      have F2 : Hid (∀ i, (if i = k then x else f i) < 256) := fun i => by
        by_cases e : i = k
        · rw [if_pos e]; omega
        · rw [if_neg e]; exact unhide F0 i
      clear A1 K1 u1 k1 U0 K0 A0 F0
      generalize hf2 : (fun i => if i = k then x else f i) = f2 at *
      have HF2 := hide hf2
      clear hf2
      go_wp2
      exact ⟨⟨k + 1, f2, by omega, by go_num, by rw [← unhide HF2]; exact unhide F2, unhide A2, by rw [show P + 2 * (k + 1) = P + 2 * k + 2 by omega]; exact unhide U2, unhide K2⟩, by simp [intOf]; omega⟩
    · obtain rfl : k = n := by omega
      clear hmk
      go_wp2
      go_ret
      exact ⟨f, rfl, hf, hA, hU, hK⟩
theorem bq_le (n m : Nat) (f : Nat → Nat) (h : n ≤ m) : (bq n f).size ≤ m := by rw [bq_size]; exact h
set_option maxRecDepth 100000 in
set_option maxHeartbeats 1000000 in
theorem hashed_any (cb : Nat) (a : Option Addr) (N cap P : Nat) (w : World) (hN : N ≤ 1048576) (hP : P ≤ 400000) (h : Cu w cb a N cap P) :
    Calls Tryd.prog 32 #[.pointer (some ⟨cb, 0, none⟩)] w fun e w' => ∃ t : ByteArray, e = .returned (.string t) ∧ t.size ≤ 120 ∧ Cu w' cb a N cap (P + 300) ∧ Kx cb w w' := by
  have HU := hide h
  clear h
  go_enter Tryd.func32, Tryd.ntmps32
  go_wp2_with fail
  refine (pick_any cb a N cap P 70 _ hN (by omega) (by omega) (by omega) (unhide HU)).mono ?_
  rintro e w1 ⟨r, rfl, hr0, hr1, u1, k1⟩
  obtain ⟨n, rfl⟩ := Int.eq_ofNat_of_zero_le hr0
  have U1 := hide u1
  have K1 := hide k1
  clear u1 k1 HU
  go_wp2_with fail
  refine (one_any cb a N cap (P + 2) 8 _ hN (by omega) (by omega) (by omega) (unhide U1)).mono ?_
  rintro e w2 ⟨rb, rfl, u2, k2⟩
  have U2 := hide u2
  have K2 := hide ((unhide K1).trans k2)
  clear u2 k2 U1 K1
  cases rb with
  | false =>
    go_wp2_with fail
    refine (sizedBytes_any cb a N cap (P + 2 + 2) n _ hN (by omega) (by omega) (unhide U2)).mono ?_
    rintro e w3 ⟨f, rfl, hf, hA, u3, k3⟩
    have hst := ar_string hA (fun i _ => hf i) n
    have U3 := hide (u3.mono (Q := P + 300) (by omega))
    have K3 := hide ((unhide K2).trans k3)
    have hsz := bq_le n 120 f (by omega)
    clear u3 k3 hA hf
    generalize bq n f = t at *
    go_wp2
    go_ret
    exact ⟨t, rfl, hsz, unhide U3, unhide K3⟩
  | true =>
    have hne : w2.heap.size ≠ cb := by have := (unhide U2).lt; omega
    have hx := lit_cells w2 [0, 55, 56, 63, 64, 65, 119, 120] 3 (fun x => 0 ≤ x ∧ x ≤ 120) (by decide)
    have UA := hide ((unhide U2).alloc (.cells #[.int .i64 0, .int .i64 55, .int .i64 56, .int .i64 63, .int .i64 64, .int .i64 65, .int .i64 119, .int .i64 120] 3))
    have KA := hide ((unhide K2).alloc (.cells #[.int .i64 0, .int .i64 55, .int .i64 56, .int .i64 63, .int .i64 64, .int .i64 65, .int .i64 119, .int .i64 120] 3))
    have HX := hide hx
    clear hx U2 K2
    go_wp2_with fail
    refine (among_any cb a N cap (P + 2 + 2) w2.heap.size 8 8 (fun x => 0 ≤ x ∧ x ≤ 120) _ hN (by omega) (by omega) (by omega) (by simp) hne (unhide HX) (unhide UA)).mono ?_
    rintro e w3 ⟨r, rfl, ⟨h0, h1⟩, u3, k3⟩
    obtain ⟨m, rfl⟩ := Int.eq_ofNat_of_zero_le h0
    have U3 := hide u3
    have K3 := hide ((unhide KA).trans k3)
    clear u3 k3 UA KA HX
    go_wp2_with fail
    refine (sizedBytes_any cb a N cap (P + 2 + 2 + 2) m _ hN (by omega) (by omega) (unhide U3)).mono ?_
    rintro e w4 ⟨f, rfl, hf, hA, u4, k4⟩
    have hst := ar_string hA (fun i _ => hf i) m
    have U4 := hide (u4.mono (Q := P + 300) (by omega))
    have K4 := hide ((unhide K3).trans k4)
    have hsz := bq_le m 120 f (by omega)
    clear u4 k4 hA hf
    generalize bq m f = t at *
    go_wp2
    go_ret
    exact ⟨t, rfl, hsz, unhide U4, unhide K4⟩
set_option maxRecDepth 100000 in
set_option maxHeartbeats 1000000 in
theorem drawSha_any (a : Option Addr) (N cap : Nat) (w : World) (hN : N ≤ 1048576) (h : Cd w a N) :
    Calls Tryd.prog 9 #[.slice a N cap] w fun e w' => ∃ t : ByteArray, e = .returned (.string t) ∧ t.size ≤ 4001 ∧ Below w.heap.size w w' := by
  have U0 := hide (cu_first cap 52 h)
  have hl := (unhide U0).lt
  clear h
  go_enter Tryd.func9, Tryd.ntmps9
  go_wp2_with fail
  refine (one_any w.heap.size a N cap 0 40 _ hN (by omega) (by omega) (by omega) (unhide U0)).mono ?_
  rintro e w1 ⟨rb, rfl, u1, k1⟩
  have U1 := hide u1
  have K1 := hide k1
  clear u1 k1 U0
  cases rb with
  | false =>
    go_wp2_with fail
    refine (hashed_any w.heap.size a N cap (0 + 2) _ hN (by omega) (unhide U1)).mono ?_
    rintro e w2 ⟨t, rfl, ht, u2, k2⟩
    have K2 := hide ((unhide K1).trans k2)
    clear u2 k2 U1 K1
    go_wp2
    go_ret
    exact ⟨t, rfl, by omega, (unhide K2).draw⟩
  | true =>
    go_wp2_with fail
    refine (pick_any w.heap.size a N cap (0 + 2) 2 _ hN (by omega) (by omega) (by omega) (unhide U1)).mono ?_
    rintro e w2 ⟨r, rfl, hr0, hr1, u2, k2⟩
    obtain ⟨m, rfl⟩ := Int.eq_ofNat_of_zero_le hr0
    have K2 := hide ((unhide K1).trans k2)
    clear u2 k2 U1 K1
    have hmk : (Instr.makeSlice 22 (.int .i64 (4000 + (m : Int))) (.int .i64 (4000 + (m : Int)))).run Tryd.prog w2 = .ok (.slice (some ⟨w2.heap.size, 0, none⟩) (4000 + m) (4000 + m)) (w2.alloc (.cells (us (4000 + m) fun _ => 0).toArray 5)) := by
      have h9 := mk_bytes (4000 + m) (by omega) w2
      rw [Int.natCast_add] at h9
      exact h9
    have hA := Ar.new w2 (4000 + m) (fun _ => 0) 5
    have hst := ar_string hA (fun i _ => by omega) (4000 + m)
    have K3 := hide ((unhide K2).alloc (.cells (us (4000 + m) fun _ => 0).toArray 5))
    have hsz := bq_le (4000 + m) 4001 (fun _ => 0) (by omega)
    generalize bq (4000 + m) (fun _ => 0) = t at *
    clear hA K2
    go_wp2
    go_ret
    exact ⟨t, rfl, hsz, (unhide K3).draw⟩
end Go.Proofs.YtcedecmapgfkhaaDoor
