/-
  Texts and arrays of bytes. Contracts: bytes and texts that the model draws. Contracts: secrets, infos, numbers and ids that the model draws; a number of bytes.
-/
import Derived.Test.YtbabipaipbjlbaaXar
import Derived.Test.YtbabipaipbjlbaaXcu
namespace Go.Proofs.Ytbabipaipbjlbaa.Dr
open Go.ChangeShapes Go.WideShapes Go.ChangeAt Go.RowKit
set_option linter.unusedVariables false

/-- the byte at a place, 0 behind the end -/
def at8 (s : ByteArray) (i : Nat) : Nat := if h : i < s.size then s[i].toNat else 0
theorem at8_lt (s : ByteArray) (i : Nat) : at8 s i < 256 := by
  unfold at8; split
  · exact UInt8.toNat_lt _
  · omega
theorem at8_in (s : ByteArray) (i : Nat) (h : i < s.size) : at8 s i = s[i].toNat := by unfold at8; rw [dif_pos h]
/-- n bytes as a text -/
def bq (n : Nat) (f : Nat → Nat) : ByteArray := ⟨((List.range n).map fun i => UInt8.ofNat (f i)).toArray⟩
theorem bq_size (n : Nat) (f : Nat → Nat) : (bq n f).size = n := by simp [bq, ByteArray.size]
theorem bq_congr {n : Nat} {f g : Nat → Nat} (h : ∀ i, i < n → f i = g i) : bq n f = bq n g := by
  unfold bq
  rw [List.map_congr_left fun i hi => by rw [h i (List.mem_range.1 hi)]]
theorem at8_bq (n : Nat) (f : Nat → Nat) (i : Nat) (hi : i < n) (hf : f i < 256) : at8 (bq n f) i = f i := by
  rw [at8_in _ _ (by rw [bq_size]; exact hi)]
  show (((List.range n).map fun i => UInt8.ofNat (f i)).toArray[i]'(by simp; exact hi)).toNat = f i
  simp [UInt8.toNat_ofNat']
  omega
theorem bq_at8 (s : ByteArray) : bq s.size (at8 s) = s := by
  apply ByteArray.ext
  apply Array.ext
  · exact bq_size s.size (at8 s)
  · intro i h1 h2
    have h3 : i < s.size := h2
    have e : (bq s.size (at8 s)).data[i]'h1 = UInt8.ofNat (at8 s i) := by
      show (((List.range s.size).map fun i => UInt8.ofNat (at8 s i)).toArray[i]'(by simpa using h3)) = _
      rw [List.getElem_toArray, List.getElem_map, List.getElem_range]
    rw [e, at8_in s i h3, UInt8.ofNat_toNat]
    rfl

theorem conv_ar (w : World) (s : ByteArray) :
    ∃ (cap : Nat) (W : World), (convert 9 44 (.string s)).run Try.prog w = .ok (.slice (some ⟨w.heap.size, 0, none⟩) s.size cap) W ∧ Below w.heap.size w W ∧ Ar W w.heap.size 0 s.size (at8 s) ∧ W.heap.size = w.heap.size + 1 := by
  refine ⟨_, _, run_bytes_of_string w 9 44 5 s Try.underlying9 Try.underlying44 Try.underlying5, ?_, ⟨?_, ?_, ?_⟩, ?_⟩
  · exact ((Below.refl _ _).drew).alloc (Nat.le_refl _) _
  · intro j h
    have := World.cell?_alloc_mark w.drew (bytesRow s (grownCap w s.size 0 5)) 5 ((bytesRow s (grownCap w s.size 0 5)).size, (bytesRow s (grownCap w s.size 0 5)).size + 1) j
    rw [World.size_drew] at this
    rw [Nat.zero_add, this, at8_in s j h]
    simp [bytesRow, Array.getElem?_append, h]
    rfl
  · intro j h
    have := World.frozen?_alloc_mark w.drew (bytesRow s (grownCap w s.size 0 5)) 5 (bytesRow s (grownCap w s.size 0 5)).size ((bytesRow s (grownCap w s.size 0 5)).size + 1) j
    rw [World.size_drew] at this
    rw [Nat.zero_add, this]
    simp [bytesRow]
    omega
  · simp
  · simp
theorem ar_string {w : World} {b o n : Nat} {f : Nat → Nat} (h : Ar w b o n f) (hf : ∀ i, i < n → f i < 256) (cap : Nat) :
    (convert 44 9 (.slice (some ⟨b, o, none⟩) n cap)).run Try.prog w = .ok (.string (bq n f)) w := by
  have := run_convert_bytes_back (P := Try.prog) w 44 9 5 ⟨b, o, none⟩ cap ((List.range n).map fun i => UInt8.ofNat (f i)) Try.underlying44 Try.underlying5 Try.underlying9 (by
    intro j hj
    simp at hj
    rw [Addr.add_mid, h.c j hj]
    have := hf j hj
    simp
    omega)
  simpa [bq] using this
end Go.Proofs.Ytbabipaipbjlbaa.Dr
namespace Go.Proofs.Ytbabipaipbjlbaa.Dr
open Go.ChangeShapes Go.WideShapes Go.ChangeAt Go.RowKit
set_option linter.unusedVariables false

theorem Kx.setNew {cb : Nat} {a w : World} (h : Kx cb a w) {p : Addr} (hp : a.heap.size ≤ p.block) (u : Value) : Kx cb a (w.setCell p u) :=
  ⟨h.os, h.tape, h.output, by simpa [World.setCell] using h.size, fun k hk hne => (Below.heap_setCell _ _ _ _ (by omega)).trans (h.block k hk hne)⟩
theorem Cu.setNew {w0 w : World} {cb : Nat} {a : Option Addr} {N cap P P0 : Nat} (h0 : Cu w0 cb a N cap P0) (h : Cu w cb a N cap P) {g : Nat} (hg : w0.heap.size ≤ g) (o : Nat) (u : Value) : Cu (w.setCell ⟨g, o, none⟩ u) cb a N cap P := by
  have hl := h0.lt
  have hne : ∀ q : Nat, (⟨g, o, none⟩ : Addr) ≠ ⟨cb, q, none⟩ := fun q e => absurd (congrArg Addr.block e) (by show g ≠ cb; omega)
  have hc : ∀ q : Nat, (w.setCell ⟨g, o, none⟩ u).cell? ⟨cb, q, none⟩ = w.cell? ⟨cb, q, none⟩ := fun q => World.cell?_setCell_other _ _ _ _ (hne q)
  refine ⟨by simpa [World.setCell] using h.lt, (hc 0).trans h.c0, ?_, ?_, fun q => ?_, ?_⟩
  · obtain ⟨p, h1, h2⟩ := h.c1
    exact ⟨p, h1, (hc 1).trans h2⟩
  · obtain ⟨s, h1, h2, h3⟩ := h.c2
    exact ⟨s, h1, h2, (hc 2).trans h3⟩
  · have := h.fz q
    rw [← this]
    exact World.frozen?_of_block (w := w) (a := ⟨cb, q, none⟩) (Below.heap_setCell w ⟨g, o, none⟩ u cb (by show cb ≠ g; omega))
  · rcases h.cd with e | ⟨b, off, e, hl1, hn1, hx⟩
    · exact Or.inl e
    · rcases h0.cd with e0 | ⟨b0, off0, e0, hl0, _, _⟩
      · exact Or.inl e0
      · have hb : b = b0 := by
          rw [e] at e0
          simp at e0
          exact e0.1
        refine Or.inr ⟨b, off, e, by simpa [World.setCell] using hl1, hn1, fun i hi => ?_⟩
        obtain ⟨x, h1, h2⟩ := hx i hi
        refine ⟨x, h1, ?_⟩
        rw [World.cell?_setCell_other _ _ _ _ (fun e9 => absurd (congrArg Addr.block e9) (by show g ≠ b; omega))]
        exact h2
theorem Ar.kx {cb b o n : Nat} {f : Nat → Nat} {w w' : World} (h : Kx cb w w') (hI : Ar w b o n f) (hne : b ≠ cb) : Ar w' b o n f := by
  have e := h.block b hI.lt hne
  exact ⟨fun i hi => (World.cell?_of_block (a := ⟨b, o + i, none⟩) e).trans (hI.c i hi), fun i hi => (World.frozen?_of_block (a := ⟨b, o + i, none⟩) e).trans (hI.fz i hi), Nat.lt_of_lt_of_le hI.lt h.size⟩
set_option maxRecDepth 100000 in
set_option maxHeartbeats 1000000 in
theorem sizedBytes_any (cb : Nat) (a : Option Addr) (N cap P n : Nat) (w : World) (hN : N ≤ 1048576) (hP : P ≤ 500000) (hn : n ≤ 10000) (h : Cu w cb a N cap P) :
    Calls Try.prog 73 #[.pointer (some ⟨cb, 0, none⟩), .int .i64 n] w fun e w' => ∃ f, e = .returned (.slice (some ⟨w.heap.size, 0, none⟩) n n) ∧ (∀ i, f i < 256) ∧ Ar w' w.heap.size 0 n f ∧ Cu w' cb a N cap (P + 2 * n) ∧ Kx cb w w' := by
  have HU := hide h
  have hcl := h.lt
  have hmk := mk_bytes n (by omega) w
  have hN0 := Ar.new w n (fun _ => 0) 5
  have u1 := h.alloc (.cells (us n fun _ => 0).toArray 5)
  have k1 := (Kx.refl cb w).alloc (.cells (us n fun _ => 0).toArray 5)
  have A1 := hide hN0
  have U1 := hide u1
  have K1 := hide k1
  clear h hN0 u1 k1
  go_enter Try.func73, Try.ntmps73
  go_wp2_with fail
  go_loopw [11] (fun iv wr => ∃ (k : Nat) (f : Nat → Nat), k ≤ n ∧ iv = .int .i64 k ∧ (∀ i, f i < 256) ∧ Ar wr w.heap.size 0 n f ∧ Cu wr cb a N cap (P + 2 * k) ∧ Kx cb w wr) (fun iv _ => n - (intOf iv).toNat)
  case atStart => exact ⟨0, _, by omega, rfl, fun _ => by omega, unhide A1, unhide U1, unhide K1⟩
  case round =>
    obtain ⟨k, f, hk, rfl, hf, hA, hU, hK⟩ := hrel
    clear A1 U1 K1
    by_cases hlt : k < n
    · have U0 := hide hU
      have K0 := hide hK
      have A0 := hide hA
      have F0 := hide hf
      clear hU hK hA hf hmk
      go_wp2_with fail
      refine (pick_any cb a N cap (P + 2 * k) 256 _ hN (by omega) (by omega) (by omega) (unhide U0)).mono ?_
      rintro e w1 ⟨r, rfl, hr0, hr1, u1, k1⟩
      obtain ⟨x, rfl⟩ := Int.eq_ofNat_of_zero_le hr0
      have A1 := Ar.kx k1 (unhide A0) (by omega)
      have K1 := (unhide K0).trans k1
      have hc := A1.c0 k hlt
      have hz := A1.f0 k hlt
      have A2 := hide (A1.put0 (g := fun i => if i = k then x else f i) (k := k) (x := x) hlt (by simp) (fun i _ hne => by simp [hne]))
      have K2 := hide (K1.setNew (p := ⟨w.heap.size, k, none⟩) (Nat.le_refl _) (.int .u8 (x : Int)))
      have U2 := hide (Cu.setNew (unhide HU) u1 (Nat.le_refl _) k (.int .u8 (x : Int)))
      have F2 : Hid (∀ i, (if i = k then x else f i) < 256) := fun i => by
        by_cases e : i = k
        · rw [if_pos e]; omega
        · rw [if_neg e]; exact unhide F0 i
      clear A1 K1 u1 k1 U0 K0 A0 F0
      generalize hf2 : (fun i => if i = k then x else f i) = f2 at *
      have HF2 := hide hf2
      clear hf2
      go_wp2
      exact ⟨⟨k + 1, f2, by omega, by go_num, by rw [← unhide HF2]; exact unhide F2, unhide A2, by rw [show P + 2 * (k + 1) = P + 2 * k + 2 by omega]; exact unhide U2, unhide K2⟩, by simp [intOf]; omega⟩
    · obtain rfl : k = n := by omega
      clear hmk
      go_wp2
      go_ret
      exact ⟨f, rfl, hf, hA, hU, hK⟩
theorem bq_le (n m : Nat) (f : Nat → Nat) (h : n ≤ m) : (bq n f).size ≤ m := by rw [bq_size]; exact h
end Go.Proofs.Ytbabipaipbjlbaa.Dr
namespace Go.Proofs.Ytbabipaipbjlbaa.Dr
open Go.ChangeShapes Go.WideShapes Go.ChangeAt Go.RowKit
set_option linter.unusedVariables false

set_option maxRecDepth 100000 in
set_option maxHeartbeats 1000000 in
theorem id_any (cb : Nat) (a : Option Addr) (N cap P : Nat) (w : World) (hN : N ≤ 1048576) (hP : P ≤ 400000) (h : Cu w cb a N cap P) :
    Calls Try.prog 72 #[.pointer (some ⟨cb, 0, none⟩)] w fun e w' => ∃ t : ByteArray, e = .returned (.string t) ∧ t.size ≤ 21 ∧ Cu w' cb a N cap (P + 60) ∧ Kx cb w w' := by
  have HU := hide h
  clear h
  go_enter Try.func72, Try.ntmps72
  go_wp2_with fail
  refine (pick_any cb a N cap P 10 _ hN (by omega) (by omega) (by omega) (unhide HU)).mono ?_
  rintro e w1 ⟨r, rfl, hr0, hr1, u1, k1⟩
  obtain ⟨n, rfl⟩ := Int.eq_ofNat_of_zero_le hr0
  have U1 := hide u1
  have K1 := hide k1
  clear u1 k1 HU
  go_wp2_with fail
  refine (one_any cb a N cap (P + 2) 12 _ hN (by omega) (by omega) (by omega) (unhide U1)).mono ?_
  rintro e w2 ⟨rb, rfl, u2, k2⟩
  have U2 := hide u2
  have K2 := hide ((unhide K1).trans k2)
  clear u2 k2 U1 K1
  cases rb with
  | false =>
    go_wp2_with fail
    refine (sizedBytes_any cb a N cap (P + 2 + 2) n _ hN (by omega) (by omega) (unhide U2)).mono ?_
    rintro e w3 ⟨f, rfl, hf, hA, u3, k3⟩
    have hst := ar_string hA (fun i _ => hf i) n
    have U3 := hide (u3.mono (Q := P + 60) (by omega))
    have K3 := hide ((unhide K2).trans k3)
    have hsz := bq_le n 21 f (by omega)
    clear u3 k3 hA hf
    generalize bq n f = t at *
    go_wp2
    go_ret
    exact ⟨t, rfl, hsz, unhide U3, unhide K3⟩
  | true =>
    have hne : w2.heap.size ≠ cb := by have := (unhide U2).lt; omega
    have hx := lit_cells w2 [20, 21, 0] 3 (fun x => 0 ≤ x ∧ x ≤ 21) (by decide)
    have UA := hide ((unhide U2).alloc (.cells #[.int .i64 20, .int .i64 21, .int .i64 0] 3))
    have KA := hide ((unhide K2).alloc (.cells #[.int .i64 20, .int .i64 21, .int .i64 0] 3))
    have HX := hide hx
    clear hx U2 K2
    go_wp2_with fail
    refine (among_any cb a N cap (P + 2 + 2) w2.heap.size 3 3 (fun x => 0 ≤ x ∧ x ≤ 21) _ hN (by omega) (by omega) (by omega) (by simp) hne (unhide HX) (unhide UA)).mono ?_
    rintro e w3 ⟨r, rfl, ⟨h0, h1⟩, u3, k3⟩
    obtain ⟨m, rfl⟩ := Int.eq_ofNat_of_zero_le h0
    have U3 := hide u3
    have K3 := hide ((unhide KA).trans k3)
    clear u3 k3 UA KA HX
    go_wp2_with fail
    refine (sizedBytes_any cb a N cap (P + 2 + 2 + 2) m _ hN (by omega) (by omega) (unhide U3)).mono ?_
    rintro e w4 ⟨f, rfl, hf, hA, u4, k4⟩
    have hst := ar_string hA (fun i _ => hf i) m
    have U4 := hide (u4.mono (Q := P + 60) (by omega))
    have K4 := hide ((unhide K3).trans k4)
    have hsz := bq_le m 21 f (by omega)
    clear u4 k4 hA hf
    generalize bq m f = t at *
    go_wp2
    go_ret
    exact ⟨t, rfl, hsz, unhide U4, unhide K4⟩
end Go.Proofs.Ytbabipaipbjlbaa.Dr
