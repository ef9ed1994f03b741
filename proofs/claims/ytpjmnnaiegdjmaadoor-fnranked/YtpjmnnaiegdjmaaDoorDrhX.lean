/-
  Contracts: bytes and texts that the model draws. Contracts: secrets, infos, numbers and ids that the model draws; a number of bytes. Contracts: what is drawn of live sets, backends and keys.
-/
import Derived.Test.YtpjmnnaiegdjmaaDoorCur
import Derived.Test.YtpjmnnaiegdjmaaDoorArs
import Derived.Test.YtpjmnnaiegdjmaaDoorTxrX
import Derived.Deep.RegionWith
namespace Go.Proofs.YtpjmnnaiegdjmaaDoor
open Go.ChangeShapes Go.WideShapes Go.ChangeAt Go.RowKit
set_option linter.unusedVariables false

theorem Kx.setNew {cb : Nat} {a w : World} (h : Kx cb a w) {p : Addr} (hp : a.heap.size ≤ p.block) (u : Value) : Kx cb a (w.setCell p u) :=
  ⟨h.os, h.tape, h.output, by simpa [World.setCell] using h.size, fun k hk hne => (Below.heap_setCell _ _ _ _ (by omega)).trans (h.block k hk hne)⟩
theorem Cu.setNew {w0 w : World} {cb : Nat} {a : Option Addr} {N cap P P0 : Nat} (h0 : Cu w0 cb a N cap P0) (h : Cu w cb a N cap P) {g : Nat} (hg : w0.heap.size ≤ g) (o : Nat) (u : Value) : Cu (w.setCell ⟨g, o, none⟩ u) cb a N cap P := by
  have hl := h0.lt
  have hne : ∀ q : Nat, (⟨g, o, none⟩ : Addr) ≠ ⟨cb, q, none⟩ := fun q e => absurd (congrArg Addr.block e) (by show g ≠ cb; omega)
  have hc : ∀ q : Nat, (w.setCell ⟨g, o, none⟩ u).cell? ⟨cb, q, none⟩ = w.cell? ⟨cb, q, none⟩ := fun q => World.cell?_setCell_other _ _ _ _ (hne q)
  refine ⟨by simpa [World.setCell] using h.lt, (hc 0).trans h.c0, ?_, ?_, fun q => ?_, ?_⟩
  · obtain ⟨p, h1, h2⟩ := h.c1
    exact ⟨p, h1, (hc 1).trans h2⟩
  · obtain ⟨s, h1, h2, h3⟩ := h.c2
    exact ⟨s, h1, h2, (hc 2).trans h3⟩
  · have := h.fz q
    rw [← this]
    exact World.frozen?_of_block (w := w) (a := ⟨cb, q, none⟩) (Below.heap_setCell w ⟨g, o, none⟩ u cb (by show cb ≠ g; omega))
  · rcases h.cd with e | ⟨b, off, e, hl1, hn1, hx⟩
    · exact Or.inl e
    · rcases h0.cd with e0 | ⟨b0, off0, e0, hl0, _, _⟩
      · exact Or.inl e0
      · have hb : b = b0 := by
          rw [e] at e0
          simp at e0
          exact e0.1
        refine Or.inr ⟨b, off, e, by simpa [World.setCell] using hl1, hn1, fun i hi => ?_⟩
        obtain ⟨x, h1, h2⟩ := hx i hi
        refine ⟨x, h1, ?_⟩
        rw [World.cell?_setCell_other _ _ _ _ (fun e9 => absurd (congrArg Addr.block e9) (by show g ≠ b; omega))]
        exact h2
theorem Ar.kx {cb b o n : Nat} {f : Nat → Nat} {w w' : World} (h : Kx cb w w') (hI : Ar w b o n f) (hne : b ≠ cb) : Ar w' b o n f := by
  have e := h.block b hI.lt hne
  exact ⟨fun i hi => (World.cell?_of_block (a := ⟨b, o + i, none⟩) e).trans (hI.c i hi), fun i hi => (World.frozen?_of_block (a := ⟨b, o + i, none⟩) e).trans (hI.fz i hi), Nat.lt_of_lt_of_le hI.lt h.size⟩
set_option maxRecDepth 100000 in
set_option maxHeartbeats 1000000 in
theorem sizedBytes_any (cb : Nat) (a : Option Addr) (N cap P n : Nat) (w : World) (hN : N ≤ 1048576) (hP : P ≤ 500000) (hn : n ≤ 10000) (h : Cu w cb a N cap P) :
    Calls Tryd.prog 71 #[.pointer (some ⟨cb, 0, none⟩), .int .i64 n] w fun e w' => ∃ f, e = .returned (.slice (some ⟨w.heap.size, 0, none⟩) n n) ∧ (∀ i, f i < 256) ∧ Ar w' w.heap.size 0 n f ∧ Cu w' cb a N cap (P + 2 * n) ∧ Kx cb w w' := by
  have HU := hide h
  have hcl := h.lt
  have hmk := mk_bytes n (by omega) w
  have hN0 := Ar.new w n (fun _ => 0) 5
  have u1 := h.alloc (.cells (us n fun _ => 0).toArray 5)
  have k1 := (Kx.refl cb w).alloc (.cells (us n fun _ => 0).toArray 5)
  have A1 := hide hN0
  have U1 := hide u1
  have K1 := hide k1
  clear h hN0 u1 k1
  go_enter Tryd.func71, Tryd.ntmps71
  go_wp2_with fail
  go_loopw [11] (fun iv wr => ∃ (k : Nat) (f : Nat → Nat), k ≤ n ∧ iv = .int .i64 k ∧ (∀ i, f i < 256) ∧ Ar wr w.heap.size 0 n f ∧ Cu wr cb a N cap (P + 2 * k) ∧ Kx cb w wr) (fun iv _ => n - (intOf iv).toNat)
  case atStart => exact ⟨0, _, by omega, rfl, fun _ => by omega, unhide A1, unhide U1, unhide K1⟩
  case round =>
    obtain ⟨k, f, hk, rfl, hf, hA, hU, hK⟩ := hrel
    clear A1 U1 K1
    by_cases hlt : k < n
    · have U0 := hide hU
      have K0 := hide hK
      have A0 := hide hA
      have F0 := hide hf
      clear hU hK hA hf hmk
      go_wp2_with fail
      refine (pick_any cb a N cap (P + 2 * k) 256 _ hN (by omega) (by omega) (by omega) (unhide U0)).mono ?_
      rintro e w1 ⟨r, rfl, hr0, hr1, u1, k1⟩
      obtain ⟨x, rfl⟩ := Int.eq_ofNat_of_zero_le hr0
      have A1 := Ar.kx k1 (unhide A0) (by omega)
      have K1 := (unhide K0).trans k1
      have hc := A1.c0 k hlt
      have hz := A1.f0 k hlt
      have A2 := hide (A1.put0 (g := fun i => if i = k then x else f i) (k := k) (x := x) hlt (by simp) (fun i _ hne => by simp [hne]))
      have K2 := hide (K1.setNew (p := ⟨w.heap.size, k, none⟩) (Nat.le_refl _) (.int .u8 (x : Int)))
      have U2 := hide (Cu.setNew (unhide HU) u1 (Nat.le_refl _) k (.int .u8 (x : Int)))
      have F2 : Hid (∀ i, (if i = k then x else f i) < 256) := fun i => by
        by_cases e : i = k
        · rw [if_pos e]; omega
        · rw [if_neg e]; exact unhide F0 i
      clear A1 K1 u1 k1 U0 K0 A0 F0
      generalize hf2 : (fun i => if i = k then x else f i) = f2 at *
      have HF2 := hide hf2
      clear hf2
      go_wp2
      exact ⟨⟨k + 1, f2, by omega, by go_num, by rw [← unhide HF2]; exact unhide F2, unhide A2, by rw [show P + 2 * (k + 1) = P + 2 * k + 2 by omega]; exact unhide U2, unhide K2⟩, by simp [intOf]; omega⟩
    · obtain rfl : k = n := by omega
      clear hmk
      go_wp2
      go_ret
      exact ⟨f, rfl, hf, hA, hU, hK⟩
theorem bq_le (n m : Nat) (f : Nat → Nat) (h : n ≤ m) : (bq n f).size ≤ m := by rw [bq_size]; exact h
end Go.Proofs.YtpjmnnaiegdjmaaDoor
namespace Go.Proofs.YtpjmnnaiegdjmaaDoor
open Go.ChangeShapes Go.WideShapes Go.ChangeAt Go.RowKit
set_option linter.unusedVariables false

set_option maxHeartbeats 1000000 in
theorem of_any (cb : Nat) (a : Option Addr) (N cap P l m c : Nat) (p : ByteArray → Prop) (w : World) (hN : N ≤ 1048576) (hP : P ≤ 900000) (h0 : 1 < m) (h1 : m ≤ 60000) (hl : l < w.heap.size) (hne : l ≠ cb)
    (hx : ∀ i, i < m → ∃ x : ByteArray, p x ∧ w.cell? ⟨l, i, none⟩ = some (.string x)) (h : Cu w cb a N cap P) :
    Calls Tryd.prog 68 #[.pointer (some ⟨cb, 0, none⟩), .slice (some ⟨l, 0, none⟩) m c] w fun e w' => ∃ r : ByteArray, e = .returned (.string r) ∧ p r ∧ Cu w' cb a N cap (P + 2) ∧ Kx cb w w' := by
  have HU := hide h
  have HX := hide hx
  clear h hx
  go_enter Tryd.func68, Tryd.ntmps68
  go_wp2_with fail
  refine (pick_any cb a N cap P m _ hN hP (by omega) (by omega) (unhide HU)).mono ?_
  rintro e w1 ⟨r, rfl, hr0, hr1, u1, k1⟩
  obtain ⟨i, rfl⟩ := Int.eq_ofNat_of_zero_le hr0
  obtain ⟨x, hp, hx⟩ := unhide HX i (by omega)
  have hx1 := (k1.cell (p := ⟨l, i, none⟩) hl hne).trans hx
  have HPx := hide hp
  clear hp hx
  go_wp2
  go_ret
  exact ⟨x, rfl, unhide HPx, u1, k1⟩
theorem lit_texts (w : World) (l : List ByteArray) (t : TypeId) (p : ByteArray → Prop) (h : ∀ x ∈ l, p x) : ∀ i, i < l.length → ∃ x, p x ∧ (w.alloc (.cells (l.map Value.string).toArray t)).cell? ⟨w.heap.size, i, none⟩ = some (.string x) := by
  intro i hi
  exact ⟨l[i], h _ (List.getElem_mem hi), by simp [hi]⟩
end Go.Proofs.YtpjmnnaiegdjmaaDoor
namespace Go.Proofs.YtpjmnnaiegdjmaaDoor
open Go.ChangeShapes Go.WideShapes Go.ChangeAt Go.RowKit Go.Deep
set_option linter.unusedVariables false

theorem Kx.bel {cb B : Nat} {w W W' : World} (h : Kx cb w W) (hb : Below B W W') (hB : w.heap.size ≤ B) : Kx cb w W' :=
  ⟨hb.os.trans h.os, hb.tape.trans h.tape, hb.output.trans h.output, Nat.le_trans h.size hb.size, fun k hk hne => (hb.block k (by omega)).trans (h.block k hk hne)⟩
theorem Cu.bel {w0 W W' : World} {cb B : Nat} {a : Option Addr} {N cap P P0 : Nat} (h0 : Cu w0 cb a N cap P0) (h : Cu W cb a N cap P) (hb : Below B W W') (hB : w0.heap.size ≤ B) : Cu W' cb a N cap P := by
  have hl := h0.lt
  have hc : ∀ q : Nat, W'.cell? ⟨cb, q, none⟩ = W.cell? ⟨cb, q, none⟩ := fun q => World.cell?_of_block (a := ⟨cb, q, none⟩) (hb.block cb (by omega))
  refine ⟨Nat.lt_of_lt_of_le h.lt hb.size, (hc 0).trans h.c0, ?_, ?_, fun q => ?_, ?_⟩
  · obtain ⟨p, h1, h2⟩ := h.c1
    exact ⟨p, h1, (hc 1).trans h2⟩
  · obtain ⟨s, h1, h2, h3⟩ := h.c2
    exact ⟨s, h1, h2, (hc 2).trans h3⟩
  · exact (World.frozen?_of_block (w := W) (a := ⟨cb, q, none⟩) (hb.block cb (by omega))).trans (h.fz q)
  · rcases h.cd with e | ⟨b, off, e, hl1, hn1, hx⟩
    · exact Or.inl e
    · rcases h0.cd with e0 | ⟨b0, off0, e0, hl0, _, _⟩
      · exact Or.inl e0
      · have hbb : b = b0 := by
          rw [e] at e0
          simp at e0
          exact e0.1
        refine Or.inr ⟨b, off, e, Nat.lt_of_lt_of_le hl1 hb.size, hn1, fun i hi => ?_⟩
        obtain ⟨x, h1, h2⟩ := hx i hi
        exact ⟨x, h1, (World.cell?_of_block (a := ⟨b, off + i, none⟩) (hb.block b (by omega))).trans h2⟩
theorem Ost.kx {cb base : Nat} {w w' : World} {v : Value} {L : List ByteArray} (h : Ost base w v L) (k : Kx cb w w') (hc : cb < base) : Ost base w' v L := by
  refine ⟨h.1, ?_⟩
  rcases h.2 with hn | ⟨g, cap, cur, rfl, hg, hgg, rest⟩
  · exact .inl hn
  · refine .inr ⟨g, cap, cur, rfl, hg, ?_, rest⟩
    rw [k.block g (Array.getElem?_eq_some_iff.1 hgg).1 (by omega)]
    exact hgg
theorem Ost.from {base base' : Nat} {w : World} {v : Value} {L : List ByteArray} (h : Ost base w v L) (hb : base' ≤ base) : Ost base' w v L := by
  refine ⟨h.1, ?_⟩
  rcases h.2 with hn | ⟨g, cap, cur, e, hg, rest⟩
  · exact .inl hn
  · exact .inr ⟨g, cap, cur, e, Nat.le_trans hb hg, rest⟩
/-- small texts -/
def sm13 (L : List ByteArray) : Prop := ∀ i, i < L.length → (tA L i).size ≤ 13
theorem sm13_nil : sm13 [] := fun i hi => absurd hi (Nat.not_lt_zero _)
theorem sm13_snoc {L : List ByteArray} {t : ByteArray} (h : sm13 L) (ht : t.size ≤ 13) : sm13 (L ++ [t]) := fun i hi => by
  by_cases e : i < L.length
  · rw [tA_app_l _ _ _ e]; exact h i e
  · rw [List.length_append] at hi
    simp at hi
    obtain rfl : i = L.length := by omega
    unfold tA
    rw [List.getD, List.getElem?_append_right (Nat.le_refl _), Nat.sub_self]
    exact ht
set_option maxRecDepth 100000 in
set_option maxHeartbeats 1000000 in
theorem short9 (cb : Nat) (a : Option Addr) (N cap P : Nat) (w : World) (hN : N ≤ 1048576) (hP : P ≤ 400000) (h : Cu w cb a N cap P) :
    Calls Tryd.prog 51 #[.pointer (some ⟨cb, 0, none⟩)] w fun e w' => ∃ t : ByteArray, e = .returned (.string t) ∧ t.size ≤ 40 ∧ Cu w' cb a N cap (P + 300) ∧ Kx cb w w' := by
  have HU := hide h
  clear h
  go_enter Tryd.func51, Tryd.ntmps51
  go_wp2_with fail
  refine (pick_any cb a N cap P 40 _ hN (by omega) (by omega) (by omega) (unhide HU)).mono ?_
  rintro e w1 ⟨r, rfl, hr0, hr1, u1, k1⟩
  obtain ⟨n, rfl⟩ := Int.eq_ofNat_of_zero_le hr0
  have U1 := hide u1
  have K1 := hide k1
  clear u1 k1 HU
  go_wp2_with fail
  refine (one_any cb a N cap (P + 2) 8 _ hN (by omega) (by omega) (by omega) (unhide U1)).mono ?_
  rintro e w2 ⟨rb, rfl, u2, k2⟩
  have U2 := hide u2
  have K2 := hide ((unhide K1).trans k2)
  clear u2 k2 U1 K1
  cases rb with
  | false =>
    go_wp2_with fail
    refine (sizedBytes_any cb a N cap (P + 2 + 2) n _ hN (by omega) (by omega) (unhide U2)).mono ?_
    rintro e w3 ⟨f, rfl, hf, hA, u3, k3⟩
    have hst := ar_string hA (fun i _ => hf i) n
    have U3 := hide (u3.mono (Q := P + 300) (by omega))
    have K3 := hide ((unhide K2).trans k3)
    have hsz := bq_le n 40 f (by omega)
    clear u3 k3 hA hf
    generalize bq n f = t at *
    go_wp2
    go_ret
    exact ⟨t, rfl, hsz, unhide U3, unhide K3⟩
  | true =>
    have hne : w2.heap.size ≠ cb := by have := (unhide U2).lt; omega
    have hx := lit_cells w2 [0, 15, 16, 17, 32] 3 (fun x => 0 ≤ x ∧ x ≤ 40) (by decide)
    have UA := hide ((unhide U2).alloc (.cells #[.int .i64 0, .int .i64 15, .int .i64 16, .int .i64 17, .int .i64 32] 3))
    have KA := hide ((unhide K2).alloc (.cells #[.int .i64 0, .int .i64 15, .int .i64 16, .int .i64 17, .int .i64 32] 3))
    have HX := hide hx
    clear hx U2 K2
    go_wp2_with fail
    refine (among_any cb a N cap (P + 2 + 2) w2.heap.size 5 5 (fun x => 0 ≤ x ∧ x ≤ 40) _ hN (by omega) (by omega) (by omega) (by simp) hne (unhide HX) (unhide UA)).mono ?_
    rintro e w3 ⟨r, rfl, ⟨h0, h1⟩, u3, k3⟩
    obtain ⟨m, rfl⟩ := Int.eq_ofNat_of_zero_le h0
    have U3 := hide u3
    have K3 := hide ((unhide KA).trans k3)
    clear u3 k3 UA KA HX
    go_wp2_with fail
    refine (sizedBytes_any cb a N cap (P + 2 + 2 + 2) m _ hN (by omega) (by omega) (unhide U3)).mono ?_
    rintro e w4 ⟨f, rfl, hf, hA, u4, k4⟩
    have hst := ar_string hA (fun i _ => hf i) m
    have U4 := hide (u4.mono (Q := P + 300) (by omega))
    have K4 := hide ((unhide K3).trans k4)
    have hsz := bq_le m 40 f (by omega)
    clear u4 k4 hA hf
    generalize bq m f = t at *
    go_wp2
    go_ret
    exact ⟨t, rfl, hsz, unhide U4, unhide K4⟩
set_option maxRecDepth 100000 in
set_option maxHeartbeats 1000000 in
theorem backend9 (cb : Nat) (a : Option Addr) (N cap P : Nat) (w : World) (hN : N ≤ 1048576) (hP : P ≤ 400000) (h : Cu w cb a N cap P) :
    Calls Tryd.prog 50 #[.pointer (some ⟨cb, 0, none⟩)] w fun e w' => ∃ t : ByteArray, e = .returned (.string t) ∧ t.size ≤ 13 ∧ Cu w' cb a N cap (P + 4) ∧ Kx cb w w' := by
  have HU := hide h
  clear h
  go_enter Tryd.func50, Tryd.ntmps50
  go_wp2_with fail
  refine (one_any cb a N cap P 40 _ hN (by omega) (by omega) (by omega) (unhide HU)).mono ?_
  rintro e w2 ⟨rb, rfl, u2, k2⟩
  have U2 := hide u2
  have K2 := hide k2
  have hne : w2.heap.size ≠ cb := by have := u2.lt; omega
  clear u2 k2
  cases rb with
  | true =>
    have HX := hide (lit_texts w2 [⟨#[]⟩, ⟨#[65]⟩, ⟨#[49, 50, 51, 52, 53, 54, 55, 56, 57, 48, 49, 50, 51]⟩] 9 (fun x => x.size ≤ 13) (by decide))
    have UA := hide ((unhide U2).alloc (.cells #[.string ⟨#[]⟩, .string ⟨#[65]⟩, .string ⟨#[49, 50, 51, 52, 53, 54, 55, 56, 57, 48, 49, 50, 51]⟩] 9))
    have KA := hide ((unhide K2).alloc (.cells #[.string ⟨#[]⟩, .string ⟨#[65]⟩, .string ⟨#[49, 50, 51, 52, 53, 54, 55, 56, 57, 48, 49, 50, 51]⟩] 9))
    clear U2 K2
    go_wp2_with fail
    refine (of_any cb a N cap (P + 2) w2.heap.size 3 3 (fun x => x.size ≤ 13) _ hN (by omega) (by omega) (by omega) (by simp) hne (unhide HX) (unhide UA)).mono ?_
    rintro e w3 ⟨r, rfl, hr, u3, k3⟩
    have K3 := hide ((unhide KA).trans k3)
    clear k3 UA KA HX
    go_wp2
    go_ret
    exact ⟨r, rfl, hr, u3, unhide K3⟩
  | false =>
    have HX := hide (lit_texts w2 [⟨#[98, 49]⟩, ⟨#[98, 50]⟩, ⟨#[98, 51]⟩, ⟨#[98, 52]⟩, ⟨#[101, 100, 103, 101]⟩] 9 (fun x => x.size ≤ 13) (by decide))
    have UA := hide ((unhide U2).alloc (.cells #[.string ⟨#[98, 49]⟩, .string ⟨#[98, 50]⟩, .string ⟨#[98, 51]⟩, .string ⟨#[98, 52]⟩, .string ⟨#[101, 100, 103, 101]⟩] 9))
    have KA := hide ((unhide K2).alloc (.cells #[.string ⟨#[98, 49]⟩, .string ⟨#[98, 50]⟩, .string ⟨#[98, 51]⟩, .string ⟨#[98, 52]⟩, .string ⟨#[101, 100, 103, 101]⟩] 9))
    clear U2 K2
    go_wp2_with fail
    refine (of_any cb a N cap (P + 2) w2.heap.size 5 5 (fun x => x.size ≤ 13) _ hN (by omega) (by omega) (by omega) (by simp) hne (unhide HX) (unhide UA)).mono ?_
    rintro e w3 ⟨r, rfl, hr, u3, k3⟩
    have K3 := hide ((unhide KA).trans k3)
    clear k3 UA KA HX
    go_wp2
    go_ret
    exact ⟨r, rfl, hr, u3, unhide K3⟩
set_option maxRecDepth 100000 in
set_option maxHeartbeats 2000000 in
theorem live9 (cb : Nat) (a : Option Addr) (N cap P : Nat) (w : World) (hN : N ≤ 1048576) (hP : P ≤ 400000) (h : Cu w cb a N cap P) :
    Calls Tryd.prog 47 #[.pointer (some ⟨cb, 0, none⟩)] w fun e w' => ∃ v L, e = .returned v ∧ Ost w.heap.size w' v L ∧ L.length ≤ 13 ∧ sm13 L ∧ Cu w' cb a N cap (P + 60) ∧ Kx cb w w' := by
  have hcb := h.lt
  have HU := hide h
  have U1 := hide (h.alloc (.cells #[.string ⟨#[98, 49]⟩, .string ⟨#[98, 50]⟩, .string ⟨#[98, 51]⟩, .string ⟨#[98, 52]⟩, .string ⟨#[101, 100, 103, 101]⟩] 9))
  have K1 := hide ((Kx.refl cb w).alloc (.cells #[.string ⟨#[98, 49]⟩, .string ⟨#[98, 50]⟩, .string ⟨#[98, 51]⟩, .string ⟨#[98, 52]⟩, .string ⟨#[101, 100, 103, 101]⟩] 9))
  have HX : Hid (∀ i, i < 5 → ∃ x : ByteArray, x.size ≤ 13 ∧ (w.alloc (.cells #[.string ⟨#[98, 49]⟩, .string ⟨#[98, 50]⟩, .string ⟨#[98, 51]⟩, .string ⟨#[98, 52]⟩, .string ⟨#[101, 100, 103, 101]⟩] 9)).cell? ⟨w.heap.size, i, none⟩ = some (.string x)) := lit_texts w [⟨#[98, 49]⟩, ⟨#[98, 50]⟩, ⟨#[98, 51]⟩, ⟨#[98, 52]⟩, ⟨#[101, 100, 103, 101]⟩] 9 (fun x => x.size ≤ 13) (by decide)
  clear h
  go_enter Tryd.func47, Tryd.ntmps47
  go_wp2
  go_loopw [3, 9] (fun v i wr => ∃ (k : Nat) (L : List ByteArray), k ≤ 5 ∧ i = .int .i64 k ∧ Ost (w.heap.size + 1) wr v L ∧ L.length ≤ k ∧ sm13 L ∧ (∀ i, i < 5 → ∃ x : ByteArray, x.size ≤ 13 ∧ wr.cell? ⟨w.heap.size, i, none⟩ = some (.string x)) ∧ w.heap.size < wr.heap.size ∧ Cu wr cb a N cap (P + 2 * k) ∧ Kx cb w wr) (fun _ i _ => 5 - (intOf i).toNat)
  case atStart => exact ⟨0, [], by omega, rfl, Ost.nil _ _, Nat.le_refl _, sm13_nil, unhide HX, by simp, unhide U1, unhide K1⟩
  case round =>
    obtain ⟨k, L, hk, rfl, hO, hL, hs, hx, hz, hu, hkx⟩ := hrel
    clear HX U1 K1
    by_cases hlt : k < 5
    · obtain ⟨x, hx1, hx2⟩ := hx k hlt
      have O1 := hide hO
      have S1 := hide hs
      have X1 := hide hx
      have U1 := hide hu
      have K1 := hide hkx
      clear hO hs hx hu hkx
      go_wp2_with fail
      refine (one_any cb a N cap (P + 2 * k) 2 _ hN (by omega) (by omega) (by omega) (unhide U1)).mono ?_
      rintro e w2 ⟨rb, rfl, u2, k2⟩
      have O2 := hide ((unhide O1).kx k2 (by omega))
      have X2 : Hid (∀ i, i < 5 → ∃ x : ByteArray, x.size ≤ 13 ∧ w2.cell? ⟨w.heap.size, i, none⟩ = some (.string x)) := fun i hi => by
        obtain ⟨y, h1, h2⟩ := unhide X1 i hi
        exact ⟨y, h1, (k2.cell (p := ⟨w.heap.size, i, none⟩) hz (by show w.heap.size ≠ cb; omega)).trans h2⟩
      have U2 := hide (u2.mono (Q := P + 2 * (k + 1)) (by omega))
      have K2 := hide ((unhide K1).trans k2)
      have hz2 : w.heap.size < w2.heap.size := Nat.lt_of_lt_of_le hz k2.size
      clear O1 X1 U1 K1 u2 k2
      cases rb with
      | false =>
        go_wp2
        exact ⟨⟨k + 1, L, by omega, by go_num, unhide O2, by omega, unhide S1, unhide X2, hz2, unhide U2, unhide K2⟩, by simp [intOf]; omega⟩
      | true =>
        obtain ⟨v', w', hrun, hO', hg, _⟩ := appS (w2.alloc (.cells #[.string x] 9)) 25 (w.heap.size + 1) u3 L ((unhide O2).kept ((Below.refl _ _).alloc (Nat.le_refl _) _)) (some ⟨w2.heap.size, 0, none⟩) 1 [x] (sc_txt w2 x _) (by show _ + 1 ≤ _; omega) (by simp; omega)
        have RUN : Hid ((Builtin.append_ #[25, 25] 25 #[u3, .slice (some ⟨w2.heap.size, 0, none⟩) 1 1]).run Tryd.prog (w2.alloc (.cells #[.string x] 9)) = .ok v' w') := hrun
        have hB : Below (w.heap.size + 1) w2 w' := ((Below.refl (w.heap.size + 1) w2).alloc (by omega) _).trans hg
        have O3 := hide hO'
        have X3 : Hid (∀ i, i < 5 → ∃ x : ByteArray, x.size ≤ 13 ∧ w'.cell? ⟨w.heap.size, i, none⟩ = some (.string x)) := fun i hi => by
          obtain ⟨y, h1, h2⟩ := unhide X2 i hi
          exact ⟨y, h1, (World.cell?_of_block (a := ⟨w.heap.size, i, none⟩) (hB.block w.heap.size (by omega))).trans h2⟩
        have U3 := hide (Cu.bel (unhide HU) (unhide U2) hB (by omega))
        have K3 := hide ((unhide K2).bel hB (by omega))
        have hz3 : w.heap.size < w'.heap.size := Nat.lt_of_lt_of_le hz2 hB.size
        have S3 := hide (sm13_snoc (unhide S1) hx1)
        clear hrun hO' hg hB O2 X2 U2 K2
        go_wp2_with (at_builtin; refine wpl_app rfl _ _ 25 rfl _ _ _ _ rfl rfl (unhide RUN) ?_)
        exact ⟨⟨k + 1, L ++ [x], by omega, by go_num, unhide O3, by simp; omega, unhide S3, unhide X3, hz3, unhide U3, unhide K3⟩, by simp [intOf]; omega⟩
    · obtain rfl : k = 5 := by omega
      have O1 := hide hO
      have S1 := hide hs
      have U1 := hide hu
      have K1 := hide hkx
      clear hO hs hx hu hkx
      go_wp2_with fail
      refine (pick_any cb a N cap (P + 2 * 5) 40 _ hN (by omega) (by omega) (by omega) (unhide U1)).mono ?_
      rintro e w2 ⟨r, rfl, hr0, hr1, u2, k2⟩
      have O2 := hide ((unhide O1).kx k2 (by omega))
      have U2 := hide u2
      have K2 := hide ((unhide K1).trans k2)
      have hz2 : w.heap.size < w2.heap.size := Nat.lt_of_lt_of_le hz k2.size
      clear O1 U1 K1 u2 k2
      by_cases r0 : r = 0
      · subst r0
        have hne : w2.heap.size ≠ cb := by omega
        have HX := hide (lit_texts w2 [⟨#[97]⟩, ⟨#[]⟩, ⟨#[65]⟩, ⟨#[122, 122]⟩] 9 (fun x => x.size ≤ 13) (by decide))
        have UA := hide ((unhide U2).alloc (.cells #[.string ⟨#[97]⟩, .string ⟨#[]⟩, .string ⟨#[65]⟩, .string ⟨#[122, 122]⟩] 9))
        have KA := hide ((unhide K2).alloc (.cells #[.string ⟨#[97]⟩, .string ⟨#[]⟩, .string ⟨#[65]⟩, .string ⟨#[122, 122]⟩] 9))
        have OA := hide ((unhide O2).kept ((Below.refl _ _).alloc (Nat.le_refl _) (.cells #[.string ⟨#[97]⟩, .string ⟨#[]⟩, .string ⟨#[65]⟩, .string ⟨#[122, 122]⟩] 9)))
        clear U2 K2 O2
        go_wp2_with fail
        refine (of_any cb a N cap (P + 2 * 5 + 2) w2.heap.size 4 4 (fun x => x.size ≤ 13) _ hN (by omega) (by omega) (by omega) (by simp) hne (unhide HX) (unhide UA)).mono ?_
        rintro e w3 ⟨x, rfl, hx1, cu3, k3⟩
        have O3 := (unhide OA).kx k3 (by omega)
        have hz3 : w.heap.size < w3.heap.size := Nat.lt_of_lt_of_le (by simp; omega) k3.size
        obtain ⟨v', w', hrun, hO', hg, _⟩ := appS (w3.alloc (.cells #[.string x] 9)) 25 (w.heap.size + 1) u3 L (O3.kept ((Below.refl _ _).alloc (Nat.le_refl _) _)) (some ⟨w3.heap.size, 0, none⟩) 1 [x] (sc_txt w3 x _) (by show _ + 1 ≤ _; omega) (by simp; omega)
        have RUN : Hid ((Builtin.append_ #[25, 25] 25 #[u3, .slice (some ⟨w3.heap.size, 0, none⟩) 1 1]).run Tryd.prog (w3.alloc (.cells #[.string x] 9)) = .ok v' w') := hrun
        have hB : Below (w.heap.size + 1) w3 w' := ((Below.refl (w.heap.size + 1) w3).alloc (by omega) _).trans hg
        have O4 := hide (hO'.from (base' := w.heap.size) (by omega))
        have U4 := hide ((Cu.bel (unhide HU) cu3 hB (by omega)).mono (Q := P + 60) (by omega))
        have K4 := hide (((unhide KA).trans k3).bel hB (by omega))
        have S4 := hide (sm13_snoc (unhide S1) hx1)
        clear hrun hO' hg hB O3 cu3 k3 HX UA KA OA
        go_wp2_with (at_builtin; refine wpl_app rfl _ _ 25 rfl _ _ _ _ rfl rfl (unhide RUN) ?_)
        go_ret
        exact ⟨v', L ++ [x], rfl, unhide O4, by simp; omega, unhide S4, unhide U4, unhide K4⟩
      by_cases r1 : r = 1
      case neg =>
        have b0 : (r == 0) = false := beq_eq_false_iff_ne.2 r0
        have b1 : (r == 1) = false := beq_eq_false_iff_ne.2 r1
        have U4 := hide ((unhide U2).mono (Q := P + 60) (by omega))
        have O4 := hide ((unhide O2).from (base' := w.heap.size) (by omega))
        clear U2 O2
        go_wp2
        go_ret
        exact ⟨_, L, rfl, unhide O4, by omega, unhide S1, unhide U4, unhide K2⟩
      subst r1
      clear S1 O2
      have HN1 : Hid (∀ k : Nat, k < 13 → ∀ W : World, (convert 36 9 (.slice (some ⟨W.heap.size, 0, none⟩) 1 1)).run Tryd.prog (W.alloc (.cells #[.int .u8 (97 + (k : Int))] 5)) = .ok (.string ⟨#[UInt8.ofNat (97 + k)]⟩) (W.alloc (.cells #[.int .u8 (97 + (k : Int))] 5))) := fun k hk W => run_convert_bytes_back (P := Tryd.prog) (W.alloc (.cells #[.int .u8 (97 + (k : Int))] 5)) 36 9 5 ⟨W.heap.size, 0, none⟩ 1 [UInt8.ofNat (97 + k)] Tryd.underlying36 Tryd.underlying5 Tryd.underlying9 (by
        intro i hi
        simp at hi
        subst hi
        have e9 : (UInt8.ofNat (97 + k)).toNat = 97 + k := by rw [UInt8.toNat_ofNat']; omega
        have e8 : (((UInt8.ofNat (97 + k)).toNat : Nat) : Int) = 97 + (k : Int) := by rw [e9]; omega
        simp only [Addr.add_lit, List.getElem_singleton, e8]
        simp)
      go_wp2
      go_loopw [3, 6] (fun v i wr => ∃ (k : Nat) (L : List ByteArray), k ≤ 13 ∧ i = .int .i64 k ∧ Ost (w.heap.size + 1) wr v L ∧ L.length ≤ k ∧ sm13 L ∧ w.heap.size < wr.heap.size ∧ Cu wr cb a N cap (P + 12 + 2 * k) ∧ Kx cb w wr) (fun _ i _ => 14 - (intOf i).toNat)
      case atStart => exact ⟨0, [], by omega, rfl, Ost.nil _ _, Nat.le_refl _, sm13_nil, hz2, unhide U2, unhide K2⟩
      case round =>
        obtain ⟨k, L, hk, rfl, hO, hL, hs, hz, hu, hkx⟩ := hrel
        have O1 := hide hO
        have S1 := hide hs
        have U1 := hide hu
        have K1 := hide hkx
        clear hO hs hu hkx U2 K2
        go_wp2_with fail
        refine (pick_any cb a N cap (P + 12 + 2 * k) 2 _ hN (by omega) (by omega) (by omega) (unhide U1)).mono ?_
        rintro e w4 ⟨r, rfl, hr0, hr1, cu4, k4⟩
        have O4 := hide ((unhide O1).kx k4 (by omega))
        have U4 := hide cu4
        have K4 := hide ((unhide K1).trans k4)
        have hz4 : w.heap.size < w4.heap.size := Nat.lt_of_lt_of_le hz k4.size
        clear O1 U1 K1 cu4 k4
        by_cases hlt : (k : Int) < 12 + r
        · have hk13 : k < 13 := by omega
          have hst := unhide HN1 k hk13 w4
          have ad := fun W : World => run_string_add_sum (P := Tryd.prog) (w := W) (⟨#[120]⟩ : ByteArray) (⟨#[UInt8.ofNat (97 + k)]⟩ : ByteArray) (by show 1 + 1 ≤ _; omega)
          have hx1 : ((⟨#[120]⟩ : ByteArray) ++ (⟨#[UInt8.ofNat (97 + k)]⟩ : ByteArray)).size ≤ 13 := by rw [ByteArray.size_append]; show 1 + 1 ≤ 13; omega
          generalize (⟨#[UInt8.ofNat (97 + k)]⟩ : ByteArray) = t1 at *
          generalize (⟨#[120]⟩ : ByteArray) ++ t1 = x at *
          have A4 : Below w4.heap.size w4 (w4.alloc (.cells #[.int .u8 (97 + (k : Int))] 5)) := (Below.refl _ _).alloc (Nat.le_refl _) _
          obtain ⟨v', w', hrun, hO', hg, _⟩ := appS ((w4.alloc (.cells #[.int .u8 (97 + (k : Int))] 5)).alloc (.cells #[.string x] 9)) 25 (w.heap.size + 1) u3 L (((unhide O4).kept A4).kept ((Below.refl _ _).alloc (Nat.le_refl _) _)) (some ⟨w4.heap.size + 1, 0, none⟩) 1 [x] (by have := sc_txt (w4.alloc (.cells #[.int .u8 (97 + (k : Int))] 5)) x 9; simpa using this) (by show _ + 1 ≤ _; omega) (by simp; omega)
          have RUN : Hid ((Builtin.append_ #[25, 25] 25 #[u3, .slice (some ⟨w4.heap.size + 1, 0, none⟩) 1 1]).run Tryd.prog ((w4.alloc (.cells #[.int .u8 (97 + (k : Int))] 5)).alloc (.cells #[.string x] 9)) = .ok v' w') := hrun
          have hB : Below (w.heap.size + 1) w4 w' := (((Below.refl (w.heap.size + 1) w4).alloc (by omega) _).alloc (by simp; omega) _).trans hg
          have O5 := hide hO'
          have U5 := hide ((Cu.bel (unhide HU) (unhide U4) hB (by omega)).mono (Q := P + 12 + 2 * (k + 1)) (by omega))
          have K5 := hide ((unhide K4).bel hB (by omega))
          have S5 := hide (sm13_snoc (unhide S1) hx1)
          have hz5 : w.heap.size < w'.heap.size := Nat.lt_of_lt_of_le hz4 hB.size
          clear hrun hO' hg hB O4 U4 K4 A4 HN1
          go_wp2_with (at_builtin; refine wpl_app rfl _ _ 25 rfl _ _ _ _ rfl rfl (unhide RUN) ?_)
          exact ⟨⟨k + 1, L ++ [x], by omega, by go_num, unhide O5, by simp; omega, unhide S5, hz5, unhide U5, unhide K5⟩, by simp [intOf]; omega⟩
        · have O5 := hide ((unhide O4).from (base' := w.heap.size) (by omega))
          have U5 := hide ((unhide U4).mono (Q := P + 60) (by omega))
          clear O4 U4 HN1
          go_wp2
          go_ret
          exact ⟨_, L, rfl, unhide O5, by omega, unhide S1, unhide U5, unhide K4⟩
theorem pick1 (cb : Nat) (a : Option Addr) (N cap P n : Nat) (w : World) (hN : N ≤ 1048576) (hP : P ≤ 900000) (h0 : 0 < n) (h1 : n ≤ 60000) (h : Cu w cb a N cap P) :
    Calls Tryd.prog 49 #[.pointer (some ⟨cb, 0, none⟩), .int .i64 n] w fun e w' => ∃ r : Nat, e = .returned (.int .i64 r) ∧ r < n ∧ Cu w' cb a N cap (P + 2) ∧ Kx cb w w' := by
  by_cases h2 : n = 1
  · subst h2
    have HU := hide (h.mono (Q := P + 2) (by omega))
    clear h
    go_enter Tryd.func49, Tryd.ntmps49
    go_wp2
    go_ret
    exact ⟨0, rfl, by omega, unhide HU, Kx.refl _ _⟩
  · refine (pick_any cb a N cap P n w hN hP (by omega) (by omega) h).mono ?_
    rintro e w' ⟨r, rfl, hr0, hr1, u, k⟩
    obtain ⟨m, rfl⟩ := Int.eq_ofNat_of_zero_le hr0
    exact ⟨m, rfl, by omega, u, k⟩
/-- a drawn list and a drawn text -/
def Dl (w : World) (e : Ending) (w' : World) : Prop := ∃ v L t, e = .returned (.tuple #[v, .string t]) ∧ Ost w.heap.size w' v L ∧ L.length ≤ 13 ∧ sm13 L ∧ t.size ≤ 101 ∧ Below w.heap.size w w'
set_option maxRecDepth 100000 in
set_option maxHeartbeats 2000000 in
theorem drawPick9 (a : Option Addr) (N cap : Nat) (w : World) (hN : N ≤ 1048576) (h : Cd w a N) :
    Calls Tryd.prog 23 #[.slice a N cap] w (Dl w) := by
  have U0 := hide (cu_first cap 62 h)
  clear h
  go_enter Tryd.func23, Tryd.ntmps23
  go_wp2_with fail
  refine (short9 w.heap.size a N cap 0 _ hN (by omega) (unhide U0)).mono ?_
  rintro e w1 ⟨t, rfl, ht, u1, k1⟩
  have U1 := hide u1
  have K1 := hide k1
  clear u1 k1 U0
  go_wp2_with fail
  refine (one_any w.heap.size a N cap (0 + 300) 30 _ hN (by omega) (by omega) (by omega) (unhide U1)).mono ?_
  rintro e w2 ⟨rb, rfl, u2, k2⟩
  have U2 := hide u2
  have K2 := hide ((unhide K1).trans k2)
  clear u2 k2 U1 K1
  cases rb with
  | false =>
    go_wp2_with fail
    refine (live9 w.heap.size a N cap (0 + 300 + 2) _ hN (by omega) (unhide U2)).mono ?_
    rintro e w3 ⟨v, L, rfl, hO, hL, hs, u3, k3⟩
    have hw2 : w.heap.size < w2.heap.size := (unhide U2).lt
    have O3 := hide (hO.from (base' := w.heap.size) (by omega))
    have K3 := hide ((unhide K2).trans k3).draw
    have S3 := hide hs
    clear hO u3 k3 hs U2 K2
    go_wp2
    go_ret2
    exact ⟨v, L, t, rfl, unhide O3, hL, unhide S3, by omega, unhide K3⟩
  | true =>
    go_wp2_with fail
    refine (pick_any w.heap.size a N cap (0 + 300 + 2) 2 _ hN (by omega) (by omega) (by omega) (unhide U2)).mono ?_
    rintro e w3 ⟨r, rfl, hr0, hr1, u3, k3⟩
    obtain ⟨m, rfl⟩ := Int.eq_ofNat_of_zero_le hr0
    have hm2 : m < 2 := by omega
    have hmk := mk_bytes (100 + m) (by omega) w3
    have hN0 := Ar.new w3 (100 + m) (fun _ => 0) 5
    have hst := ar_string hN0 (fun i _ => by omega) (100 + m)
    have hsz := bq_le (100 + m) 101 (fun _ => 0) (by omega)
    have U4 := hide (u3.alloc (.cells (us (100 + m) fun _ => 0).toArray 5))
    have K4 := hide (((unhide K2).trans k3).alloc (.cells (us (100 + m) fun _ => 0).toArray 5))
    have e1 : ((100 + m : Nat) : Int) = 100 + (m : Int) := by omega
    clear u3 k3 U2 K2 hN0
    rw [e1] at hmk
    generalize bq (100 + m) (fun _ => 0) = t4 at *
    generalize w3.alloc (.cells (us (100 + m) fun _ => 0).toArray 5) = w4 at *
    go_wp2_with fail
    refine (live9 w.heap.size a N cap (0 + 300 + 2 + 2) _ hN (by omega) (unhide U4)).mono ?_
    rintro e w5 ⟨v, L, rfl, hO, hL, hs, u5, k5⟩
    have hw4 : w.heap.size < w4.heap.size := (unhide U4).lt
    have O5 := hide (hO.from (base' := w.heap.size) (by omega))
    have K5 := hide ((unhide K4).trans k5).draw
    have S5 := hide hs
    clear hO u5 k5 hs U4 K4
    go_wp2
    go_ret2
    exact ⟨v, L, t4, rfl, unhide O5, hL, unhide S5, hsz, unhide K5⟩
set_option maxRecDepth 100000 in
set_option maxHeartbeats 2000000 in
theorem drawDrop9 (a : Option Addr) (N cap : Nat) (w : World) (hN : N ≤ 1048576) (h : Cd w a N) :
    Calls Tryd.prog 22 #[.slice a N cap] w (Dl w) := by
  have U0 := hide (cu_first cap 62 h)
  clear h
  go_enter Tryd.func22, Tryd.ntmps22
  go_wp2_with fail
  refine (live9 w.heap.size a N cap 0 _ hN (by omega) (unhide U0)).mono ?_
  rintro e w1 ⟨v, L, rfl, hO, hL, hs, u1, k1⟩
  have hO1 := hide (hO.from (base' := w.heap.size + 1) (by simp))
  have U1 := hide u1
  have K1 := hide k1
  have S1 := hide hs
  obtain ⟨la, lc, rfl, hlc, _, hSn⟩ := hO.form
  clear u1 k1 hO hs U0
  by_cases hl0 : 0 < L.length
  · have hI : (0 : Int) < (L.length : Int) := by omega
    rcases hSn with h9 | ⟨g, rfl, hg⟩
    · omega
    have hgl := hg.ge
    have hgw := hg.lt
    have HC := hide hg.c
    clear hg
    go_wp2_with fail
    refine (one_any w.heap.size a N cap (0 + 60) 3 _ hN (by omega) (by omega) (by omega) (unhide U1)).mono ?_
    rintro e w2 ⟨rb, rfl, u2, k2⟩
    have U2 := hide u2
    have K2 := hide ((unhide K1).trans k2)
    have O2 := hide ((unhide hO1).kx k2 (by omega))
    have C2 : Hid (∀ i, i < L.length → w2.cell? ⟨g, i, none⟩ = some (.string (tA L i))) := fun i hi => (k2.cell (p := ⟨g, i, none⟩) hgw (by show g ≠ w.heap.size; simp at hgl; omega)).trans (unhide HC i hi)
    have hgw2 : g < w2.heap.size := Nat.lt_of_lt_of_le hgw k2.size
    clear u2 k2 U1 K1 hO1 HC
    cases rb with
    | true =>
      go_wp2_with fail
      refine (backend9 w.heap.size a N cap (0 + 60 + 2) _ hN (by omega) (unhide U2)).mono ?_
      rintro e w3 ⟨t, rfl, ht, u3, k3⟩
      have O3 := hide (((unhide O2).kx k3 (by omega)).from (base' := w.heap.size) (by omega))
      have K3 := hide ((unhide K2).trans k3).draw
      clear u3 k3 U2 K2 O2
      go_wp2
      go_ret2
      exact ⟨_, L, t, rfl, unhide O3, hL, unhide S1, by omega, unhide K3⟩
    | false =>
      have HP := hide (fun W (q : Cu W w.heap.size a N cap (0 + 60 + 2)) => pick1 w.heap.size a N cap (0 + 60 + 2) L.length W hN (by omega) hl0 (by omega) q)
      have U3 := hide ((unhide U2).same (Below.refl _ _).drew)
      have K3 := hide (unhide K2).drew
      have O3 := hide ((unhide O2).kept (Below.refl _ _).drew)
      have hg1 : g ≠ w.heap.size := by simp at hgl; omega
      go_upto_region 4 with fail
      refine wp_region_noPanic ?_
      refine wp_region_held_drew (S := fun V => ∀ i, i < L.length → V.cell? ⟨g, i, none⟩ = some (.string (tA L i))) (by kernel_rfl) (unhide C2) (fun hHeld => ?_)
      refine wpAnyH_take (i := 0) (v := ?_) rfl (by kernel_rfl) (by kernel_rfl) (by kernel_rfl) (fun _ _ _ h => h) (Or.inl ⟨by rfl, ?_⟩) hHeld ?_
      rotate_left
      · intro V hSw; go_simp; rfl
      simp only [Act.put, List.getElem_toArray, List.getElem_cons_zero, List.setIfInBounds_toArray, List.set_cons_zero, List.set_cons_succ]
      refine wpAnyH_take (i := 1) (v := ?_) rfl (by kernel_rfl) (by kernel_rfl) (by kernel_rfl) (fun _ _ _ h => h) (Or.inl ⟨by rfl, ?_⟩) hHeld ?_
      rotate_left
      · intro V hSw; go_simp; rfl
      simp only [Act.put, List.getElem_toArray, List.getElem_cons_succ, List.getElem_cons_zero, List.setIfInBounds_toArray, List.set_cons_zero, List.set_cons_succ]
      refine wpAnyH_take (i := 2) (v := ?_) rfl (by kernel_rfl) (by kernel_rfl) (by kernel_rfl) (fun _ _ _ h => h) (Or.inl ⟨by rfl, ?_⟩) hHeld ?_
      rotate_left
      · intro V hSw; go_simp; rfl
      simp only [Act.put, List.getElem_toArray, List.getElem_cons_succ, List.getElem_cons_zero, List.setIfInBounds_toArray, List.set_cons_zero, List.set_cons_succ]
      refine wpAnyH_take (i := 3) (v := ?_) rfl (by kernel_rfl) (by kernel_rfl) (by kernel_rfl) (fun _ _ _ h => h) (Or.inl ⟨by rfl, ?_⟩) hHeld ?_
      rotate_left
      · intro V hSw; go_simp; rfl
      simp only [Act.put, List.getElem_toArray, List.getElem_cons_succ, List.getElem_cons_zero, List.setIfInBounds_toArray, List.set_cons_zero, List.set_cons_succ]
      refine wpAnyH_take (i := 4) (v := ?_) rfl (by kernel_rfl) (by kernel_rfl) (by kernel_rfl) (fun _ _ _ h => h) (Or.inl ⟨by rfl, ?_⟩) hHeld ?_
      rotate_left
      · intro V hSw; go_simp; rfl
      simp only [Act.put, List.getElem_toArray, List.getElem_cons_succ, List.getElem_cons_zero, List.setIfInBounds_toArray, List.set_cons_zero, List.set_cons_succ]
      refine wpAnyH_ready (rs := [5]) (by kernel_rfl) (by simp) ?_
      refine AllReadyH.cons rfl (fun K hK => ?_) AllReadyH.nil
      go_simp
      go_at_call 49
      with_reducible refine (unhide HP _ (unhide U3)).mono ?_
      rintro e w3 ⟨r, rfl, hr, u3, k3⟩
      refine hK.out _ _ (fun i hi => (k3.cell (p := ⟨g, i, none⟩) hgw2 hg1).trans (unhide C2 i hi)) (fun hHeld => ?_)
      clear hK K
      try simp only [Act.put, List.getElem_toArray, List.getElem_cons_succ, List.getElem_cons_zero, List.setIfInBounds_toArray, List.set_cons_zero, List.set_cons_succ]
      have hrI : (r : Int) < (L.length : Int) := by omega
      have hr0 : (0 : Int) ≤ (r : Int) := by omega
      refine wpAnyH_take (i := 6) (v := ?_) rfl (by kernel_rfl) (by kernel_rfl) (by kernel_rfl) (fun _ _ _ h => h) (Or.inl ⟨by rfl, ?_⟩) hHeld ?_
      rotate_left
      · intro V hSw; go_simp; rfl
      simp only [Act.put, List.getElem_toArray, List.getElem_cons_succ, List.getElem_cons_zero, List.setIfInBounds_toArray, List.set_cons_zero, List.set_cons_succ]
      refine wpAnyH_take (i := 7) (v := ?_) rfl (by kernel_rfl) (by kernel_rfl) (by kernel_rfl) (fun _ _ _ h => h) (Or.inl ⟨by rfl, ?_⟩) hHeld ?_
      rotate_left
      · intro V hSw; have y1 := hSw r hr; go_simp; rfl
      simp only [Act.put, List.getElem_toArray, List.getElem_cons_succ, List.getElem_cons_zero, List.setIfInBounds_toArray, List.set_cons_zero, List.set_cons_succ]
      refine wpAnyH_take (i := 8) (v := ?_) rfl (by kernel_rfl) (by kernel_rfl) (by kernel_rfl) (fun _ _ _ h => h) (Or.inl ⟨by rfl, ?_⟩) hHeld ?_
      rotate_left
      · intro V hSw; go_simp; rfl
      simp only [Act.put, List.getElem_toArray, List.getElem_cons_succ, List.getElem_cons_zero, List.setIfInBounds_toArray, List.set_cons_zero, List.set_cons_succ]
      refine wpAnyH_take (i := 9) (v := ?_) rfl (by kernel_rfl) (by kernel_rfl) (by kernel_rfl) (fun _ _ _ h => h) (Or.inl ⟨by rfl, ?_⟩) hHeld ?_
      rotate_left
      · intro V hSw; go_simp; rfl
      simp only [Act.put, List.getElem_toArray, List.getElem_cons_succ, List.getElem_cons_zero, List.setIfInBounds_toArray, List.set_cons_zero, List.set_cons_succ]
      refine wpAnyH_done (by kernel_rfl) ?_ _
      refine NoPanic.normal ?_
      clear hHeld
      have O4 := hide (((unhide O3).kx k3 (by omega)).from (base' := w.heap.size) (by omega))
      have K4 := hide ((unhide K3).trans k3).draw
      have ht := unhide S1 r hr
      clear u3 k3 U2 K2 O2 U3 K3 O3 C2 HP
      generalize tA L r = t at *
      go_wp2
      go_ret2
      exact ⟨_, L, t, rfl, unhide O4, hL, unhide S1, by omega, unhide K4⟩
  · have hI : ¬ (0 : Int) < (L.length : Int) := by omega
    clear hSn
    go_wp2_with fail
    refine (backend9 w.heap.size a N cap (0 + 60) _ hN (by omega) (unhide U1)).mono ?_
    rintro e w3 ⟨t, rfl, ht, u3, k3⟩
    have O3 := hide (((unhide hO1).kx k3 (by omega)).from (base' := w.heap.size) (by omega))
    have K3 := hide ((unhide K1).trans k3).draw
    clear u3 k3 U1 K1 hO1
    go_wp2
    go_ret2
    exact ⟨_, L, t, rfl, unhide O3, hL, unhide S1, by omega, unhide K3⟩
end Go.Proofs.YtpjmnnaiegdjmaaDoor
