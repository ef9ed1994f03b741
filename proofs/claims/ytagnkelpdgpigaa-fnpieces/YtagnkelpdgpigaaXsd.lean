/-
  A short text that is drawn for a stream (the head of Dps).
-/
import Derived.Test.YtagnkelpdgpigaaDkx
import Derived.Test.YtagnkelpdgpigaaRci
import Derived.Test.YtagnkelpdgpigaaApr
import Derived.Deep.DeepCutAuto
namespace Go.Proofs.Ytagnkelpdgpigaa
open Go.ChangeShapes Go.WideShapes Go.ChangeAt Go.RowKit
set_option linter.unusedVariables false
theorem Kx.setNew {cb : Nat} {a w : World} (h : Kx cb a w) {p : Addr} (hp : a.heap.size ≤ p.block) (u : Value) : Kx cb a (w.setCell p u) :=
  ⟨h.os, h.tape, h.output, by simpa [World.setCell] using h.size, fun k hk hne => (Below.heap_setCell _ _ _ _ (by omega)).trans (h.block k hk hne)⟩
theorem Cu.setNew {w0 w : World} {cb : Nat} {a : Option Addr} {N cap P P0 : Nat} (h0 : Cu w0 cb a N cap P0) (h : Cu w cb a N cap P) {g : Nat} (hg : w0.heap.size ≤ g) (o : Nat) (u : Value) : Cu (w.setCell ⟨g, o, none⟩ u) cb a N cap P := by
  have hl := h0.lt
  have hne : ∀ q : Nat, (⟨g, o, none⟩ : Addr) ≠ ⟨cb, q, none⟩ := fun q e => absurd (congrArg Addr.block e) (by show g ≠ cb; omega)
  have hc : ∀ q : Nat, (w.setCell ⟨g, o, none⟩ u).cell? ⟨cb, q, none⟩ = w.cell? ⟨cb, q, none⟩ := fun q => World.cell?_setCell_other _ _ _ _ (hne q)
  refine ⟨by simpa [World.setCell] using h.lt, (hc 0).trans h.c0, ?_, ?_, fun q => ?_, ?_⟩
  · obtain ⟨p, h1, h2⟩ := h.c1
    exact ⟨p, h1, (hc 1).trans h2⟩
  · obtain ⟨s, h1, h2, h3⟩ := h.c2
    exact ⟨s, h1, h2, (hc 2).trans h3⟩
  · have := h.fz q
    rw [← this]
    exact World.frozen?_of_block (w := w) (a := ⟨cb, q, none⟩) (Below.heap_setCell w ⟨g, o, none⟩ u cb (by show cb ≠ g; omega))
  · rcases h.cd with e | ⟨b, off, e, hl1, hn1, hx⟩
    · exact Or.inl e
    · rcases h0.cd with e0 | ⟨b0, off0, e0, hl0, _, _⟩
      · exact Or.inl e0
      · have hb : b = b0 := by
          rw [e] at e0
          simp at e0
          exact e0.1
        refine Or.inr ⟨b, off, e, by simpa [World.setCell] using hl1, hn1, fun i hi => ?_⟩
        obtain ⟨x, h1, h2⟩ := hx i hi
        refine ⟨x, h1, ?_⟩
        rw [World.cell?_setCell_other _ _ _ _ (fun e9 => absurd (congrArg Addr.block e9) (by show g ≠ b; omega))]
        exact h2
end Go.Proofs.Ytagnkelpdgpigaa
namespace Go.Proofs.Ytagnkelpdgpigaa.Rc
open Go.ChangeShapes Go.WideShapes Go.ChangeAt Go.RowKit Go.Deep
set_option linter.unusedVariables false
set_option maxRecDepth 100000

theorem Try.infoU8 : (Try.prog.info? 5).map (fun i => (i.zero, i.size, i.bytes)) = some (some (.int .u8 0), 1, 1) := by kernel_rfl
/-- a row of bytes of the call's own -/
def Yb (w : World) (g n : Nat) (l : List UInt8) : Prop := l.length = n ∧ g < w.heap.size ∧ (∀ i, i < n → w.cell? ⟨g, i, none⟩ = some (.int .u8 ((l.getD i 0).toNat : Int))) ∧ ∀ i, w.frozen? ⟨g, i, none⟩ = false
theorem Yb.set {w : World} {g n : Nat} {l : List UInt8} (h : Yb w g n l) {k : Nat} (hk : k < n) (x : Nat) (hx : x < 256) : Yb (w.setCell ⟨g, k, none⟩ (.int .u8 (x : Int))) g n (l.set k (UInt8.ofNat x)) := by
  obtain ⟨h1, h2, h3, h4⟩ := h
  refine ⟨by rw [List.length_set]; exact h1, by simpa using h2, fun i hi => ?_, fun i => by simpa using h4 i⟩
  by_cases e : i = k
  · subst e
    rw [World.cell?_setCell_same _ _ _ (h3 i hi)]
    have e1 : (l.set i (UInt8.ofNat x)).getD i 0 = UInt8.ofNat x := by simp [List.getD, h1, hi]
    rw [e1]
    have e2 : (UInt8.ofNat x).toNat = x := by rw [UInt8.toNat_ofNat']; omega
    rw [e2]
  · rw [World.cell?_setCell_other _ _ _ _ (by intro q; injection q with _ q _; exact e q.symm), h3 i hi]
    have e1 : (l.set k (UInt8.ofNat x)).getD i 0 = l.getD i 0 := by simp [List.getD, Ne.symm e]
    rw [e1]
theorem Yb.text {w : World} {g n : Nat} {l : List UInt8} (h : Yb w g n l) (cap : Nat) : (convert 22 9 (.slice (some ⟨g, 0, none⟩) n cap)).run Try.prog w = .ok (.string ⟨l.toArray⟩) w := by
  obtain ⟨h1, h2, h3, h4⟩ := h
  subst h1
  refine run_convert_bytes_back w 22 9 5 ⟨g, 0, none⟩ cap l Try.underlying22 Try.underlying5 Try.underlying9 ?_
  intro j hj
  rw [add_none, Nat.zero_add, h3 j hj]
  simp [List.getD, hj]
set_option maxHeartbeats 4000000 in
theorem streamData_any (cb : Nat) (a : Option Addr) (N cap P : Nat) (w : World) (hN : N ≤ 1048576) (hP : P ≤ 400000) (h : Cu w cb a N cap P) :
    Calls Try.prog 22 #[.pointer (some ⟨cb, 0, none⟩)] w fun e w' => ∃ t : ByteArray, e = .returned (.string t) ∧ t.size ≤ 59 ∧ Cu w' cb a N cap (P + 10) ∧ Kx cb w w' := by
  have hcb := h.lt
  have H0 := hide h
  clear h
  go_enter Try.func22, Try.ntmps22
  go_wp2_with fail
  refine (pickN cb a N cap P 60 _ hN (by omega) (by omega) (by omega) (unhide H0)).mono ?_
  rintro e w1 ⟨n, rfl, hn, u1, k1⟩
  obtain ⟨i0, hi, hz0, hz1, hz2⟩ := info_parts Try.infoU8
  obtain ⟨w2, hmk, hown, hgr⟩ := run_make_full (P := Try.prog) w1 w1.heap.size 22 5 i0 _ 1 Try.underlying22 hi hz0 hz1 .i64 .i64 n (by rw [hz2]; omega) (by unfold maxLen; omega) (Nat.le_refl _)
  have hb2 : Below w1.heap.size w1 w2 := (Below.refl _ _).grown hgr (Nat.le_refl _) (fun k hk => by cases hk)
  have HY : Hid (Yb w2 w1.heap.size n (List.replicate n 0)) := by
    refine ⟨by simp, (hown.lt w1.heap.size rfl).2, fun i hi => ?_, fun o => hown.frozenAt o⟩
    rw [hown.cellAt i (by omega)]
    have e0 : (Value.int IntKind.u8 0).cells[i % (Value.int IntKind.u8 0).cells.size]! = Value.int IntKind.u8 0 := by
      show (#[Value.int IntKind.u8 0] : Array Value)[i % 1]! = _
      rw [Nat.mod_one]
      rfl
    simp [madeCells, hi, List.getD, e0]
  have U2 := hide ((u1.same hb2).mono (Q := P + 10) (by omega))
  have K2 := hide (k1.trans (Kx.of hb2))
  have hs2 := k1.size
  have hmk2 := hmk
  clear hown hgr hi hz0 hz1 hz2 hb2 u1 k1 hmk
  obtain ⟨g, hg⟩ : ∃ g, w1.heap.size = g := ⟨_, rfl⟩
  rw [hg] at HY hmk2
  have HG := hide hg
  have hgw : w.heap.size ≤ g := by omega
  go_wp2_with fail
  go_loopw [10] (fun iv wr => ∃ (k : Nat) (l : List UInt8), k ≤ n ∧ iv = .int .i64 k ∧ Hid (Yb wr g n l) ∧ Hid (Cu wr cb a N cap (P + 10)) ∧ Hid (Kx cb w wr)) (fun iv _ => n - (intOf iv).toNat)
  case atStart => exact ⟨0, _, Nat.zero_le _, rfl, HY, U2, K2⟩
  case round =>
    obtain ⟨k, l, hk, rfl, hY, hU, hK⟩ := hrel
    clear HY U2 K2 hmk2
    by_cases hlt : k < n
    · have c0 := (unhide hY).2.2.1 k hlt
      have f0 := (unhide hY).2.2.2 k
      have hgl := (unhide hY).2.1
      have hnk : (k : Int) < (n : Int) := by omega
      have hk0 : (0 : Int) ≤ (k : Int) := by omega
      have HYS := hide (fun x hx => (unhide hY).set hlt x hx)
      have HUS := hide (fun u => Cu.setNew (unhide H0) (unhide hU) (g := g) hgw k u)
      have HKS := hide (fun u => (unhide hK).setNew (p := ⟨g, k, none⟩) hgw u)
      clear hY hU hK
      go_wp2_with fail
      have e : (97 : Int) + (k : Int) * 7 % 26 = ((97 + k * 7 % 26 : Nat) : Int) := by omega
      rw [e]
      exact ⟨⟨k + 1, _, by omega, by go_num, unhide HYS (97 + k * 7 % 26) (by omega), unhide HUS _, unhide HKS _⟩, by simp [intOf]; omega⟩
    · obtain rfl : k = n := by omega
      have hcv := (unhide hY).text k
      have hsz : (⟨l.toArray⟩ : ByteArray).size ≤ 59 := by show l.toArray.size ≤ _; rw [List.size_toArray, (unhide hY).1]; omega
      have HS := hide hsz
      clear hsz
      go_wp2
      go_ret
      exact ⟨_, rfl, unhide HS, unhide hU, unhide hK⟩
end Go.Proofs.Ytagnkelpdgpigaa.Rc
