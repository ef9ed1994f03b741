/-
  Tables marked by the laws, and the marks held.
-/
import Derived.Test.YtldjenhknejpnaaTcp
import Derived.Test.YtldjenhknejpnaaStx
namespace Go.Proofs.Ytldjenhknejpnaa
open Go.ChangeShapes Go.WideShapes Go.ChangeAt Go.RowKit
set_option linter.unusedVariables false
set_option maxRecDepth 100000

/-- all old blocks but those of P are kept -/
structure Kq (P : Nat → Prop) (w w' : World) : Prop where
  os : w'.os = w.os
  tape : w'.tape = w.tape
  output : w'.output = w.output
  size : w.heap.size ≤ w'.heap.size
  block : ∀ q, q < w.heap.size → ¬ P q → w'.heap[q]? = w.heap[q]?
theorem Kq.refl (P : Nat → Prop) (w : World) : Kq P w w := ⟨rfl, rfl, rfl, Nat.le_refl _, fun _ _ _ => rfl⟩
theorem Kq.trans {P : Nat → Prop} {w w1 w2 : World} (h : Kq P w w1) (k : Kq P w1 w2) : Kq P w w2 :=
  ⟨k.os.trans h.os, k.tape.trans h.tape, k.output.trans h.output, Nat.le_trans h.size k.size, fun q hq hn => (k.block q (Nat.lt_of_lt_of_le hq h.size) hn).trans (h.block q hq hn)⟩
theorem Kq.of {P : Nat → Prop} {w w' : World} (h : Below w.heap.size w w') : Kq P w w' := ⟨h.os, h.tape, h.output, h.size, fun k hk _ => h.block k hk⟩
theorem Kq.imp {P Q : Nat → Prop} {w w' : World} (h : Kq P w w') (hpq : ∀ q, P q → Q q) : Kq Q w w' := ⟨h.os, h.tape, h.output, h.size, fun q hq hn => h.block q hq (fun p => hn (hpq q p))⟩
theorem Kq.set {P : Nat → Prop} {w w' : World} (h : Kq P w w') {g i : Nat} {u : Value} (hg : P g) : Kq P w (w'.setCell ⟨g, i, none⟩ u) :=
  ⟨h.os, h.tape, h.output, by simpa using h.size, fun q hq hn => (Below.heap_setCell w' ⟨g, i, none⟩ u q (by show q ≠ g; intro e; exact hn (e ▸ hg))).trans (h.block q hq hn)⟩
theorem Kq.below {P : Nat → Prop} {w w' : World} {base : Nat} (h : Kq P w w') (hb : base ≤ w.heap.size) (hP : ∀ q, P q → base ≤ q) : Below base w w' :=
  ⟨h.os, h.tape, h.output, h.size, fun k hk => h.block k (by omega) (fun p => by have := hP k p; omega)⟩
/-- cells of a row that may be written -/
structure Rg (w : World) (g N : Nat) (f : Nat → Value) : Prop where
  lt : g < w.heap.size
  c : ∀ o, o < N → w.cell? ⟨g, o, none⟩ = some (f o)
  fz : ∀ o, w.frozen? ⟨g, o, none⟩ = false
theorem Rg.kept {w w' : World} {g N : Nat} {f : Nat → Value} (h : Rg w g N f) (hs : w.heap.size ≤ w'.heap.size) (e : w'.heap[g]? = w.heap[g]?) : Rg w' g N f :=
  ⟨Nat.lt_of_lt_of_le h.lt hs, fun o ho => (World.cell?_of_block (a := ⟨g, o, none⟩) e).trans (h.c o ho), fun o => (World.frozen?_of_block (a := ⟨g, o, none⟩) e).trans (h.fz o)⟩
theorem Rg.below {w w' : World} {g N : Nat} {f : Nat → Value} (h : Rg w g N f) (hb : Below w.heap.size w w') : Rg w' g N f := h.kept hb.size (hb.block g h.lt)
theorem Rg.set {w : World} {g N : Nat} {f : Nat → Value} (h : Rg w g N f) (j : Nat) (hj : j < N) (u : Value) : Rg (w.setCell ⟨g, j, none⟩ u) g N (fun o => if o = j then u else f o) := by
  refine ⟨by simpa using h.lt, fun o ho => ?_, fun o => by simpa using h.fz o⟩
  by_cases e : o = j
  · subst e; rw [if_pos rfl]; exact World.cell?_setCell_same _ _ _ (h.c o ho)
  · rw [if_neg e, set_off (fun q => e q.symm)]; exact h.c o ho
/-- allocs marked from k on -/
def mkA (k n : Nat) : List AlD := (List.range n).map fun i => ⟨mtT (k + 2 * i), mtT (k + 2 * i + 1)⟩
theorem mkA_len (k n : Nat) : (mkA k n).length = n := by simp [mkA]
theorem mkA_at (k n i : Nat) (h : i < n) : aA (mkA k n) i = ⟨mtT (k + 2 * i), mtT (k + 2 * i + 1)⟩ := by simp [aA, mkA, List.getD, h]
/-- cells of allocs, the first i marked -/
def mcA (L : List AlD) (k i o : Nat) : Value := if o < 2 * i then (if o % 2 = 0 then .string (mtT (k + o)) else .string (mtT (k + o))) else (if o % 2 = 0 then .string (aA L (o / 2)).i else .string (aA L (o / 2)).b)
theorem al_rg {w : World} {g : Nat} {L : List AlD} (h : Al w g 0 L) (hf : ∀ o, w.frozen? ⟨g, o, none⟩ = false) (k : Nat) : Rg w g (L.length * 2) (mcA L k 0) := by
  refine ⟨h.lt, fun o ho => ?_, hf⟩
  unfold mcA
  rw [if_neg (by omega)]
  by_cases e : o % 2 = 0
  · rw [if_pos e]
    have := h.ci (o / 2) (by omega)
    rw [show 0 + o / 2 * 2 = o by omega] at this
    exact this
  · rw [if_neg e]
    have := h.cb (o / 2) (by omega)
    rw [show 0 + o / 2 * 2 + 1 = o by omega] at this
    exact this
theorem rg_al {w : World} {g : Nat} {L : List AlD} {k : Nat} (h : Rg w g (L.length * 2) (mcA L k L.length)) : Al w g 0 (mkA k L.length) := by
  refine ⟨h.lt, fun i hi => ?_, fun i hi => ?_⟩
  · rw [mkA_len] at hi
    rw [mkA_at k _ i hi, Nat.zero_add, h.c (i * 2) (by omega)]
    unfold mcA
    rw [if_pos (by omega), if_pos (by omega), Nat.mul_comm]
  · rw [mkA_len] at hi
    rw [mkA_at k _ i hi, Nat.zero_add, h.c (i * 2 + 1) (by omega)]
    unfold mcA
    rw [if_pos (by omega), if_neg (by omega), Nat.mul_comm, Nat.add_assoc]
theorem mcA_step {w : World} {g : Nat} {L : List AlD} {k i : Nat} {a b : ByteArray} (ha : a = mtT (k + 2 * i)) (hb : b = mtT (k + 2 * i + 1)) (h : Rg w g (L.length * 2) (fun o => if o = i * 2 + 1 then .string b else if o = i * 2 then .string a else mcA L k i o)) : Rg w g (L.length * 2) (mcA L k (i + 1)) := by
  refine ⟨h.lt, fun o ho => ?_, h.fz⟩
  rw [h.c o ho]
  unfold mcA
  by_cases e1 : o = i * 2 + 1
  · subst e1
    rw [if_pos rfl, if_pos (by omega), if_neg (by omega), hb, show k + 2 * i + 1 = k + (i * 2 + 1) by omega]
  · rw [if_neg e1]
    by_cases e2 : o = i * 2
    · subst e2
      rw [if_pos rfl, if_pos (by omega), if_pos (by omega), ha, show k + 2 * i = k + i * 2 by omega]
    · rw [if_neg e2]
      by_cases e3 : o < 2 * i
      · rw [if_pos e3, if_pos (show o < 2 * (i + 1) by omega)]
      · rw [if_neg e3, if_neg (show ¬ o < 2 * (i + 1) by omega)]
set_option maxHeartbeats 2000000 in
theorem markAls (base g cap : Nat) (L : List AlD) (k0 : Nat) (w : World) (hn : L.length ≤ 1048576) (hk1 : 1 ≤ k0) (hk0 : k0 ≤ 100000000) (h : Ao base w g L) :
    Calls Try.prog 76 #[.slice (some ⟨g, 0, none⟩) L.length cap, .int .i64 k0] w fun e w' => e = .returned (.int .i64 ((k0 + 2 * L.length : Nat) : Int)) ∧ Ao base w' g (mkA k0 L.length) ∧ Kq (· = g) w w' := by
  have H0 := hide (al_rg h.al h.fz k0)
  have hge := h.ge
  clear h
  go_enter Try.func76, Try.ntmps76
  go_wp2
  go_loopw [1, 5] (fun kv iv wr => ∃ i : Nat, i ≤ L.length ∧ iv = .int .i64 i ∧ kv = .int .i64 ((k0 + 2 * i : Nat) : Int) ∧ Rg wr g (L.length * 2) (mcA L k0 i) ∧ Kq (· = g) w wr) (fun _ iv _ => L.length - (intOf iv).toNat)
  case atStart => exact ⟨0, Nat.zero_le _, rfl, rfl, unhide H0, Kq.refl _ _⟩
  case round =>
    obtain ⟨i, hi, rfl, rfl, hG, hK⟩ := hrel
    clear H0
    by_cases hlt : i < L.length
    · have hnk : (i : Int) < (L.length : Int) := by omega
      have M1 := hide (markText_any (k0 + 2 * i) (by omega) (by omega))
      have M2 := hide (markText_any (k0 + 2 * i + 1) (by omega) (by omega))
      generalize hm1 : mtT (k0 + 2 * i) = m1 at *
      generalize hm2 : mtT (k0 + 2 * i + 1) = m2 at *
      have HM1 := hide hm1
      have HM2 := hide hm2
      have HG := hide hG
      have HK := hide hK
      clear hG hK hm1 hm2
      obtain ⟨kk, hkk⟩ : ∃ kk : Nat, kk = k0 + 2 * i := ⟨_, rfl⟩
      have hkb : kk ≤ 200000000 := by omega
      rw [← hkk] at M1 M2 ⊢
      have hw1 : IntKind.i64.wrap ((kk : Int) + 1) = ((kk + 1 : Nat) : Int) := by rw [wraps_i64 _ (by omega) (by omega)]; omega
      have HKK := hide hkk
      clear hkk
      go_wp2_with fail
      refine (unhide M1 _).mono ?_
      rintro e w1 ⟨rfl, b1⟩
      have G1 := (unhide HG).below b1
      have c0 := G1.c (i * 2) (by omega)
      have f0 := G1.fz (i * 2)
      have hgl := G1.lt
      have G1' := hide (G1.set (i * 2) (by omega) (.string m1))
      have K1 := hide (((unhide HK).trans (Kq.of b1)).set (i := i * 2) (u := .string m1) (show g = g from rfl))
      clear G1 b1 HG HK
      go_wp2_with fail
      refine (unhide M2 _).mono ?_
      rintro e w2 ⟨rfl, b2⟩
      have G2 := (unhide G1').below b2
      have d0 := G2.c (i * 2 + 1) (by omega)
      have f1 := G2.fz (i * 2 + 1)
      have hgl2 := G2.lt
      have G2' := hide (mcA_step (unhide HM1).symm (unhide HM2).symm (G2.set (i * 2 + 1) (by omega) (.string m2)))
      have K2 := hide (((unhide K1).trans (Kq.of b2)).set (i := i * 2 + 1) (u := .string m2) (show g = g from rfl))
      clear G2 b2 G1' K1
      go_wp2
      exact ⟨⟨i + 1, by omega, by go_num, by have := unhide HKK; go_num, unhide G2', unhide K2⟩, by simp [intOf]; omega⟩
    · obtain rfl : i = L.length := by omega
      have F := hide (And.intro hG hK)
      clear hG hK
      go_wp2
      go_ret
      exact ⟨rfl, ⟨hge, rg_al (unhide F).1, (unhide F).1.fz⟩, (unhide F).2⟩
end Go.Proofs.Ytldjenhknejpnaa
