/-
  Rows of numbers that the call owns; the versions at a text's end, as the program reads them.
-/
import Derived.Test.YtbabipaipbjlbaaPrfX
import Derived.Deep.AppendLies
import Derived.Deep.Cut
import Derived.Laws.OwnMore
namespace Go.Proofs.Ytbabipaipbjlbaa
open Go.ChangeShapes Go.WideShapes Go.ChangeAt Go.RowKit
set_option linter.unusedVariables false
set_option maxRecDepth 100000

theorem Oi.kx {base cb : Nat} {w w' : World} {v : Value} {n : Nat} {V : Nat → Int} (h : Oi base w v n V) (hb : Kx cb w w') (hc : cb < base) : Oi base w' v n V := by
  refine ⟨h.1, ?_⟩
  rcases h.2 with hn | ⟨g, cap, cur, rfl, hg, hgg, rest⟩
  · exact .inl hn
  · refine .inr ⟨g, cap, cur, rfl, hg, ?_, rest⟩
    rw [hb.block g (Array.getElem?_eq_some_iff.1 hgg).1 (by omega)]
    exact hgg
theorem Cc.behind {w w' : World} {cb p B : Nat} {s : ByteArray} {told : Int} (h : Cc w cb s p told) (hb : Below B w w') (hc : cb < B) : Cc w' cb s p told :=
  have e : w'.heap[cb]? = w.heap[cb]? := hb.block cb hc
  ⟨Nat.lt_of_lt_of_le h.lt hb.size, (World.cell?_of_block (a := ⟨cb, 0, none⟩) e).trans h.c0, (World.cell?_of_block (a := ⟨cb, 1, none⟩) e).trans h.c1, (World.cell?_of_block (a := ⟨cb, 2, none⟩) e).trans h.c2, fun o => (World.frozen?_of_block (a := ⟨cb, o, none⟩) e).trans (h.fz o)⟩
theorem Kx.behind {cb : Nat} {a w w' : World} (h : Kx cb a w) (hb : Below a.heap.size w w') : Kx cb a w' :=
  ⟨hb.os.trans h.os, hb.tape.trans h.tape, hb.output.trans h.output, Nat.le_trans h.size hb.size, fun i hi hne => (hb.block i hi).trans (h.block i hi hne)⟩
/-- a number laid to be put behind a row -/
theorem pushed (base cb : Nat) (a : Option Addr) (k cap : Nat) (w W w1 : World) (x : Int) (V : Nat → Int) (hb : base ≤ W.heap.size) (hcb : cb < base) (hO : Oi base W (.slice a k cap) k V) (k1 : Kx cb W w1) :
    Hid ((w1.alloc (.cells #[.int .i64 x] 3)).ownsRow base 3 1 (.slice a k cap) k (iv k V)) ∧ Hid ((w1.alloc (.cells #[.int .i64 x] 3)).heap.size = w1.heap.size + 1) ∧
    Hid (∀ j u, ([.int .i64 x] : List Value)[j]? = some u → (w1.alloc (.cells #[.int .i64 x] 3)).cell? ((⟨w1.heap.size, 0, none⟩ : Addr).add j) = some u) ∧ Hid (∀ u ∈ ([.int .i64 x] : List Value), u.oneCell' = true) := by
  refine ⟨(hO.kx k1 hcb).kx (cb := cb) (Kx.of ((Below.refl _ _).alloc (Nat.le_refl _) _)) hcb, by show _ = _; simp, fun j u hu => ?_, fun u hu => ?_⟩
  · cases j with
    | zero => simp at hu; subst hu; simp [Addr.add]
    | succ j => simp at hu
  · simp at hu; subst hu; rfl

/-- the k-th word behind p -/
def wdA (s : ByteArray) (p k : Nat) : Int := big 0 (s.extract (p + 4 * k) (p + 4 * k + 4)).data.toList
abbrev vG (s : ByteArray) (p : Nat) : Prop := ∃ m, 1 ≤ m ∧ m ≤ 20 ∧ s.size = p + 4 * m
def VQ (cb : Nat) (w : World) (s : ByteArray) (p : Nat) (told : Int) (e : Ending) (w' : World) : Prop :=
  (∃ m v, 1 ≤ m ∧ m ≤ 20 ∧ s.size = p + 4 * m ∧ e = .returned v ∧ Oi w.heap.size w' v m (wdA s p) ∧ Cc w' cb s s.size told ∧ Kx cb w w') ∨ (¬ vG s p ∧ Bad cb w e w')
set_option maxHeartbeats 2000000 in
theorem vers_any (cb p : Nat) (s : ByteArray) (told : Int) (w : World) (hs : s.size ≤ 1048576) (hp : p ≤ s.size) (h : Cc w cb s p told) :
    Calls Try.prog 98 #[.pointer (some ⟨cb, 0, none⟩)] w (VQ cb w s p told) := by
  by_cases h4 : s.size < p + 4
  · have HW := hide (word_short cb p s told w hs hp h4 h)
    have hN : ¬ vG s p := by rintro ⟨m, h1, h2, h3⟩; omega
    clear h
    go_enter Try.func98, Try.ntmps98
    go_wp2_with (go_at_call 69; refine (unhide HW).mono ?_; rintro e w1 ⟨rfl, k1⟩)
    exact ⟨rfl, Or.inr ⟨hN, Bad.one rfl (Kx.of k1)⟩⟩
  have HW := hide (word_ok cb p s told w hs (by omega) h)
  change Hid (Calls Try.prog 69 #[.pointer (some ⟨cb, 0, none⟩)] w fun e w' => e = .returned (.int .i64 (wdA s p 0)) ∧ Cc w' cb s (p + 4) told ∧ Kx cb w w') at HW
  have hcb := h.lt
  clear h
  go_enter Try.func98, Try.ntmps98
  go_wp2_with (go_at_call 69; refine (unhide HW).mono ?_; rintro e w1 ⟨rfl, h1, k1⟩)
  have H0 : Hid (Cc (w1.alloc (.cells #[.int .i64 (wdA s p 0)] 3)) cb s (p + 4) told) := h1.below ((Below.refl _ _).alloc (Nat.le_refl _) _)
  have K0 : Hid (Kx cb w (w1.alloc (.cells #[.int .i64 (wdA s p 0)] 3))) := k1.alloc _
  have O0 : Hid (Oi w.heap.size (w1.alloc (.cells #[.int .i64 (wdA s p 0)] 3)) (.slice (some ⟨w1.heap.size, 0, none⟩) 1 1) 1 (wdA s p)) := Oi.lit w.heap.size w1 (wdA s p) k1.size
  clear h1 k1 HW
  obtain ⟨i0, hi, hz0, hz1, hz2⟩ := infoI_parts
  go_loopw [3] (fun u wr => ∃ k : Nat, 1 ≤ k ∧ k ≤ 20 ∧ p + 4 * k ≤ s.size ∧ Cc wr cb s (p + 4 * k) told ∧ Kx cb w wr ∧ Oi w.heap.size wr u k (wdA s p)) (fun _ wr => match wr.cell? ⟨cb, 1, none⟩ with | some i => s.size - (intOf i).toNat | none => 0)
  case atStart => exact ⟨1, by omega, by omega, by omega, unhide H0, unhide K0, unhide O0⟩
  case round =>
    obtain ⟨k, hk1, hk2, hk3, hC, hK, hO⟩ := hrel
    have HQ : Hid (∃ q, q = p + 4 * k) := ⟨_, rfl⟩
    obtain ⟨q, hq⟩ := unhide HQ
    rw [← hq] at hC hk3
    have c0 := hC.c0
    have c1 := hC.c1
    obtain ⟨a, cap, rfl⟩ := hO.opens
    have HC := hide hC
    have HK := hide hK
    have HO := hide hO
    have HE := hide hq
    have HM := hide c1
    have hwl := hK.size
    clear H0 K0 O0 hC hK hO hq HQ
    by_cases hlt : q < s.size
    · go_wp2_with fail
      go_quiet (fail)
      all_goals
        replace HC := hide ((unhide HC).below (below_drewN (Below.refl _ _) nq))
        replace HK := hide ((unhide HK).trans (Kx.of (below_drewN (Below.refl _ _) nq)))
        replace HO := hide ((unhide HO).kx (Kx.of (cb := cb) (below_drewN (Below.refl _ _) nq)) hcb)
        replace hwl : w.heap.size ≤ (wr.drewN nq).heap.size := by simpa using hwl
        clear c0 c1
        generalize wr.drewN nq = W at HC HK HO hwl ⊢
        by_cases h20 : k = 20
        · subst h20
          have hN : Hid (¬ vG s p) := by rintro ⟨m, h1, h2, h3⟩; have := unhide HE; omega
          go_wp2_with fail
          exact ⟨rfl, Or.inr ⟨unhide hN, Bad.three rfl (unhide HK)⟩⟩
        by_cases h5 : s.size < q + 4
        · have hN : Hid (¬ vG s p) := by rintro ⟨m, h1, h2, h3⟩; have := unhide HE; omega
          have HW := hide (word_short cb q s told W hs hk3 h5 (unhide HC))
          go_wp2_with (go_at_call 69; refine (unhide HW).mono ?_; rintro e w1 ⟨rfl, k1⟩)
          exact ⟨rfl, Or.inr ⟨unhide hN, Bad.one rfl ((unhide HK).trans (Kx.of k1))⟩⟩
        · have HW := hide (word_ok cb q s told W hs (by omega) (unhide HC))
          have HX : Hid (big 0 (s.extract q (q + 4)).data.toList = wdA s p k) := by unfold wdA; rw [unhide HE]; exact rfl
          rw [unhide HX] at HW
          generalize hx : wdA s p k = x at HW
          have HX := hide hx
          clear hx
          have HP := hide (fun (w1 : World) (h1 : Cc w1 cb s (q + 4) told) (k1 : Kx cb W w1) => pushed w.heap.size cb a k cap w W w1 x _ hwl hcb (unhide HO) k1)
          go_wp2_with (first | (go_at_call 69; refine (unhide HW).mono ?_; rintro e w1 ⟨rfl, h1, k1⟩; obtain ⟨HO3, hz3, hnew, hone⟩ := unhide HP w1 h1 k1; have H1 := hide h1; have K1 := hide k1; clear h1 k1) | (at_builtin; refine wpList_append_lies _ rfl _ _ 47 rfl w.heap.size 3 i0 (.int .i64 0) 1 8 Try.underlying47 hi hz0 hz1 hz2 rfl (by decide) _ _ _ rfl (unhide HO3) ⟨w1.heap.size, 0, none⟩ 1 1 [.int .i64 x] rfl rfl (unhide hnew) (unhide hone) (by omega) ?c3 ?c4 ?c5 (w1.heap.size + 1) (unhide hz3) ?_))
          case c3 => unfold maxLen; omega
          case c4 => have := unhide hz3; have := (unhide K1).size; omega
          case c5 => have := unhide hz3; have := (unhide K1).size; omega
          intro g cap' w' hown hgrow hat hlt'
          have R1 : Hid (Oi w.heap.size w' (.slice (some ⟨g, 0, none⟩) (k + 1) cap') (k + 1) (wdA s p)) := by
            show w'.ownsRow _ _ _ _ _ _
            rw [← iv_succ, unhide HX]
            exact hown
          have B1 := Oi.below (V := wdA s p) (unhide HO3) hgrow (by have := unhide hz3; have := (unhide K1).size; omega)
          have R2 : Hid (Cc w' cb s (q + 4) told) := ((unhide H1).below ((Below.refl _ _).alloc (Nat.le_refl _) _)).behind B1 hcb
          have R3 : Hid (Kx cb w w') := (((unhide HK).trans (unhide K1)).alloc _).behind B1
          have ME : Hid ((match w'.cell? ⟨cb, 1, none⟩ with | some i => s.size - (intOf i).toNat | none => 0) < (match wr.cell? ⟨cb, 1, none⟩ with | some i => s.size - (intOf i).toNat | none => 0)) := by
            rw [unhide HM, (unhide R2).c1]
            show s.size - ((q + 4 : Nat) : Int).toNat < s.size - (q : Int).toNat
            omega
          have h6 := unhide HE
          clear hown hgrow hat B1 HO3 hnew hone HP HW HX H1 K1 HK HO HC
          go_wp2
          exact ⟨⟨k + 1, by omega, by omega, by omega, by have := unhide R2; rwa [show q + 4 = p + 4 * (k + 1) by omega] at this, unhide R3, unhide R1⟩, unhide ME⟩
    · have hN : Hid (s.size = p + 4 * k) := by have := unhide HE; show s.size = _; omega
      have hz : Hid (q = s.size) := by show q = _; omega
      go_wp2_with fail
      go_quiet (fail)
      all_goals
        replace HC := hide ((unhide HC).below (below_drewN (Below.refl _ _) nq))
        replace HK := hide ((unhide HK).trans (Kx.of (below_drewN (Below.refl _ _) nq)))
        replace HO := hide ((unhide HO).kx (Kx.of (cb := cb) (below_drewN (Below.refl _ _) nq)) hcb)
        clear c0 c1
        generalize wr.drewN nq = W at HC HK HO ⊢
        go_wp2
        go_ret
        exact Or.inl ⟨k, _, hk1, hk2, unhide hN, rfl, unhide HO, by rw [← unhide hz]; exact unhide HC, unhide HK⟩
end Go.Proofs.Ytbabipaipbjlbaa
