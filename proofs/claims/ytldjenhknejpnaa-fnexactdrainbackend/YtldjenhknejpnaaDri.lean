/-
  Contracts: the program's DrainBackend.
-/
import Derived.Test.YtldjenhknejpnaaBgd
import Derived.Test.YtldjenhknejpnaaDbk
namespace Go.Proofs.Ytldjenhknejpnaa
open Go.ChangeShapes Go.WideShapes Go.ChangeAt Go.RowKit Go.Deep Go.Maps
set_option linter.unusedVariables false
set_option maxRecDepth 100000

/-- the zero balancer -/
def zBl : BlD := ⟨[], [], 0, false, [], 0, 0⟩
/-- whether DrainBackend says yes -/
def drB (D : BlD) (x : ByteArray) : Bool := gbB D && dbB D.L x
/-- a balancer with other live ones -/
def wlD (D : BlD) (M : List ByteArray) : BlD := ⟨D.T, M, D.sh, D.re, D.K, D.lf, D.ve⟩
/-- what DrainBackend makes of a balancer -/
def drD (D : BlD) (x : ByteArray) : Bool → BlD
  | true => wlD D (dbM D.L x)
  | false => zBl
theorem Bg.zero {base s : Nat} (w : World) (h : base ≤ s) : Bg base s w none none none zBl :=
  ⟨base, base, base, base, base, base, ⟨Nat.le_refl _, Nat.le_refl _, h, Nat.le_refl _, Nat.le_refl _, h, Nat.le_refl _, Nat.le_refl _, h⟩, ⟨Or.inl (Nat.le_refl _), Or.inl (Nat.le_refl _), Or.inl (Nat.le_refl _)⟩, Or.inl rfl, Or.inl rfl, Or.inl rfl⟩
theorem Kq.lo {n : Nat} {w w' : World} (h : Kq (fun q => q < n) w w') {g i : Nat} {u : Value} (hg : g < n) : Kq (fun q => q < n) w (w'.setCell ⟨g, i, none⟩ u) := Kq.set h hg
/-- its answer -/
def DrP (D : BlD) (x : ByteArray) (w : World) (e : Ending) (w' : World) : Prop :=
  ∃ ta tc la lc ka kc, e = .returned (.tuple #[blV (drD D x (drB D x)) ta tc la lc ka kc, .bool (drB D x)]) ∧ Bg w.heap.size w'.heap.size w' ta la ka (drD D x (drB D x)) ∧ Below w.heap.size w w'
theorem gb_keys {D : BlD} (h : gbB D = true) : gtB D.T = true ∧ D.K.length ≤ 2 := by
  unfold gbB at h
  simp only [Bool.and_eq_true] at h
  refine ⟨h.1, ?_⟩
  have h3 := h.2.2.2.1
  unfold rtB at h3
  cases e : D.re with
  | true =>
    rw [e] at h3
    change gkB _ _ = true at h3
    unfold gkB at h3
    rw [Bool.and_eq_true] at h3
    exact (of_decide_eq_true h3.1).2
  | false =>
    rw [e] at h3
    have := of_decide_eq_true h3
    omega
set_option maxHeartbeats 4000000 in
theorem implDr (D : BlD) (ta la ka : Option Addr) (tc lc kc : Nat) (x : ByteArray) (w : World) (hs : smB D) (h : Bl w ta la ka D) :
    Calls Try.prog 12 #[blV D ta tc la lc ka kc, .string x] w (DrP D x w) := by
  have HG := hide (fun W (b : Below w.heap.size w W) => implGBl D ta la ka tc lc kc W hs (h.below b))
  have HD := hide (fun W (b : Below w.heap.size w W) => implDb la lc D.L x W hs.l hs.lz (h.l.kept b))
  unfold DrP drB
  cases hg : gbB D with
  | false =>
    rw [hg] at HG
    rw [Bool.false_and]
    clear h hs hg HD
    go_enter Try.func12, Try.ntmps12
    go_wp2_with fail
    refine (unhide HG _ (((Below.refl _ _).alloc (Nat.le_refl _) _).alloc (by simp) _)).mono ?_
    rintro e w1 ⟨rfl, b1⟩
    have R1 : Bx w1 (w.heap.size + 1) [.slice none 0 0, .slice none 0 0, .int .i64 0, .bool false, .slice none 0 0, .int .i64 0, .int .i64 0] := (Bx.newAt (w.alloc _) _ _ _ (by simp)).below b1
    have B1 := hide ((((Below.refl w.heap.size w).alloc (Nat.le_refl _) _).alloc (by simp) _).trans (b1.mono (by simp; omega)))
    have r1 := R1.cv
    have r2 := R1.fz
    clear R1 b1
    go_wp2
    refine bodyPost_ret (v := .tuple #[blV zBl none 0 none 0 none 0, .bool false]) (by simp [results, Try.results12, go_sem, r1, zBl]) rfl ⟨none, 0, none, 0, none, 0, rfl, Bg.zero _ ?_, ?_⟩
    · have := (unhide B1).size
      simp
      omega
    · iterate 7 refine Below.setCell ?_ (by simp) _
      exact unhide B1
  | true =>
    rw [hg] at HG
    rw [Bool.true_and]
    obtain ⟨hgt, hK2⟩ := gb_keys hg
    cases hd : dbB D.L x with
    | false =>
      rw [hd] at HD
      have hM : dbM D.L x = [] := by unfold dbM; rw [if_neg (by rw [hd]; exact Bool.false_ne_true)]
      rw [hM] at HD
      clear h hs hg hgt hK2 hM hd
      go_enter Try.func12, Try.ntmps12
      go_wp2_with fail
      refine (unhide HG _ (((Below.refl _ _).alloc (Nat.le_refl _) _).alloc (by simp) _)).mono ?_
      rintro e w1 ⟨rfl, b1⟩
      have A1 : Bx w1 w.heap.size (blC D ta tc la lc ka kc) := ((Bx.new w _ _).alloc _).below b1
      have R1 : Bx w1 (w.heap.size + 1) [.slice none 0 0, .slice none 0 0, .int .i64 0, .bool false, .slice none 0 0, .int .i64 0, .int .i64 0] := (Bx.newAt (w.alloc _) _ _ _ (by simp)).below b1
      have B1 := hide ((((Below.refl w.heap.size w).alloc (Nat.le_refl _) _).alloc (by simp) _).trans (b1.mono (by simp; omega)))
      have a1 := A1.cv
      have HR := hide R1
      clear R1 A1 b1
      go_wp2_with fail
      refine (unhide HD _ (unhide B1)).mono ?_
      rintro e w2 ⟨a2, c2, rfl, s2, b2⟩
      have B2 := hide ((unhide B1).trans (b2.mono (unhide B1).size))
      have r1 := ((unhide HR).below b2).cv
      have r2 := ((unhide HR).below b2).fz
      clear a1 b2 s2 HR B1
      go_wp2
      refine bodyPost_ret (v := .tuple #[blV zBl none 0 none 0 none 0, .bool false]) (by simp [results, Try.results12, go_sem, r1, zBl]) rfl ⟨none, 0, none, 0, none, 0, rfl, Bg.zero _ ?_, ?_⟩
      · have := (unhide B2).size
        simp
        omega
      · iterate 7 refine Below.setCell ?_ (by simp) _
        exact unhide B2
    | true =>
      rw [hd] at HD
      obtain ⟨hL3, hu, hwf⟩ := gt_facts hgt
      have hsm : smE D.T := fun i hi => ⟨(hs.e i hi).1, by have := gt_len hgt i hi; omega, (hs.e i hi).2.2⟩
      have HN := hide (fun W (b : Below w.heap.size w W) => slots_ok ta tc D.T W hs.ok hs.t.2.1 hsm hgt (h.t.below b))
      have HO := hide (fun W (b : Below w.heap.size w W) => ownTx ka kc D.K W (by omega) hs.kz (h.k.kept b))
      clear h hs hg hgt hsm hd
      unfold drD wlD
      generalize dbM D.L x = M at *
      go_enter Try.func12, Try.ntmps12
      go_wp2_with fail
      refine (unhide HG _ (((Below.refl _ _).alloc (Nat.le_refl _) _).alloc (by simp) _)).mono ?_
      rintro e w1 ⟨rfl, b1⟩
      have A1 : Bx w1 w.heap.size (blC D ta tc la lc ka kc) := ((Bx.new w _ _).alloc _).below b1
      have R1 : Bx w1 (w.heap.size + 1) [.slice none 0 0, .slice none 0 0, .int .i64 0, .bool false, .slice none 0 0, .int .i64 0, .int .i64 0] := (Bx.newAt (w.alloc _) _ _ _ (by simp)).below b1
      have B1 := hide ((((Below.refl w.heap.size w).alloc (Nat.le_refl _) _).alloc (by simp) _).trans (b1.mono (by simp; omega)))
      have z1 : w.heap.size + 1 + 1 ≤ w1.heap.size := by have := b1.size; simpa using this
      have a1 := A1.cv
      have HA := hide A1
      have HR := hide R1
      clear R1 A1 b1
      go_wp2_with fail
      refine (unhide HD _ (unhide B1)).mono ?_
      rintro e w2 ⟨a2, c2, rfl, s2, b2⟩
      have L2 := hide (Sn.si s2)
      have B2 := hide ((unhide B1).trans (b2.mono (unhide B1).size))
      have HA2 := hide ((unhide HA).below b2)
      have HR2 := hide ((unhide HR).below b2)
      have z2 : w1.heap.size ≤ w2.heap.size := b2.size
      have a2c := (unhide HA2).cv
      clear a1 b2 s2 HR HA B1
      go_wp2_with fail
      refine (unhide HN _ (unhide B2)).mono ?_
      rintro e w3 ⟨b, F, B, rfl, hM, hFk, b3⟩
      have hF := hFk.fl hu
      have L3 := hide ((unhide L2).below b3)
      have B3 := hide ((unhide B2).trans (b3.mono (unhide B2).size))
      have HA3 := hide ((unhide HA2).below b3)
      have HR3 := hide ((unhide HR2).below b3)
      have z3 : w2.heap.size ≤ w3.heap.size := b3.size
      have HT := hide (fun W (q : Below w3.heap.size w3 W) => tab_ok w2.heap.size b D.T.length F B D.T W (Nat.le_trans z3 q.size) (by omega) (hM.below q) hF hu hwf (by omega))
      have a3c := (unhide HA3).cv
      clear hM hFk hF hu hwf b3 a2c HA2 HR2 L2 B2 HN
      go_upto_region 7 with fail
      have DR := hide ((Below.refl w3.heap.size w3).drew)
      have DB := hide ((unhide B3).drew)
      have ad := (unhide HA3).drew.cv
      go_region_with (first | (go_at_call 36; refine (unhide HT _ (unhide DR)).mono ?_; rintro e w4 ⟨a4, c4, rfl, hE4, b4⟩; have a4c := ((unhide HA3).drew.below b4).cv) | (go_at_call 37; refine (unhide HO _ ((unhide DB).trans (b4.mono (unhide DB).size))).mono ?_; rintro e w5 ⟨v5, rfl, o5, b5⟩; obtain ⟨a5, c5, rfl, _, _, s5⟩ := o5.form; have a5c := (((unhide HA3).drew.below b4).below b5).cv; have a5f := (((unhide HA3).drew.below b4).below b5).fz))
      all_goals
        obtain ⟨V6, hV6⟩ : ∃ V, V = ((w5.setCell ⟨w.heap.size, 0, none⟩ (.slice a4 D.T.length c4)).setCell ⟨w.heap.size, 1, none⟩ (.slice a2 M.length c2)).setCell ⟨w.heap.size, 4, none⟩ (.slice a5 D.K.length c5) := ⟨_, rfl⟩
        have A6 : Bx V6 w.heap.size [.slice a4 D.T.length c4, .slice a2 M.length c2, .int .i64 D.sh, .bool D.re, .slice a5 D.K.length c5, .int .i64 D.lf, .int .i64 D.ve] := by rw [hV6]; exact (((((unhide HA3).drew.below b4).below b5).set (i := 0) (by simp)).set (i := 1) (by simp)).set (i := 4) (by simp)
        have R6 : Bx V6 (w.heap.size + 1) [.slice none 0 0, .slice none 0 0, .int .i64 0, .bool false, .slice none 0 0, .int .i64 0, .int .i64 0] := by rw [hV6]; exact (((((unhide HR3).drew.below b4).below b5).other (by omega)).other (by omega)).other (by omega)
        have D4 := (unhide DB).trans (b4.mono (unhide DB).size)
        have D5 := D4.trans (b5.mono D4.size)
        have B6 := hide (show Below w.heap.size w V6 by rw [hV6]; exact ((D5.setCell (Nat.le_refl _) _).setCell (Nat.le_refl _) _).setCell (Nat.le_refl _) _)
        have K6 : Kq (fun q => q < w.heap.size + 1 + 1) w5 V6 := by rw [hV6]; exact (((Kq.refl _ _).lo (by omega)).lo (by omega)).lo (by omega)
        have z4 : w3.heap.size ≤ w4.heap.size := by have := b4.size; simpa using this
        have z5 : w4.heap.size ≤ w5.heap.size := b5.size
        have FIN : Hid (∀ W9, Kq (fun q => q < w.heap.size + 1 + 1) V6 W9 → Bw w.heap.size W9.heap.size W9 a4 a2 a5 D.T M.length (tA M) D.K.length (tA D.K)) := fun W9 k9 => by
          have k := K6.trans k9
          have z9 := k.size
          exact ⟨w2.heap.size, w4.heap.size, w1.heap.size, w2.heap.size, w4.heap.size, w5.heap.size, by omega, by omega, ((En.eg hE4).below b5).apart k (fun q hq => Or.inl (by omega)), ((((unhide L3).below (Below.refl _ _).drew).below b4).below b5).kq k (fun q hq => Or.inl (by omega)), (Sn.si s5).kq k (fun q hq => Or.inl (by omega))⟩
        have a6 := A6.cv
        have r6 := R6.cv
        have f6 := R6.fz
        rw [← hV6]
        clear hV6 A6 R6 D4 D5 K6 a5c a5f a4c b4 b5 hE4 o5 s5 ad a3c DR DB
        go_wp2
        refine bodyPost_ret (v := .tuple #[blV ⟨D.T, M, D.sh, D.re, D.K, D.lf, D.ve⟩ a4 c4 a2 c2 a5 c5, .bool true]) (by simp [results, Try.results12, go_sem, r6]) rfl ⟨a4, c4, a2, c2, a5, c5, rfl, unhide FIN _ ?_, ?_⟩
        · iterate 7 refine Kq.set ?_ (by simp)
          exact Kq.refl _ _
        · iterate 7 refine Below.setCell ?_ (by simp) _
          exact unhide B6
end Go.Proofs.Ytldjenhknejpnaa
