/-
  Contract of the program: the closure that reads capsules one behind the other.
-/
import Derived.Test.YtgieglpjkjncfabDoorCpc
import Derived.Deep.RegionLaw
import Derived.Deep.DeepCutAuto
import Derived.Deep.RegionHeld
namespace Go.Proofs.YtgieglpjkjncfabDoor.Rc
open Go.ChangeShapes Go.WideShapes Go.ChangeAt Go.RowKit Go.Deep
set_option linter.unusedVariables false
set_option maxRecDepth 100000

/-- where the cursor is -/
def atN (w : World) (cb : Nat) : Nat := match w.cell? ⟨cb, 1, none⟩ with | some (.int _ n) => n.toNat | _ => 0
theorem atN_is {w : World} {cb p : Nat} {s : ByteArray} {told : Int} (h : Cc w cb s p told) : atN w cb = p := by
  unfold atN
  rw [h.c1]
  simp
theorem kx_bx {cb b : Nat} {w w' : World} {xs : List Value} (h : Bx w b xs) (k : Kx cb w w') (hne : b ≠ cb) : Bx w' b xs := h.kept k.size (k.block b h.lt hne)
theorem cc_new {w : World} {cb p b o : Nat} {s : ByteArray} {told : Int} {u : Value} (h : Cc w cb s p told) (hne : b ≠ cb) : Cc (w.setCell ⟨b, o, none⟩ u) cb s p told := h.kept16 (fun e => hne e.symm) u o
theorem kx_q3 {cb : Nat} {w w' : World} (h : Kx cb w w') (bl bz : Nat) : Kq (fun q => q = cb ∨ q = bl ∨ q = bz) w w' := ⟨h.os, h.tape, h.output, h.size, fun q hq hn => h.block q hq (fun e => hn (Or.inl e))⟩
/-- how reading stands: the cursor, the boxes, the row, what the whole ones take -/
structure Ws (w0 w : World) (cb bc bv bl bz : Nat) (s : ByteArray) (told : Int) (p n : Nat) (out : List CapsuleD) : Prop where
  cc : Cc w cb s p told
  hc : Bx w bc [.pointer (some ⟨cb, 0, none⟩)]
  hv : Bx w bv [.string s]
  hz : Bx w bz [.int .i64 (n : Int)]
  row : ∃ v, Bx w bl [v] ∧ Ro capsuleK 30 w0.heap.size w v out
  kq : Kq (fun q => q = cb ∨ q = bl ∨ q = bz) w0 w
theorem Ws.below {w0 w w' : World} {cb bc bv bl bz p n : Nat} {s : ByteArray} {told : Int} {out : List CapsuleD} (h : Ws w0 w cb bc bv bl bz s told p n out) (b : Below w.heap.size w w') : Ws w0 w' cb bc bv bl bz s told p n out := by
  obtain ⟨v, h1, h2⟩ := h.row
  exact ⟨h.cc.below b, h.hc.below b, h.hv.below b, h.hz.below b, ⟨v, h1.below b, h2.below b⟩, h.kq.trans (Kq.of b)⟩
/-- what reading all comes to -/
def W1P (cb bl bz : Nat) (w0 : World) (r : List CapsuleD × Nat × Bool) (e : Ending) (w' : World) : Prop :=
  (∃ c : Int, (c = 0 ∧ e = .returned (.tuple #[]) ∨ e = gives c) ∧ (c = 0 ∨ c = 1 ∨ c = 3) ∧ r.2.2 = decide (c ≠ 3)) ∧ ∃ v, Bx w' bl [v] ∧ Ro capsuleK 30 w0.heap.size w' v r.1 ∧ Bx w' bz [.int .i64 (r.2.1 : Int)] ∧ Kq (fun q => q = cb ∨ q = bl ∨ q = bz) w0 w'
/-- one more is put behind, and stored -/
theorem ws_push {w0 w1 w2 : World} {cb bc bv bl bz p q n : Nat} {s : ByteArray} {told : Int} {out : List CapsuleD} {a : Option Addr} {cap : Nat} (D : CapsuleD) (h1 : cb ≠ bc ∧ cb ≠ bv ∧ cb ≠ bl ∧ cb ≠ bz ∧ bc ≠ bl ∧ bv ≠ bl ∧ bz ≠ bl ∧ bc ≠ bz ∧ bv ≠ bz)
    (hlo : cb < w0.heap.size ∧ bc < w0.heap.size ∧ bv < w0.heap.size ∧ bl < w0.heap.size ∧ bz < w0.heap.size) (ho : out.length ≤ 1048576)
    (F : Ws w0 w1 cb bc bv bl bz s told p n out) (hbl : Bx w1 bl [.slice a out.length cap]) (hro : Ro capsuleK 30 w0.heap.size w1 (.slice a out.length cap) out) (c2 : Cc w2 cb s q told) (k2 : Kx cb w1 w2) :
    ∃ a3 n3 c3 w3, (Builtin.append_ #[23, 23] 23 #[.slice a out.length cap, .slice (some ⟨w2.heap.size, 0, none⟩) 1 1]).run Tryd.prog (w2.alloc (.cells #[.int .i64 D.f0, .string D.f1] 30)) = .ok (.slice a3 n3 c3) w3 ∧ Bx w3 bl [.slice a out.length cap] ∧ Ws w0 (w3.setCell ⟨bl, 0, none⟩ (.slice a3 n3 c3)) cb bc bv bl bz s told q n (out ++ [D]) := by
  have hs1 := F.kq.size
  have hs2 := k2.size
  have hro2 : Ro capsuleK 30 w0.heap.size w2 (.slice a out.length cap) out := hro.kq (kx_q3 k2 cb cb) (fun q hq => by omega)
  have hbl2 := kx_bx hbl k2 (by omega)
  have hc2 := kx_bx F.hc k2 (by omega)
  have hv2 := kx_bx F.hv k2 (by omega)
  have hz2 := kx_bx F.hz k2 (by omega)
  obtain ⟨v3, w3, r3, o3, b3, kp⟩ := pushCapsule w2 w0.heap.size (.slice a out.length cap) out D hro2 (by omega) (by omega)
  obtain ⟨a3, c3, rfl⟩ := o3.opens
  have low : ∀ q, q < w0.heap.size → w3.heap[q]? = w2.heap[q]? := fun q hq => b3.block q hq
  have up : ∀ {b : Nat} {xs : List Value}, b < w0.heap.size → Bx w2 b xs → Bx w3 b xs := fun {b xs} hb h => h.kept b3.size (low b hb)
  have x3 := up hlo.2.2.2.1 hbl2
  refine ⟨a3, _, c3, w3, r3, x3, ⟨?_, (up hlo.2.1 hc2).other (by omega), (up hlo.2.2.1 hv2).other (by omega), (up hlo.2.2.2.2 hz2).other (by omega), ⟨_, x3.set (i := 0) (by simp), ?_⟩, ?_⟩⟩
  · refine cc_new ?_ (by omega)
    have e := low cb hlo.1
    exact ⟨Nat.lt_of_lt_of_le c2.lt b3.size, (World.cell?_of_block (a := ⟨cb, 0, none⟩) e).trans c2.c0, (World.cell?_of_block (a := ⟨cb, 1, none⟩) e).trans c2.c1, (World.cell?_of_block (a := ⟨cb, 2, none⟩) e).trans c2.c2, fun o => (World.frozen?_of_block (a := ⟨cb, o, none⟩) e).trans (c2.fz o)⟩
  · exact o3.kq ((Kq.refl (fun q => q = bl) w3).set rfl) (fun q hq => by omega)
  · have k2' := F.kq.trans (kx_q3 k2 bl bz)
    have k3 : Kq (fun q => q = cb ∨ q = bl ∨ q = bz) w0 w3 := ⟨b3.os.trans k2'.os, b3.tape.trans k2'.tape, b3.output.trans k2'.output, Nat.le_trans k2'.size b3.size, fun q hq hn => (low q hq).trans (k2'.block q hq hn)⟩
    exact k3.set (Or.inr (Or.inl rfl))
/-- how many bytes they take is stored -/
theorem ws_size {w0 w1 : World} {cb bc bv bl bz p n : Nat} {s : ByteArray} {told : Int} {out : List CapsuleD} (h1 : cb ≠ bc ∧ cb ≠ bv ∧ cb ≠ bl ∧ cb ≠ bz ∧ bc ≠ bl ∧ bv ≠ bl ∧ bz ≠ bl ∧ bc ≠ bz ∧ bv ≠ bz) (hlo : bz < w0.heap.size)
    (F : Ws w0 w1 cb bc bv bl bz s told p n out) (m : Nat) : Ws w0 (w1.setCell ⟨bz, 0, none⟩ (.int .i64 (m : Int))) cb bc bv bl bz s told p m out := by
  obtain ⟨v, x, r⟩ := F.row
  exact ⟨cc_new F.cc (by omega), F.hc.other (by omega), F.hv.other (by omega), F.hz.set (i := 0) (by simp), ⟨v, x.other (by omega), r.kq ((Kq.refl (fun q => q = bz) w1).set rfl) (fun q hq => by omega)⟩, F.kq.set (Or.inr (Or.inr rfl))⟩
set_option maxHeartbeats 8000000 in
theorem implW1 (cb bc bv bl bz : Nat) (s : ByteArray) (told : Int) (w0 : World) (hs : s.size ≤ 1048576) (h1 : cb ≠ bc ∧ cb ≠ bv ∧ cb ≠ bl ∧ cb ≠ bz ∧ bc ≠ bl ∧ bv ≠ bl ∧ bz ≠ bl ∧ bc ≠ bz ∧ bv ≠ bz) (hlo : cb < w0.heap.size ∧ bc < w0.heap.size ∧ bv < w0.heap.size ∧ bl < w0.heap.size ∧ bz < w0.heap.size) (h : Ws w0 w0 cb bc bv bl bz s told 0 0 []) :
    Calls Tryd.prog 62 #[.pointer (some ⟨bc, 0, none⟩), .pointer (some ⟨bv, 0, none⟩), .pointer (some ⟨bl, 0, none⟩), .pointer (some ⟨bz, 0, none⟩)] w0 (W1P cb bl bz w0 (wh (dr s 0))) := by
  have H0 := hide h
  clear h
  go_enter Tryd.func62, Tryd.ntmps62
  go_wp2_with fail
  go_loopw [] (fun wr => ∃ (p : Nat) (out : List CapsuleD), p ≤ s.size ∧ out.length ≤ p ∧ Hid (Ws w0 wr cb bc bv bl bz s told p p out) ∧ Hid (wh (dr s 0) = (out ++ (wh (dr s p)).1, p + (wh (dr s p)).2.1, (wh (dr s p)).2.2))) (fun wr => s.size - atN wr cb)
  case atStart => exact ⟨0, [], Nat.zero_le _, by simp, H0, by show _ = _; simp⟩
  case round =>
    obtain ⟨p, out, hp, hout, HF, HR⟩ := hrel
    clear H0
    have HA := hide (atN_is (unhide HF).cc)
    by_cases hlt : p < s.size
    · have hI : (p : Int) < (s.size : Int) := by omega
      have c0 := (unhide HF).cc.c0
      have c1 := (unhide HF).cc.c1
      have cl0 := (unhide HF).cc.lt
      have x1 := (unhide HF).hc.cv
      have x1l := (unhide HF).hc.lt
      have x2 := (unhide HF).hv.cv
      have x2l := (unhide HF).hv.lt
      have HBN := hide (fun n => below_drewN (Below.refl wr.heap.size wr) n)
      go_upto_region 0 with fail
      go_cut [10] (fun x wx => x = .bool true ∧ Hid (Below wr.heap.size wr wx))
      case first =>
        go_quiet (fail)
        all_goals
          go_wp2
          go_meet
          exact ⟨rfl, unhide HBN _⟩
      case rest =>
      obtain ⟨rfl, HB⟩ := hcut
      obtain ⟨w1, hw1⟩ : ∃ V, V = wc := ⟨_, rfl⟩
      rw [← hw1] at HB ⊢
      clear hw1 c0 c1 cl0 x1 x1l x2 x2l HBN
      have F1 := hide ((unhide HF).below (unhide HB))
      have HA1 := hide (atN_is (unhide F1).cc)
      obtain ⟨v, hbl, hro⟩ := (unhide F1).row
      obtain ⟨a, cap, rfl⟩ := hro.opens
      have y0 := hbl.cv
      have yl := hbl.lt
      have yf := hbl.fz
      have x0 := (unhide F1).hc.cv
      have xl := (unhide F1).hc.lt
      go_upto_region 1 with fail
      cases ho : rd1 (dr s p) with
      | none =>
          have HR3 := hide (show wh (dr s 0) = (out ++ [], p, false) by rw [unhide HR, wh_bad ho]; rfl)
          have HFE : Hid (∀ W, Below w1.heap.size w1 W → Calls Tryd.prog 63 #[.pointer (some ⟨cb, 0, none⟩)] W fun e w' => e = gives 3 ∧ Kx cb W w') := fun W hd => by
            have h9 := implCap cb p s told W hs hp ((unhide F1).cc.below hd)
            rw [ho] at h9
            exact h9
          have HZ := hide (fun W w2 (hd : Below w1.heap.size w1 W) (k2 : Kx cb W w2) => show W1P cb bl bz w0 (wh (dr s 0)) (gives 3) w2 by
            rw [unhide HR3]
            exact ⟨⟨3, Or.inr rfl, by omega, by simp⟩, _, kx_bx (hbl.below hd) k2 (by omega), (by rw [List.append_nil]; exact (hro.below hd).kq (kx_q3 k2 bl bz) (fun q hq => by omega)), (by have := kx_bx ((unhide F1).hz.below hd) k2 (by omega); exact this), ((unhide F1).kq.trans (Kq.of hd)).trans (kx_q3 k2 bl bz)⟩)
          have HBL := hide hbl
          have HCL := hide (unhide F1).hc
          clear hbl hro y0 yl yf x0 xl
          refine wp_region_held_drew (S := fun V => Below w1.heap.size w1 V) (by kernel_rfl) ((Below.refl _ _).drew) (fun hHeld => ?_)
          refine wpAnyH_take (i := 0) (v := ?_) rfl (by kernel_rfl) (by kernel_rfl) (by kernel_rfl) (fun _ _ _ h => h) (Or.inl ⟨by rfl, ?_⟩) hHeld ?_
          rotate_left
          · intro V hSw; have y1 := (Bx.below (unhide HBL) hSw).cv; have y2 := (Bx.below (unhide HBL) hSw).lt; go_simp; rfl
          try simp only [Act.put, List.getElem_toArray, List.getElem_cons_zero, List.setIfInBounds_toArray, List.set_cons_zero, List.set_cons_succ]
          refine wpAnyH_take (i := 1) (v := ?_) rfl (by kernel_rfl) (by kernel_rfl) (by kernel_rfl) (fun _ _ _ h => h) (Or.inl ⟨by rfl, ?_⟩) hHeld ?_
          rotate_left
          · intro V hSw; have y1 := (Bx.below (unhide HCL) hSw).cv; have y2 := (Bx.below (unhide HCL) hSw).lt; go_simp; rfl
          try simp only [Act.put, List.getElem_toArray, List.getElem_cons_succ, List.getElem_cons_zero, List.setIfInBounds_toArray, List.set_cons_zero, List.set_cons_succ]
          refine wpAnyH_ready (rs := [2]) (by kernel_rfl) (by simp) ?_
          refine (AllReadyH.cons rfl (fun K hK => ?_) AllReadyH.nil)
          go_simp
          go_at_call 63
          refine (unhide HFE _ hHeld).mono ?_
          rintro e w2 ⟨rfl, k2⟩
          exact ⟨rfl, unhide HZ _ w2 hHeld k2⟩
      | some o =>
        cases o with
        | none =>
          have HR3 := hide (show wh (dr s 0) = (out ++ [], p, true) by rw [unhide HR, wh_lack ho]; rfl)
          have HFE : Hid (∀ W, Below w1.heap.size w1 W → Calls Tryd.prog 63 #[.pointer (some ⟨cb, 0, none⟩)] W fun e w' => e = gives 1 ∧ Kx cb W w') := fun W hd => by
            have h9 := implCap cb p s told W hs hp ((unhide F1).cc.below hd)
            rw [ho] at h9
            exact h9
          have HZ := hide (fun W w2 (hd : Below w1.heap.size w1 W) (k2 : Kx cb W w2) => show W1P cb bl bz w0 (wh (dr s 0)) (gives 1) w2 by
            rw [unhide HR3]
            exact ⟨⟨1, Or.inr rfl, by omega, by simp⟩, _, kx_bx (hbl.below hd) k2 (by omega), (by rw [List.append_nil]; exact (hro.below hd).kq (kx_q3 k2 bl bz) (fun q hq => by omega)), (by have := kx_bx ((unhide F1).hz.below hd) k2 (by omega); exact this), ((unhide F1).kq.trans (Kq.of hd)).trans (kx_q3 k2 bl bz)⟩)
          have HBL := hide hbl
          have HCL := hide (unhide F1).hc
          clear hbl hro y0 yl yf x0 xl
          refine wp_region_held_drew (S := fun V => Below w1.heap.size w1 V) (by kernel_rfl) ((Below.refl _ _).drew) (fun hHeld => ?_)
          refine wpAnyH_take (i := 0) (v := ?_) rfl (by kernel_rfl) (by kernel_rfl) (by kernel_rfl) (fun _ _ _ h => h) (Or.inl ⟨by rfl, ?_⟩) hHeld ?_
          rotate_left
          · intro V hSw; have y1 := (Bx.below (unhide HBL) hSw).cv; have y2 := (Bx.below (unhide HBL) hSw).lt; go_simp; rfl
          try simp only [Act.put, List.getElem_toArray, List.getElem_cons_zero, List.setIfInBounds_toArray, List.set_cons_zero, List.set_cons_succ]
          refine wpAnyH_take (i := 1) (v := ?_) rfl (by kernel_rfl) (by kernel_rfl) (by kernel_rfl) (fun _ _ _ h => h) (Or.inl ⟨by rfl, ?_⟩) hHeld ?_
          rotate_left
          · intro V hSw; have y1 := (Bx.below (unhide HCL) hSw).cv; have y2 := (Bx.below (unhide HCL) hSw).lt; go_simp; rfl
          try simp only [Act.put, List.getElem_toArray, List.getElem_cons_succ, List.getElem_cons_zero, List.setIfInBounds_toArray, List.set_cons_zero, List.set_cons_succ]
          refine wpAnyH_ready (rs := [2]) (by kernel_rfl) (by simp) ?_
          refine (AllReadyH.cons rfl (fun K hK => ?_) AllReadyH.nil)
          go_simp
          go_at_call 63
          refine (unhide HFE _ hHeld).mono ?_
          rintro e w2 ⟨rfl, k2⟩
          exact ⟨rfl, unhide HZ _ w2 hHeld k2⟩
        | some t =>
          obtain ⟨D, k⟩ := t
          have hk := rd1_k ho
          rw [dr_len] at hk
          have hkp : p + k ≤ s.size := by omega
          have hk2 : 2 ≤ k := hk.1
          have HR3 := hide (show wh (dr s 0) = ((out ++ [D]) ++ (wh (dr s (p + k))).1, (p + k) + (wh (dr s (p + k))).2.1, (wh (dr s (p + k))).2.2) by rw [unhide HR, wh_one ho, dr_drop]; simp [Nat.add_assoc])
          have HFD : Hid (Calls Tryd.prog 63 #[.pointer (some ⟨cb, 0, none⟩)] w1.drew fun e w' => e = .returned (capsuleV D) ∧ Cc w' cb s (p + k) told ∧ Kx cb w1.drew w') := by
            have h9 := implCap cb p s told w1.drew hs hp ((unhide F1).cc.below (Below.refl _ _).drew)
            rw [ho] at h9
            exact h9
          have HP := hide (fun w2 (c2 : Cc w2 cb s (p + k) told) (k2 : Kx cb w1.drew w2) => ws_push D h1 hlo (by omega) ((unhide F1).below (Below.refl _ _).drew) (hbl.below (Below.refl _ _).drew) (hro.below (Below.refl _ _).drew) c2 k2)
          have HBL := hide (hbl.below (Below.refl w1.heap.size w1).drew)
          obtain ⟨nm, vl⟩ := D
          obtain ⟨q, hq⟩ : ∃ q, p + k = q := ⟨_, rfl⟩
          rw [hq] at HR3 HFD HP hkp
          have hpq : p + 2 ≤ q := by omega
          clear hbl hro hk ho HR hq hk2
          go_region_law (first | (go_simp; go_at_call 63; (with_reducible refine (unhide HFD).mono ?_); rintro e w2 ⟨rfl, c2, k2⟩; obtain ⟨a3, n3, c3, w3, r3, x3, f3⟩ := unhide HP w2 c2 k2; have x4 := kx_bx (unhide HBL) k2 (by omega); have pq0 := x4.cv; have pql := x4.lt; clear x4; have RUN := hide r3; have F3 := hide f3; have q0 := x3.cv; have ql := x3.lt; have qf := x3.fz; clear r3 f3 x3 c2 k2) | (refine stp_app rfl _ _ 23 rfl _ _ _ _ (by simp [Act.eval]) (by simp [Act.eval]) (unhide RUN) ?_))
          all_goals
            generalize w3.setCell ⟨bl, 0, none⟩ (.slice a3 n3 c3) = w4 at F3 ⊢
            have F4 := hide (ws_size h1 hlo.2.2.2.2 (unhide F3) q)
            have HN := hide (atN_is (unhide F4).cc)
            clear pq0 pql q0 ql qf RUN HP HFD HBL y0 yl yf x0 xl
            have x0 := (unhide F3).hc.cv
            have xl := (unhide F3).hc.lt
            have d1 := (unhide F3).cc.c1
            have dl := (unhide F3).cc.lt
            have z0 := (unhide F3).hz.cv
            have zl := (unhide F3).hz.lt
            have zf := (unhide F3).hz.fz
            go_wp2
            exact ⟨⟨q, out ++ [⟨nm, vl⟩], hkp, by simp; omega, F4, HR3⟩, by rw [unhide HN, unhide HA]; omega⟩
    · have hI : ¬ (p : Int) < (s.size : Int) := by omega
      have HE := hide (show wh (dr s 0) = (out, p, true) by rw [unhide HR, show dr s p = [] from List.length_eq_zero_iff.1 (by rw [dr_len]; omega), wh_nil]; simp)
      have c0 := (unhide HF).cc.c0
      have c1 := (unhide HF).cc.c1
      have cl0 := (unhide HF).cc.lt
      have x1 := (unhide HF).hc.cv
      have x1l := (unhide HF).hc.lt
      have x2 := (unhide HF).hv.cv
      have x2l := (unhide HF).hv.lt
      have HBN := hide (fun n => below_drewN (Below.refl wr.heap.size wr) n)
      go_upto_region 0 with fail
      go_cut [10] (fun x wx => x = .bool false ∧ Hid (Below wr.heap.size wr wx))
      case first =>
        go_quiet (fail)
        all_goals
          go_wp2
          go_meet
          exact ⟨rfl, unhide HBN _⟩
      case rest =>
      obtain ⟨rfl, HB⟩ := hcut
      have F1 := hide ((unhide HF).below (unhide HB))
      go_wp2
      go_end0
      rw [unhide HE]
      obtain ⟨v, hbl, hro⟩ := (unhide F1).row
      exact ⟨⟨0, Or.inl ⟨rfl, rfl⟩, Or.inl rfl, rfl⟩, v, hbl, hro, (unhide F1).hz, (unhide F1).kq⟩
end Go.Proofs.YtgieglpjkjncfabDoor.Rc
