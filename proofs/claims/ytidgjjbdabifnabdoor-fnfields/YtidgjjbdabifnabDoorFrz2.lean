/-
  Contract of the program: the closure that reads fields one behind the other.
-/
import Derived.Test.YtidgjjbdabifnabDoorFry
import Derived.Deep.RegionLaw
import Derived.Deep.DeepCutAuto
namespace Go.Proofs.YtidgjjbdabifnabDoor.Rc
open Go.ChangeShapes Go.WideShapes Go.ChangeAt Go.RowKit Go.Deep
set_option linter.unusedVariables false
set_option maxRecDepth 100000

/-- where the cursor is -/
def atN (w : World) (cb : Nat) : Nat := match w.cell? ⟨cb, 1, none⟩ with | some (.int _ n) => n.toNat | _ => 0
theorem atN_is {w : World} {cb p : Nat} {s : ByteArray} {told : Int} (h : Cc w cb s p told) : atN w cb = p := by
  unfold atN
  rw [h.c1]
  simp
/-- how reading stands: the cursor, the boxes, the row -/
structure Fs (w0 w : World) (cb bc bv bl : Nat) (s : ByteArray) (told : Int) (p : Nat) (out : List FieldD) : Prop where
  cc : Cc w cb s p told
  hc : Bx w bc [.pointer (some ⟨cb, 0, none⟩)]
  hv : Bx w bv [.string s]
  row : ∃ v, Bx w bl [v] ∧ Ro fieldK 33 w0.heap.size w v out
  st : Sf w
  kq : Kq (fun q => q = cb ∨ q = bl) w0 w
theorem Fs.below {w0 w w' : World} {cb bc bv bl p : Nat} {s : ByteArray} {told : Int} {out : List FieldD} (h : Fs w0 w cb bc bv bl s told p out) (b : Below w.heap.size w w') : Fs w0 w' cb bc bv bl s told p out := by
  obtain ⟨v, h1, h2⟩ := h.row
  exact ⟨h.cc.below b, h.hc.below b, h.hv.below b, ⟨v, h1.below b, h2.below b⟩, h.st.below b, h.kq.trans (Kq.of b)⟩
theorem stI_k {s : ByteArray} {p n : Nat} {D : FieldD} (h : p < s.size) (e : stI (dr s p) = some (D, n)) : 1 ≤ n ∧ p + n ≤ s.size := by
  have hl := dr_len s p
  by_cases h1 : 192 ≤ by0 s p
  · rw [stI_a h h1] at e
    have := sdO_k e
    omega
  · by_cases h2 : 80 ≤ by0 s p
    · rw [stI_b h h1 h2] at e
      cases ho : sdO (dr s p) 4 with
      | none => rw [ho] at e; cases e
      | some t =>
        obtain ⟨E, k⟩ := t
        rw [ho] at e
        dsimp only at e
        have h3 := sdO_k ho
        have hl2 := dr_len s (p + k)
        cases hx : tkX (dr s (p + k)) 7 with
        | none => rw [hx] at e; cases e
        | some t2 =>
          obtain ⟨v, q⟩ := t2
          rw [hx] at e
          dsimp only at e
          injection e with e
          injection e with _ e
          have h4 := tkX_k hx
          omega
    · rw [stI_c h h1 h2] at e
      cases ho : tkX (dr s p) 3 with
      | none => rw [ho] at e; cases e
      | some t =>
        obtain ⟨E, k⟩ := t
        rw [ho] at e
        dsimp only at e
        have h3 := tkX_k ho
        have hl2 := dr_len s (p + k)
        cases hx : tkX (dr s (p + k)) 7 with
        | none => rw [hx] at e; cases e
        | some t2 =>
          obtain ⟨v, q⟩ := t2
          rw [hx] at e
          dsimp only at e
          injection e with e
          injection e with _ e
          have h4 := tkX_k hx
          omega
theorem rlI_end {s : ByteArray} {p f : Nat} {out : List FieldD} (h : ¬ p < s.size) : rlI f (dr s p) out = some out := by
  have : dr s p = [] := List.length_eq_zero_iff.1 (by rw [dr_len]; omega)
  rw [this]
  cases f <;> rfl
theorem rlI_many {s : ByteArray} {p : Nat} {out : List FieldD} (h : p < s.size) : rlI 0 (dr s p) out = none := by
  obtain ⟨c, r, e, _⟩ := dr_cons h
  rw [e]
  rfl
theorem rlI_on {s : ByteArray} {p f : Nat} {out : List FieldD} (h : p < s.size) : rlI (f + 1) (dr s p) out = match stI (dr s p) with | none => none | some (D, n) => rlI f (dr s (p + n)) (out ++ [D]) := by
  obtain ⟨c, r, e, _⟩ := dr_cons h
  have hd := dr_drop s p
  rw [e] at hd ⊢
  show (match stI (c :: r) with | none => none | some (D, n) => rlI f ((c :: r).drop n) (out ++ [D])) = _
  cases stI (c :: r) with
  | none => rfl
  | some t =>
    obtain ⟨D, n⟩ := t
    dsimp only
    rw [hd]
/-- what reading all comes to -/
def F1P (cb bc bv bl : Nat) (s : ByteArray) (told : Int) (w0 : World) (o : Option (List FieldD)) (e : Ending) (w' : World) : Prop := match o with
  | some out => e = .returned (.tuple #[]) ∧ ∃ p, Fs w0 w' cb bc bv bl s told p out
  | none => (∃ c : Int, (c = 1 ∨ c = 2 ∨ c = 4) ∧ e = gives c) ∧ ∃ v, Bx w' bl [v] ∧ (∃ out : List FieldD, Ro fieldK 33 w0.heap.size w' v out) ∧ Kq (fun q => q = cb ∨ q = bl) w0 w'
theorem kx_q {cb : Nat} {w w' : World} (h : Kx cb w w') (bl : Nat) : Kq (fun q => q = cb ∨ q = bl) w w' := ⟨h.os, h.tape, h.output, h.size, fun q hq hn => h.block q hq (fun e => hn (Or.inl e))⟩
/-- one more is put behind, and stored -/
theorem fs_push {w0 w1 w2 : World} {cb bc bv bl p q : Nat} {s : ByteArray} {told : Int} {out : List FieldD} {a : Option Addr} {cap : Nat} (D : FieldD) (h1 : cb ≠ bc ∧ cb ≠ bv ∧ cb ≠ bl ∧ bc ≠ bl ∧ bv ≠ bl) (hne : 0 ≠ cb ∧ 0 ≠ bl)
    (hlo : cb < w0.heap.size ∧ bc < w0.heap.size ∧ bv < w0.heap.size ∧ bl < w0.heap.size ∧ 0 < w0.heap.size) (ho : out.length ≤ 30)
    (F : Fs w0 w1 cb bc bv bl s told p out) (hbl : Bx w1 bl [.slice a out.length cap]) (hro : Ro fieldK 33 w0.heap.size w1 (.slice a out.length cap) out) (c2 : Cc w2 cb s q told) (k2 : Kx cb w1 w2) :
    ∃ a3 n3 c3 w3, (Builtin.append_ #[22, 22] 22 #[.slice a out.length cap, .slice (some ⟨w2.heap.size, 0, none⟩) 1 1]).run Tryd.prog (w2.alloc (.cells #[.string D.f0, .string D.f1] 33)) = .ok (.slice a3 n3 c3) w3 ∧ Bx w3 bl [.slice a out.length cap] ∧ Fs w0 (w3.setCell ⟨bl, 0, none⟩ (.slice a3 n3 c3)) cb bc bv bl s told q (out ++ [D]) := by
  have hs1 := F.kq.size
  have hs2 := k2.size
  have hro2 : Ro fieldK 33 w0.heap.size w2 (.slice a out.length cap) out := hro.kq (kx_q k2 cb) (fun q hq => by omega)
  have hbl2 := kx_bx hbl k2 (by omega)
  have hc2 := kx_bx F.hc k2 (by omega)
  have hv2 := kx_bx F.hv k2 (by omega)
  have hs3 := F.st.kx k2 hne.1
  obtain ⟨v3, w3, r3, o3, b3, kp⟩ := pushField w2 w0.heap.size (.slice a out.length cap) out D hro2 (by omega) (by omega)
  obtain ⟨a3, c3, rfl⟩ := o3.opens
  have low : ∀ q, q < w0.heap.size → w3.heap[q]? = w2.heap[q]? := fun q hq => b3.block q hq
  have up : ∀ {b : Nat} {xs : List Value}, b < w0.heap.size → Bx w2 b xs → Bx w3 b xs := fun {b xs} hb h => h.kept b3.size (low b hb)
  have x3 := up hlo.2.2.2.1 hbl2
  refine ⟨a3, _, c3, w3, r3, x3, ⟨?_, (up hlo.2.1 hc2).other (by omega), (up hlo.2.2.1 hv2).other (by omega), ⟨_, x3.set (i := 0) (by simp), ?_⟩, ?_, ?_⟩⟩
  · refine cc_new ?_ (by omega)
    have e := low cb hlo.1
    exact ⟨Nat.lt_of_lt_of_le c2.lt b3.size, (World.cell?_of_block (a := ⟨cb, 0, none⟩) e).trans c2.c0, (World.cell?_of_block (a := ⟨cb, 1, none⟩) e).trans c2.c1, (World.cell?_of_block (a := ⟨cb, 2, none⟩) e).trans c2.c2, fun o => (World.frozen?_of_block (a := ⟨cb, o, none⟩) e).trans (c2.fz o)⟩
  · exact o3.kq ((Kq.refl (fun q => q = bl) w3).set rfl) (fun q hq => by omega)
  · have e : ((w3.setCell ⟨bl, 0, none⟩ (.slice a3 (out ++ [D]).length c3)).heap[0]?) = w2.heap[0]? := (Below.heap_setCell _ _ _ _ (by exact hne.2)).trans (low _ hlo.2.2.2.2)
    exact ⟨by have := hlo.2.2.2.2; simp; have := b3.size; omega, fun q hq => (World.cell?_of_block (a := ⟨0, q, none⟩) e).trans (hs3.2 q hq)⟩
  · have k2' := F.kq.trans (kx_q k2 bl)
    have k3 : Kq (fun q => q = cb ∨ q = bl) w0 w3 := ⟨b3.os.trans k2'.os, b3.tape.trans k2'.tape, b3.output.trans k2'.output, Nat.le_trans k2'.size b3.size, fun q hq hn => (low q hq).trans (k2'.block q hq hn)⟩
    exact k3.set (Or.inr rfl)
set_option maxHeartbeats 8000000 in
theorem implF1 (cb bc bv bl p0 : Nat) (s : ByteArray) (told : Int) (w0 : World) (hs : s.size ≤ 1048576) (h1 : cb ≠ bc ∧ cb ≠ bv ∧ cb ≠ bl ∧ bc ≠ bl ∧ bv ≠ bl) (hne : 0 ≠ cb ∧ 0 ≠ bl) (hp0 : p0 ≤ s.size) (hlo : cb < w0.heap.size ∧ bc < w0.heap.size ∧ bv < w0.heap.size ∧ bl < w0.heap.size ∧ 0 < w0.heap.size) (h : Fs w0 w0 cb bc bv bl s told p0 []) :
    Calls Tryd.prog 33 #[.pointer (some ⟨bc, 0, none⟩), .pointer (some ⟨bv, 0, none⟩), .pointer (some ⟨bl, 0, none⟩)] w0 fun e w' => F1P cb bc bv bl s told w0 (rlI 30 (dr s p0) []) e w' := by
  have H0 := hide h
  clear h
  go_enter Tryd.func33, Tryd.ntmps33
  go_wp2_with fail
  go_loopw [] (fun wr => ∃ (p : Nat) (out : List FieldD), p ≤ s.size ∧ out.length ≤ 30 ∧ Hid (Fs w0 wr cb bc bv bl s told p out) ∧ Hid (rlI 30 (dr s p0) [] = rlI (30 - out.length) (dr s p) out)) (fun wr => s.size - atN wr cb)
  case atStart => exact ⟨p0, [], hp0, by simp, H0, rfl⟩
  case round =>
    obtain ⟨p, out, hp, hout, HF, HR⟩ := hrel
    clear H0
    have HA := hide (atN_is (unhide HF).cc)
    by_cases hlt : p < s.size
    · have hI : (p : Int) < (s.size : Int) := by omega
      have c0 := (unhide HF).cc.c0
      have c1 := (unhide HF).cc.c1
      have cl0 := (unhide HF).cc.lt
      have x1 := (unhide HF).hc.cv
      have x1l := (unhide HF).hc.lt
      have x2 := (unhide HF).hv.cv
      have x2l := (unhide HF).hv.lt
      have HBN := hide (fun n => below_drewN (Below.refl wr.heap.size wr) n)
      go_upto_region 0 with fail
      go_cut [9] (fun x wx => x = .bool true ∧ Hid (Below wr.heap.size wr wx))
      case first =>
        go_quiet (fail)
        all_goals
          go_wp2
          go_meet
          exact ⟨rfl, unhide HBN _⟩
      case rest =>
      obtain ⟨rfl, HB⟩ := hcut
      obtain ⟨w1, hw1⟩ : ∃ V, V = wc := ⟨_, rfl⟩
      rw [← hw1] at HB ⊢
      clear hw1 c0 c1 cl0 x1 x1l x2 x2l HBN
      have F1 := hide ((unhide HF).below (unhide HB))
      have HA1 := hide (atN_is (unhide F1).cc)
      obtain ⟨v, hbl, hro⟩ := (unhide F1).row
      obtain ⟨a, cap, rfl⟩ := hro.opens
      have y0 := hbl.cv
      have yl := hbl.lt
      have yf := hbl.fz
      by_cases h30 : out.length = 30
      · have hI30 : ((out.length : Nat) : Int) = 30 := by omega
        have HE := hide (show rlI 30 (dr s p0) [] = none by rw [unhide HR, h30]; exact rlI_many hlt)
        have Z := hide (show ∃ v, Bx w1 bl [v] ∧ (∃ out, Ro fieldK 33 w0.heap.size w1 v out) ∧ Kq (fun q => q = cb ∨ q = bl) w0 w1 from ⟨_, hbl, ⟨_, hro⟩, (unhide F1).kq⟩)
        clear hbl hro h30
        go_wp2
        exact ⟨rfl, by rw [unhide HE]; exact ⟨⟨4, Or.inr (Or.inr rfl), rfl⟩, unhide Z⟩⟩
      · have hI30 : ¬ ((out.length : Nat) : Int) = 30 := by omega
        have HR2 : Hid (rlI 30 (dr s p0) [] = rlI (29 - out.length + 1) (dr s p) out) := (unhide HR).trans (by rw [show 30 - out.length = 29 - out.length + 1 by omega])
        have HR3 := hide ((unhide HR2).trans (rlI_on hlt))
        have x0 := (unhide F1).hc.cv
        have xl := (unhide F1).hc.lt
        go_upto_region 3 with fail
        have HFD := hide (implFd cb p s told w1.drew hs hlt ((unhide F1).cc.below (Below.refl _ _).drew) ((unhide F1).st.below (Below.refl _ _).drew) hne.1)
        cases ho : stI (dr s p) with
        | none =>
          rw [ho] at HFD HR3
          unfold Rs at HFD
          dsimp only at HFD HR3
          have HZ := hide (fun (c : Int) (hc : c = 1 ∨ c = 2) W w2 (hd : Below w1.heap.size w1 W) (k2 : Kx cb W w2) => show F1P cb bc bv bl s told w0 (rlI 30 (dr s p0) []) (gives c) w2 by
            rw [unhide HR3]
            exact ⟨⟨c, by omega, rfl⟩, _, kx_bx (hbl.below hd) k2 (by omega), ⟨out, (hro.below hd).kq (kx_q k2 cb) (fun q hq => by omega)⟩, ((unhide F1).kq.trans (Kq.of hd)).trans (kx_q k2 bl)⟩)
          have HFE := hide (fun W (hd : Below w1.heap.size w1 W) => implFd cb p s told W hs hlt ((unhide F1).cc.below hd) ((unhide F1).st.below hd) hne.1)
          rw [ho] at HFE
          unfold Rs at HFE
          dsimp only at HFE
          have HBL := hide hbl
          have HCL := hide (unhide F1).hc
          clear hbl hro HFD y0 yl yf x0 xl
          refine wp_region_held_drew (S := fun V => Below w1.heap.size w1 V) (by kernel_rfl) ((Below.refl _ _).drew) (fun hHeld => ?_)
          refine wpAnyH_take (i := 0) (v := ?_) rfl (by kernel_rfl) (by kernel_rfl) (by kernel_rfl) (fun _ _ _ h => h) (Or.inl ⟨by rfl, ?_⟩) hHeld ?_
          rotate_left
          · intro V hSw; have y1 := (Bx.below (unhide HBL) hSw).cv; have y2 := (Bx.below (unhide HBL) hSw).lt; go_simp; rfl
          try simp only [Act.put, List.getElem_toArray, List.getElem_cons_zero, List.setIfInBounds_toArray, List.set_cons_zero, List.set_cons_succ]
          refine wpAnyH_take (i := 1) (v := ?_) rfl (by kernel_rfl) (by kernel_rfl) (by kernel_rfl) (fun _ _ _ h => h) (Or.inl ⟨by rfl, ?_⟩) hHeld ?_
          rotate_left
          · intro V hSw; have y1 := (Bx.below (unhide HCL) hSw).cv; have y2 := (Bx.below (unhide HCL) hSw).lt; go_simp; rfl
          try simp only [Act.put, List.getElem_toArray, List.getElem_cons_succ, List.getElem_cons_zero, List.setIfInBounds_toArray, List.set_cons_zero, List.set_cons_succ]
          refine wpAnyH_ready (rs := [2]) (by kernel_rfl) (by simp) ?_
          refine (AllReadyH.cons rfl (fun K hK => ?_) AllReadyH.nil)
          go_simp
          go_at_call 34
          refine (unhide HFE _ hHeld).mono ?_
          rintro e w2 ⟨c, hc, rfl, k2⟩
          exact ⟨rfl, unhide HZ c hc _ w2 hHeld k2⟩
        | some t =>
          obtain ⟨D, k⟩ := t
          have hk := stI_k hlt ho
          rw [ho] at HFD HR3
          unfold Rs at HFD
          dsimp only at HFD HR3
          have HP := hide (fun w2 (c2 : Cc w2 cb s (p + k) told) (k2 : Kx cb w1.drew w2) => fs_push D h1 hne hlo hout ((unhide F1).below (Below.refl _ _).drew) (hbl.below (Below.refl _ _).drew) (hro.below (Below.refl _ _).drew) c2 k2)
          have HBL := hide (hbl.below (Below.refl w1.heap.size w1).drew)
          obtain ⟨nm, vl⟩ := D
          clear hbl hro
          go_region_law (first | (go_simp; go_at_call 34; (with_reducible refine (unhide HFD).mono ?_); rintro e w2 ⟨rfl, c2, k2⟩; obtain ⟨a3, n3, c3, w3, r3, x3, f3⟩ := unhide HP w2 c2 k2; have x4 := kx_bx (unhide HBL) k2 (by omega); have pq0 := x4.cv; have pql := x4.lt; clear x4; have RUN := hide r3; have F3 := hide f3; have q0 := x3.cv; have ql := x3.lt; have qf := x3.fz; clear r3 f3 x3 c2 k2) | (refine stp_app rfl _ _ 22 rfl _ _ _ _ (by simp [Act.eval]) (by simp [Act.eval]) (unhide RUN) ?_))
          all_goals
            have HN := hide (atN_is (unhide F3).cc)
            have HR4 : Hid (rlI 30 (dr s p0) [] = rlI (30 - (out ++ [(⟨nm, vl⟩ : FieldD)]).length) (dr s (p + k)) (out ++ [⟨nm, vl⟩])) := by
              show _ = _
              rw [unhide HR3, List.length_append, show 30 - (out.length + [(⟨nm, vl⟩ : FieldD)].length) = 29 - out.length by simp only [List.length_cons, List.length_nil]; omega]
            go_wp2
            exact ⟨⟨p + k, out ++ [⟨nm, vl⟩], by omega, by simp; omega, F3, HR4⟩, by rw [unhide HN, unhide HA]; omega⟩
    · have hI : ¬ (p : Int) < (s.size : Int) := by omega
      have HE := hide (show rlI 30 (dr s p0) [] = some out by rw [unhide HR]; exact rlI_end hlt)
      have c0 := (unhide HF).cc.c0
      have c1 := (unhide HF).cc.c1
      have cl0 := (unhide HF).cc.lt
      have x1 := (unhide HF).hc.cv
      have x1l := (unhide HF).hc.lt
      have x2 := (unhide HF).hv.cv
      have x2l := (unhide HF).hv.lt
      have HBN := hide (fun n => below_drewN (Below.refl wr.heap.size wr) n)
      go_upto_region 0 with fail
      go_cut [9] (fun x wx => x = .bool false ∧ Hid (Below wr.heap.size wr wx))
      case first =>
        go_quiet (fail)
        all_goals
          go_wp2
          go_meet
          exact ⟨rfl, unhide HBN _⟩
      case rest =>
      obtain ⟨rfl, HB⟩ := hcut
      have F1 := hide ((unhide HF).below (unhide HB))
      go_wp2
      go_end0
      rw [unhide HE]
      exact ⟨rfl, p, unhide F1⟩
end Go.Proofs.YtidgjjbdabifnabDoor.Rc
