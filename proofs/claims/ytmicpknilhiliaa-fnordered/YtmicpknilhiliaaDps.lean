/-
  What DrawPlayStream draws: a short text, a limit, cuts above nought, an order.
-/
import Derived.Test.YtmicpknilhiliaaDkx
import Derived.Test.YtmicpknilhiliaaRci
import Derived.Test.YtmicpknilhiliaaApr
import Derived.Deep.DeepCutAuto
namespace Go.Proofs.Ytmicpknilhiliaa
open Go.ChangeShapes Go.WideShapes Go.ChangeAt Go.RowKit
set_option linter.unusedVariables false
theorem Kx.setNew {cb : Nat} {a w : World} (h : Kx cb a w) {p : Addr} (hp : a.heap.size ≤ p.block) (u : Value) : Kx cb a (w.setCell p u) :=
  ⟨h.os, h.tape, h.output, by simpa [World.setCell] using h.size, fun k hk hne => (Below.heap_setCell _ _ _ _ (by omega)).trans (h.block k hk hne)⟩
theorem Cu.setNew {w0 w : World} {cb : Nat} {a : Option Addr} {N cap P P0 : Nat} (h0 : Cu w0 cb a N cap P0) (h : Cu w cb a N cap P) {g : Nat} (hg : w0.heap.size ≤ g) (o : Nat) (u : Value) : Cu (w.setCell ⟨g, o, none⟩ u) cb a N cap P := by
  have hl := h0.lt
  have hne : ∀ q : Nat, (⟨g, o, none⟩ : Addr) ≠ ⟨cb, q, none⟩ := fun q e => absurd (congrArg Addr.block e) (by show g ≠ cb; omega)
  have hc : ∀ q : Nat, (w.setCell ⟨g, o, none⟩ u).cell? ⟨cb, q, none⟩ = w.cell? ⟨cb, q, none⟩ := fun q => World.cell?_setCell_other _ _ _ _ (hne q)
  refine ⟨by simpa [World.setCell] using h.lt, (hc 0).trans h.c0, ?_, ?_, fun q => ?_, ?_⟩
  · obtain ⟨p, h1, h2⟩ := h.c1
    exact ⟨p, h1, (hc 1).trans h2⟩
  · obtain ⟨s, h1, h2, h3⟩ := h.c2
    exact ⟨s, h1, h2, (hc 2).trans h3⟩
  · have := h.fz q
    rw [← this]
    exact World.frozen?_of_block (w := w) (a := ⟨cb, q, none⟩) (Below.heap_setCell w ⟨g, o, none⟩ u cb (by show cb ≠ g; omega))
  · rcases h.cd with e | ⟨b, off, e, hl1, hn1, hx⟩
    · exact Or.inl e
    · rcases h0.cd with e0 | ⟨b0, off0, e0, hl0, _, _⟩
      · exact Or.inl e0
      · have hb : b = b0 := by
          rw [e] at e0
          simp at e0
          exact e0.1
        refine Or.inr ⟨b, off, e, by simpa [World.setCell] using hl1, hn1, fun i hi => ?_⟩
        obtain ⟨x, h1, h2⟩ := hx i hi
        refine ⟨x, h1, ?_⟩
        rw [World.cell?_setCell_other _ _ _ _ (fun e9 => absurd (congrArg Addr.block e9) (by show g ≠ b; omega))]
        exact h2
end Go.Proofs.Ytmicpknilhiliaa
namespace Go.Proofs.Ytmicpknilhiliaa.Rc
open Go.ChangeShapes Go.WideShapes Go.ChangeAt Go.RowKit Go.Deep
set_option linter.unusedVariables false
set_option maxRecDepth 100000

theorem Try.infoU8 : (Try.prog.info? 5).map (fun i => (i.zero, i.size, i.bytes)) = some (some (.int .u8 0), 1, 1) := by kernel_rfl
/-- a row of bytes of the call's own -/
def Yb (w : World) (g n : Nat) (l : List UInt8) : Prop := l.length = n ∧ g < w.heap.size ∧ (∀ i, i < n → w.cell? ⟨g, i, none⟩ = some (.int .u8 ((l.getD i 0).toNat : Int))) ∧ ∀ i, w.frozen? ⟨g, i, none⟩ = false
theorem Yb.set {w : World} {g n : Nat} {l : List UInt8} (h : Yb w g n l) {k : Nat} (hk : k < n) (x : Nat) (hx : x < 256) : Yb (w.setCell ⟨g, k, none⟩ (.int .u8 (x : Int))) g n (l.set k (UInt8.ofNat x)) := by
  obtain ⟨h1, h2, h3, h4⟩ := h
  refine ⟨by rw [List.length_set]; exact h1, by simpa using h2, fun i hi => ?_, fun i => by simpa using h4 i⟩
  by_cases e : i = k
  · subst e
    rw [World.cell?_setCell_same _ _ _ (h3 i hi)]
    have e1 : (l.set i (UInt8.ofNat x)).getD i 0 = UInt8.ofNat x := by simp [List.getD, h1, hi]
    rw [e1]
    have e2 : (UInt8.ofNat x).toNat = x := by rw [UInt8.toNat_ofNat']; omega
    rw [e2]
  · rw [World.cell?_setCell_other _ _ _ _ (by intro q; injection q with _ q _; exact e q.symm), h3 i hi]
    have e1 : (l.set k (UInt8.ofNat x)).getD i 0 = l.getD i 0 := by simp [List.getD, Ne.symm e]
    rw [e1]
theorem Yb.text {w : World} {g n : Nat} {l : List UInt8} (h : Yb w g n l) (cap : Nat) : (convert 22 9 (.slice (some ⟨g, 0, none⟩) n cap)).run Try.prog w = .ok (.string ⟨l.toArray⟩) w := by
  obtain ⟨h1, h2, h3, h4⟩ := h
  subst h1
  refine run_convert_bytes_back w 22 9 5 ⟨g, 0, none⟩ cap l Try.underlying22 Try.underlying5 Try.underlying9 ?_
  intro j hj
  rw [add_none, Nat.zero_add, h3 j hj]
  simp [List.getD, hj]
set_option maxHeartbeats 4000000 in
theorem streamData_any (cb : Nat) (a : Option Addr) (N cap P : Nat) (w : World) (hN : N ≤ 1048576) (hP : P ≤ 400000) (h : Cu w cb a N cap P) :
    Calls Try.prog 7 #[.pointer (some ⟨cb, 0, none⟩)] w fun e w' => ∃ t : ByteArray, e = .returned (.string t) ∧ t.size ≤ 59 ∧ Cu w' cb a N cap (P + 10) ∧ Kx cb w w' := by
  have hcb := h.lt
  have H0 := hide h
  clear h
  go_enter Try.func7, Try.ntmps7
  go_wp2_with fail
  refine (pickN cb a N cap P 60 _ hN (by omega) (by omega) (by omega) (unhide H0)).mono ?_
  rintro e w1 ⟨n, rfl, hn, u1, k1⟩
  obtain ⟨i0, hi, hz0, hz1, hz2⟩ := info_parts Try.infoU8
  obtain ⟨w2, hmk, hown, hgr⟩ := run_make_full (P := Try.prog) w1 w1.heap.size 22 5 i0 _ 1 Try.underlying22 hi hz0 hz1 .i64 .i64 n (by rw [hz2]; omega) (by unfold maxLen; omega) (Nat.le_refl _)
  have hb2 : Below w1.heap.size w1 w2 := (Below.refl _ _).grown hgr (Nat.le_refl _) (fun k hk => by cases hk)
  have HY : Hid (Yb w2 w1.heap.size n (List.replicate n 0)) := by
    refine ⟨by simp, (hown.lt w1.heap.size rfl).2, fun i hi => ?_, fun o => hown.frozenAt o⟩
    rw [hown.cellAt i (by omega)]
    have e0 : (Value.int IntKind.u8 0).cells[i % (Value.int IntKind.u8 0).cells.size]! = Value.int IntKind.u8 0 := by
      show (#[Value.int IntKind.u8 0] : Array Value)[i % 1]! = _
      rw [Nat.mod_one]
      rfl
    simp [madeCells, hi, List.getD, e0]
  have U2 := hide ((u1.same hb2).mono (Q := P + 10) (by omega))
  have K2 := hide (k1.trans (Kx.of hb2))
  have hs2 := k1.size
  have hmk2 := hmk
  clear hown hgr hi hz0 hz1 hz2 hb2 u1 k1 hmk
  obtain ⟨g, hg⟩ : ∃ g, w1.heap.size = g := ⟨_, rfl⟩
  rw [hg] at HY hmk2
  have HG := hide hg
  have hgw : w.heap.size ≤ g := by omega
  go_wp2_with fail
  go_loopw [10] (fun iv wr => ∃ (k : Nat) (l : List UInt8), k ≤ n ∧ iv = .int .i64 k ∧ Hid (Yb wr g n l) ∧ Hid (Cu wr cb a N cap (P + 10)) ∧ Hid (Kx cb w wr)) (fun iv _ => n - (intOf iv).toNat)
  case atStart => exact ⟨0, _, Nat.zero_le _, rfl, HY, U2, K2⟩
  case round =>
    obtain ⟨k, l, hk, rfl, hY, hU, hK⟩ := hrel
    clear HY U2 K2 hmk2
    by_cases hlt : k < n
    · have c0 := (unhide hY).2.2.1 k hlt
      have f0 := (unhide hY).2.2.2 k
      have hgl := (unhide hY).2.1
      have hnk : (k : Int) < (n : Int) := by omega
      have hk0 : (0 : Int) ≤ (k : Int) := by omega
      have HYS := hide (fun x hx => (unhide hY).set hlt x hx)
      have HUS := hide (fun u => Cu.setNew (unhide H0) (unhide hU) (g := g) hgw k u)
      have HKS := hide (fun u => (unhide hK).setNew (p := ⟨g, k, none⟩) hgw u)
      clear hY hU hK
      go_wp2_with fail
      have e : (97 : Int) + (k : Int) * 7 % 26 = ((97 + k * 7 % 26 : Nat) : Int) := by omega
      rw [e]
      exact ⟨⟨k + 1, _, by omega, by go_num, unhide HYS (97 + k * 7 % 26) (by omega), unhide HUS _, unhide HKS _⟩, by simp [intOf]; omega⟩
    · obtain rfl : k = n := by omega
      have hcv := (unhide hY).text k
      have hsz : (⟨l.toArray⟩ : ByteArray).size ≤ 59 := by show l.toArray.size ≤ _; rw [List.size_toArray, (unhide hY).1]; omega
      have HS := hide hsz
      clear hsz
      go_wp2
      go_ret
      exact ⟨_, rfl, unhide HS, unhide hU, unhide hK⟩

theorem ro_rdI {base : Nat} {w : World} {a : Option Addr} {n c : Nat} {L : List Int} (h : Ro intK 3 base w (.slice a n c) L) : Rd intK w a L := by
  obtain ⟨a', c', hv, _, ri⟩ := h.form
  injection hv with h1 h2 h3
  subst h1
  exact ri.rd
theorem ri_bel {α : Type} {K : Kd α} {lb ls : Nat} {w w' : World} {a : Option Addr} {L : List α} (h : Ri K lb ls w a L) (hb : Below ls w w') : Ri K lb ls w' a L :=
  h.imp id fun ⟨g, e, l, h⟩ => ⟨g, e, l, h.kept hb.size (hb.block g l.2)⟩
/-- what it draws -/
def DpP (w : World) (e : Ending) (w' : World) : Prop := ∃ (d : ByteArray) (limit : Nat) (cuts order : List Int) (aC : Option Addr) (cC : Nat) (aO : Option Addr) (cO : Nat), e = .returned (.tuple #[.string d, .int .i64 (limit : Int), .slice aC cuts.length cC, .slice aO order.length cO]) ∧ d.size ≤ 59 ∧ limit ≤ 79 ∧ (cuts.length ≤ 5 ∧ ∀ x ∈ cuts, 0 < x) ∧ order.length ≤ 40 ∧ Rd intK w' aC cuts ∧ Rd intK w' aO order ∧ Below w.heap.size w w'
set_option maxHeartbeats 16000000 in
theorem drawPS_any (a : Option Addr) (N cap : Nat) (w : World) (hN : N ≤ 1048576) (h : Cd w a N) :
    Calls Try.prog 4 #[.slice a N cap] w (DpP w) := by
  have hcu := cu_first cap 33 h
  obtain ⟨V0, hV0⟩ : ∃ V, V = w.alloc (.cells #[.slice a N cap, .int .i64 0, .int .u64 0] 33) := ⟨_, rfl⟩
  rw [← hV0] at hcu
  have hs0 : V0.heap.size = w.heap.size + 1 := by rw [hV0]; simp
  obtain ⟨cb, hcb⟩ : ∃ cb, w.heap.size = cb := ⟨_, rfl⟩
  have hdr : ∀ w', Kx cb V0 w' → Below w.heap.size w w' := fun w' k => by rw [← hcb, hV0] at k; exact k.draw
  obtain ⟨b1, hb1⟩ : ∃ b1, V0.heap.size = b1 := ⟨_, rfl⟩
  rw [hcb] at hcu
  have HU0 := hide hcu
  have HDR := hide hdr
  have HV := hide hV0
  have HCB := hide hcb
  have hcb1 : cb < b1 := by omega
  have hb1' : V0.heap.size ≤ b1 := by omega
  have hb1'' : b1 ≤ V0.heap.size := by omega
  clear hcu hdr hV0 hs0 hcb hb1 h
  go_enter Try.func4, Try.ntmps4
  go_upto_region 2 with fail
  rw [← unhide HV, unhide HCB]
  clear HV HCB
  go_wp2_with fail
  refine (streamData_any cb a N cap 0 V0 hN (by omega) (unhide HU0)).mono ?_
  rintro e w1 ⟨d, rfl, hd, u1, k1⟩
  have U1 := hide u1
  have K1 := hide k1
  clear u1 k1
  go_wp2_with fail
  refine (one_any cb a N cap 10 4 _ hN (by omega) (by omega) (by omega) ((unhide U1).mono (by omega))).mono ?_
  rintro e w2 ⟨rb, rfl, u2, k2⟩
  have U2 := hide u2
  have K2 := hide ((unhide K1).trans k2)
  clear u2 k2 U1 K1
  cases rb with
  | true =>
    go_wp2_with fail
    refine (pickN cb a N cap 12 80 _ hN (by omega) (by omega) (by omega) (unhide U2)).mono ?_
    rintro e wI ⟨r0, rfl, hr0, uI, kI⟩
    have hlim : r0 ≤ 79 := by omega
    have UI := hide (uI.mono (Q := 20) (by omega))
    have KI := hide ((unhide K2).trans kI)
    clear uI kI U2 K2
    have C0 : Hid (Ro intK 3 b1 wI (.slice none 0 0) ([] : List Int)) := Ro.nil _ _ _ _
    go_wp2_with fail
    refine (pickN cb a N cap 20 6 _ hN (by omega) (by omega) (by omega) (unhide UI)).mono ?_
    rintro e w4 ⟨n0, rfl, hn0, u4, k4⟩
    have U4 := hide (u4.mono (Q := 30) (by omega))
    have K4 := hide ((unhide KI).trans k4)
    have C4 : Hid (Ro intK 3 b1 w4 (.slice none 0 0) ([] : List Int)) := Ro.nil _ _ _ _
    clear u4 k4 UI KI C0
    go_wp2_with fail
    go_loopw [9, 10, 11] (fun cv av nv wr => ∃ (n k at' : Nat) (C : List Int), n + k ≤ 5 ∧ at' ≤ 12 * k ∧ C.length ≤ k ∧ nv = .int .i64 n ∧ av = .int .i64 at' ∧ Hid (∀ x ∈ C, 0 < x) ∧ Hid (Ro intK 3 b1 wr cv C) ∧ Hid (Cu wr cb a N cap (30 + 2 * k)) ∧ Hid (Kx cb V0 wr)) (fun _ _ nv _ => (intOf nv).toNat)
    case atStart => exact ⟨n0, 0, 0, [], by omega, by omega, by simp, rfl, rfl, (fun x hx => nomatch hx), C4, U4, K4⟩
    case round =>
      obtain ⟨n, k, at', C, hnk, hat, hC, rfl, rfl, hP, hO, hU, hK⟩ := hrel
      clear C4 U4 K4
      obtain ⟨ra, rc, rfl⟩ := (unhide hO).opens
      rcases Nat.eq_zero_or_pos n with rfl | hn
      case inr =>
        obtain ⟨m, rfl⟩ : ∃ m, n = m + 1 := ⟨n - 1, by omega⟩
        have hI : (0 : Int) < ((m + 1 : Nat) : Int) := by omega
        go_wp2_with fail
        refine (pickN cb a N cap (30 + 2 * k) 12 _ hN (by omega) (by omega) (by omega) (unhide hU)).mono ?_
        rintro e w5 ⟨r, rfl, hr, u5, k5⟩
        have U5 := hide (u5.mono (Q := 30 + 2 * (k + 1)) (by omega))
        have K5 := hide ((unhide hK).trans k5)
        have O5 := hide ((unhide hO).kq (kx_kq k5) (fun q hq => by omega))
        obtain ⟨x, hx⟩ : ∃ x, at' + (1 + r) = x := ⟨_, rfl⟩
        have g1 : IntKind.i64.wrap (1 + (r : Int)) = 1 + (r : Int) := wraps_i64 _ (by omega) (by omega)
        have g2 : IntKind.i64.wrap ((at' : Int) + (1 + (r : Int))) = (x : Int) := by rw [wraps_i64 _ (by omega) (by omega)]; omega
        have hx0 : 0 < x := by omega
        have hxk : x ≤ 12 * (k + 1) := by omega
        clear u5 k5 hO hU hK hx
        by_cases hle : (x : Int) ≤ (d.size : Int)
        case pos =>
          obtain ⟨v9, w9, run9, o9, lies9, kq9⟩ := pushInt w5 b1 (.slice ra C.length rc) C (x : Int) (unhide O5) (by omega) (by have h1 := (unhide K5).size; omega)
          have b9 : Below b1 w5 w9 := kq9.below (by have h1 := (unhide K5).size; omega) (fun q hq => ((unhide O5).ob q hq).1)
          have O9 := hide o9
          have RUN9 := hide run9
          have U9 := hide (cu_bel (unhide HU0) (unhide U5) b9 (by omega))
          have K9 := hide (kx_bel (unhide K5) b9 (by omega))
          have P9 : Hid (∀ y ∈ C ++ [(x : Int)], 0 < y) := fun y hy => by
            rcases List.mem_append.1 hy with hy | hy
            · exact unhide hP y hy
            · rw [List.mem_singleton.1 hy]; omega
          clear run9 o9 lies9 kq9 b9 O5 U5 K5 hP hat
          go_wp2_with (at_builtin; refine wpl_app rfl _ _ 23 rfl _ _ _ _ rfl rfl (unhide RUN9) ?_)
          exact ⟨⟨m, k + 1, x, C ++ [(x : Int)], by omega, hxk, by simp; omega, by go_num, rfl, P9, O9, U9, K9⟩, by simp [intOf]⟩
        case neg =>
          have hle2 : ¬ (x : Int) ≤ (d.size : Int) := hle
          clear hat
          go_wp2_with fail
          exact ⟨⟨m, k + 1, x, C, by omega, hxk, by omega, by go_num, rfl, hP, O5, U5, K5⟩, by simp [intOf]⟩
      case inl =>
        have U6 := hide ((unhide hU).mono (Q := 60) (by omega))
        have hC5 : C.length ≤ 5 := by omega
        obtain ⟨cl, hcl⟩ : ∃ cl, C.length = cl := ⟨_, rfl⟩
        have HCL := hide hcl
        rw [hcl] at hC5 ⊢
        have m1 : IntKind.i64.wrap ((cl : Int) + 1) = (cl : Int) + 1 := wraps_i64 _ (by omega) (by omega)
        obtain ⟨m3, hm3⟩ : ∃ m3, 3 * (cl + 1) = m3 := ⟨_, rfl⟩
        have m2 : IntKind.i64.wrap (3 * ((cl : Int) + 1)) = (m3 : Int) := by rw [wraps_i64 _ (by omega) (by omega)]; omega
        obtain ⟨m4, hm4⟩ : ∃ m4, cl + 2 = m4 := ⟨_, rfl⟩
        have m5 : IntKind.i64.wrap ((cl : Int) + 2) = (m4 : Int) := by rw [wraps_i64 _ (by omega) (by omega)]; omega
        have hm3b : 0 < m3 ∧ m3 ≤ 18 := by omega
        have hm4b : 0 < m4 ∧ m4 ≤ 7 := by omega
        have HP := hP
        have CO := hO
        have CK := hK
        clear hU hO hK hP hcl hm3 hm4 hat hnk hC
        go_wp2_with fail
        refine (pickN cb a N cap 60 m3 _ hN (by omega) (by omega) (by omega) (unhide U6)).mono ?_
        rintro e w6 ⟨p0, rfl, hp0, u6, k6⟩
        have U7 := hide (u6.mono (Q := 70) (by omega))
        have K7 := hide ((unhide CK).trans k6)
        obtain ⟨b2, hb2⟩ : ∃ b2, w6.heap.size = b2 := ⟨_, rfl⟩
        have hb12 : b1 ≤ b2 := by have := (unhide K7).size; omega
        have R7 : Hid (Ri intK b1 b2 w6 ra C) := by
          obtain ⟨a8, c8, e8, _, i8⟩ := ((unhide CO).kq (kx_kq k6) (fun q hq => by omega)).form
          injection e8 with e8 _ _
          subst e8
          rw [hb2] at i8
          exact i8
        have O7 : Hid (Ro intK 3 b2 w6 (.slice none 0 0) ([] : List Int)) := Ro.nil _ _ _ _
        have hz2 : b2 ≤ w6.heap.size := by omega
        clear u6 k6 U6 CO CK hb2
        go_wp2_with fail
        go_loopw [12, 13] (fun ov nv wr => ∃ (n k : Nat) (O : List Int), n + k ≤ 17 ∧ O.length ≤ k ∧ nv = .int .i64 n ∧ b2 ≤ wr.heap.size ∧ Hid (Ro intK 3 b2 wr ov O) ∧ Hid (Ri intK b1 b2 wr ra C) ∧ Hid (Cu wr cb a N cap (70 + 2 * k)) ∧ Hid (Kx cb V0 wr)) (fun _ nv _ => (intOf nv).toNat)
        case atStart => exact ⟨p0, 0, [], by omega, by simp, rfl, hz2, O7, R7, U7, K7⟩
        case round =>
          obtain ⟨n, k, O, hnk, hOk, rfl, hz2, hO2, hR2, hU2, hK2⟩ := hrel
          clear O7 R7 U7 K7
          rcases Nat.eq_zero_or_pos n with rfl | hn
          case inr =>
            obtain ⟨m, rfl⟩ : ∃ m, n = m + 1 := ⟨n - 1, by omega⟩
            have hI : (0 : Int) < ((m + 1 : Nat) : Int) := by omega
            obtain ⟨oa, oc, rfl⟩ := (unhide hO2).opens
            go_wp2_with fail
            refine (pickN cb a N cap (70 + 2 * k) m4 _ hN (by omega) (by omega) (by omega) (unhide hU2)).mono ?_
            rintro e w7 ⟨r, rfl, hr, u7, k7⟩
            have hz7 : b2 ≤ w7.heap.size := by have := k7.size; omega
            have U7 := hide (u7.mono (Q := 70 + 2 * (k + 1)) (by omega))
            have K7 := hide ((unhide hK2).trans k7)
            have O7 := hide ((unhide hO2).kq (kx_kq k7) (fun q hq => by omega))
            have R7 := hide ((unhide hR2).kq (kx_kq k7) (fun q hq => by omega))
            clear u7 k7 hO2 hU2 hK2 hR2
            obtain ⟨v9, w9, run9, o9, lies9, kq9⟩ := pushInt w7 b2 (.slice oa O.length oc) O (r : Int) (unhide O7) (by omega) (by have h1 := (unhide K7).size; omega)
            have b9 : Below b2 w7 w9 := kq9.below (by have h1 := (unhide K7).size; omega) (fun q hq => ((unhide O7).ob q hq).1)
            have O9 := hide o9
            have RUN9 := hide run9
            have U9 := hide (cu_bel (unhide HU0) (unhide U7) b9 (by omega))
            have K9 := hide (kx_bel (unhide K7) b9 (by omega))
            have R9 := hide (ri_bel (unhide R7) b9)
            have hz9 : b2 ≤ w9.heap.size := by have := b9.size; omega
            clear run9 o9 lies9 kq9 b9 O7 U7 K7 R7
            go_wp2_with (at_builtin; refine wpl_app rfl _ _ 23 rfl _ _ _ _ rfl rfl (unhide RUN9) ?_)
            exact ⟨⟨m, k + 1, O ++ [(r : Int)], by omega, by simp; omega, by go_num, hz9, O9, R9, U9, K9⟩, by simp [intOf]⟩
          case inl =>
            obtain ⟨oa, oc, rfl⟩ := (unhide hO2).opens
            have U8 := hide ((unhide hU2).mono (Q := 120) (by omega))
            clear hU2
            go_wp2_with fail
            refine (one_any cb a N cap 120 3 _ hN (by omega) (by omega) (by omega) (unhide U8)).mono ?_
            rintro e w8 ⟨rb3, rfl, u8, k8⟩
            have U9a := hide u8
            have hz8 : b2 ≤ w8.heap.size := by have := k8.size; omega
            have K8 := hide ((unhide hK2).trans k8)
            have CR8 := hide ((unhide hR2).kq (kx_kq k8) (fun q hq => by omega))
            have O8 := hide ((unhide hO2).kq (kx_kq k8) (fun q hq => by omega))
            clear u8 k8 U8 hK2 hR2 hO2
            cases rb3 with
            | false =>
              have FIN := hide (show ∀ e : Ending, e = .returned (.tuple #[.string d, .int .i64 (r0 : Int), .slice ra cl rc, .slice oa O.length oc]) → DpP w e w8 from fun e he => ⟨d, r0, C, O, ra, rc, oa, oc, by rw [unhide HCL]; exact he, hd, hlim, ⟨by rw [unhide HCL]; omega, unhide HP⟩, by omega, (unhide CR8).rd, (ro_rdI (unhide O8)), unhide HDR _ (unhide K8)⟩)
              generalize O.length = o9 at *
              clear CR8 O8 K8
              go_wp2_with fail
              refine bodyPost_ret (v := .tuple #[.string d, .int .i64 (r0 : Int), .slice ra cl rc, .slice oa o9 oc]) (by simp [results, Try.results4, go_sem]) rfl (unhide FIN _ rfl)
            | true =>
              go_wp2_with fail
              go_loopw [12, 14] (fun ov iv wr => ∃ (m : Nat) (O : List Int), m ≤ cl + 1 ∧ O.length + m ≤ 23 ∧ iv = .int .i64 ((m : Int) - 1) ∧ b2 ≤ wr.heap.size ∧ Hid (Ro intK 3 b2 wr ov O) ∧ Hid (Ri intK b1 b2 wr ra C) ∧ Hid (Cu wr cb a N cap 122) ∧ Hid (Kx cb V0 wr)) (fun _ iv _ => (intOf iv + 1).toNat)
              case atStart => exact ⟨cl + 1, O, Nat.le_refl _, by omega, by go_num, hz8, O8, CR8, U9a, K8⟩
              case round =>
                obtain ⟨m, O, hm, hOm, rfl, hz3, hO3, hR3, hU3, hK3⟩ := hrel
                clear O8 CR8 U9a K8
                obtain ⟨oa, oc, rfl⟩ := (unhide hO3).opens
                rcases Nat.eq_zero_or_pos m with rfl | hm0
                · have hI : ¬ (0 : Int) ≤ ((0 : Nat) : Int) - 1 := by omega
                  have FIN := hide (show ∀ e : Ending, e = .returned (.tuple #[.string d, .int .i64 (r0 : Int), .slice ra cl rc, .slice oa O.length oc]) → DpP w e wr from fun e he => ⟨d, r0, C, O, ra, rc, oa, oc, by rw [unhide HCL]; exact he, hd, hlim, ⟨by rw [unhide HCL]; omega, unhide HP⟩, by omega, (unhide hR3).rd, (ro_rdI (unhide hO3)), unhide HDR _ (unhide hK3)⟩)
                  generalize O.length = o9 at *
                  clear hR3 hO3 hK3
                  go_wp2_with fail
                  refine bodyPost_ret (v := .tuple #[.string d, .int .i64 (r0 : Int), .slice ra cl rc, .slice oa o9 oc]) (by simp [results, Try.results4, go_sem]) rfl (unhide FIN _ rfl)
                · obtain ⟨m', rfl⟩ : ∃ m', m = m' + 1 := ⟨m - 1, by omega⟩
                  have e : (((m' + 1 : Nat)) : Int) - 1 = (m' : Int) := by omega
                  rw [e]
                  have hI : (0 : Int) ≤ (m' : Int) := by omega
                  obtain ⟨v9, w9, run9, o9, lies9, kq9⟩ := pushInt wr b2 (.slice oa O.length oc) O (m' : Int) (unhide hO3) (by omega) (by have h1 := (unhide hK3).size; omega)
                  have b9 : Below b2 wr w9 := kq9.below (by have h1 := (unhide hK3).size; omega) (fun q hq => ((unhide hO3).ob q hq).1)
                  have O9 := hide o9
                  have RUN9 := hide run9
                  have U9 := hide (cu_bel (unhide HU0) (unhide hU3) b9 (by omega))
                  have K9 := hide (kx_bel (unhide hK3) b9 (by omega))
                  have R9 := hide (ri_bel (unhide hR3) b9)
                  have hz9 : b2 ≤ w9.heap.size := by have := b9.size; omega
                  clear run9 o9 lies9 kq9 b9 hO3 hU3 hK3 hR3 e
                  go_wp2_with (at_builtin; refine wpl_app rfl _ _ 23 rfl _ _ _ _ rfl rfl (unhide RUN9) ?_)
                  exact ⟨⟨m', O ++ [(m' : Int)], by omega, by simp; omega, by go_num, hz9, O9, R9, U9, K9⟩, by simp [intOf]⟩
  | false =>
    obtain ⟨wI, hwI⟩ : ∃ W, W = w2 := ⟨_, rfl⟩
    rw [← hwI] at U2 K2 ⊢
    have hlim : d.size ≤ 79 := by omega
    have UI := hide ((unhide U2).mono (Q := 20) (by omega))
    have KI := hide (unhide K2)
    clear U2 K2 hwI
    have C0 : Hid (Ro intK 3 b1 wI (.slice none 0 0) ([] : List Int)) := Ro.nil _ _ _ _
    go_wp2_with fail
    refine (pickN cb a N cap 20 6 _ hN (by omega) (by omega) (by omega) (unhide UI)).mono ?_
    rintro e w4 ⟨n0, rfl, hn0, u4, k4⟩
    have U4 := hide (u4.mono (Q := 30) (by omega))
    have K4 := hide ((unhide KI).trans k4)
    have C4 : Hid (Ro intK 3 b1 w4 (.slice none 0 0) ([] : List Int)) := Ro.nil _ _ _ _
    clear u4 k4 UI KI C0
    go_wp2_with fail
    go_loopw [9, 10, 11] (fun cv av nv wr => ∃ (n k at' : Nat) (C : List Int), n + k ≤ 5 ∧ at' ≤ 12 * k ∧ C.length ≤ k ∧ nv = .int .i64 n ∧ av = .int .i64 at' ∧ Hid (∀ x ∈ C, 0 < x) ∧ Hid (Ro intK 3 b1 wr cv C) ∧ Hid (Cu wr cb a N cap (30 + 2 * k)) ∧ Hid (Kx cb V0 wr)) (fun _ _ nv _ => (intOf nv).toNat)
    case atStart => exact ⟨n0, 0, 0, [], by omega, by omega, by simp, rfl, rfl, (fun x hx => nomatch hx), C4, U4, K4⟩
    case round =>
      obtain ⟨n, k, at', C, hnk, hat, hC, rfl, rfl, hP, hO, hU, hK⟩ := hrel
      clear C4 U4 K4
      obtain ⟨ra, rc, rfl⟩ := (unhide hO).opens
      rcases Nat.eq_zero_or_pos n with rfl | hn
      case inr =>
        obtain ⟨m, rfl⟩ : ∃ m, n = m + 1 := ⟨n - 1, by omega⟩
        have hI : (0 : Int) < ((m + 1 : Nat) : Int) := by omega
        go_wp2_with fail
        refine (pickN cb a N cap (30 + 2 * k) 12 _ hN (by omega) (by omega) (by omega) (unhide hU)).mono ?_
        rintro e w5 ⟨r, rfl, hr, u5, k5⟩
        have U5 := hide (u5.mono (Q := 30 + 2 * (k + 1)) (by omega))
        have K5 := hide ((unhide hK).trans k5)
        have O5 := hide ((unhide hO).kq (kx_kq k5) (fun q hq => by omega))
        obtain ⟨x, hx⟩ : ∃ x, at' + (1 + r) = x := ⟨_, rfl⟩
        have g1 : IntKind.i64.wrap (1 + (r : Int)) = 1 + (r : Int) := wraps_i64 _ (by omega) (by omega)
        have g2 : IntKind.i64.wrap ((at' : Int) + (1 + (r : Int))) = (x : Int) := by rw [wraps_i64 _ (by omega) (by omega)]; omega
        have hx0 : 0 < x := by omega
        have hxk : x ≤ 12 * (k + 1) := by omega
        clear u5 k5 hO hU hK hx
        by_cases hle : (x : Int) ≤ (d.size : Int)
        case pos =>
          obtain ⟨v9, w9, run9, o9, lies9, kq9⟩ := pushInt w5 b1 (.slice ra C.length rc) C (x : Int) (unhide O5) (by omega) (by have h1 := (unhide K5).size; omega)
          have b9 : Below b1 w5 w9 := kq9.below (by have h1 := (unhide K5).size; omega) (fun q hq => ((unhide O5).ob q hq).1)
          have O9 := hide o9
          have RUN9 := hide run9
          have U9 := hide (cu_bel (unhide HU0) (unhide U5) b9 (by omega))
          have K9 := hide (kx_bel (unhide K5) b9 (by omega))
          have P9 : Hid (∀ y ∈ C ++ [(x : Int)], 0 < y) := fun y hy => by
            rcases List.mem_append.1 hy with hy | hy
            · exact unhide hP y hy
            · rw [List.mem_singleton.1 hy]; omega
          clear run9 o9 lies9 kq9 b9 O5 U5 K5 hP hat
          go_wp2_with (at_builtin; refine wpl_app rfl _ _ 23 rfl _ _ _ _ rfl rfl (unhide RUN9) ?_)
          exact ⟨⟨m, k + 1, x, C ++ [(x : Int)], by omega, hxk, by simp; omega, by go_num, rfl, P9, O9, U9, K9⟩, by simp [intOf]⟩
        case neg =>
          have hle2 : ¬ (x : Int) ≤ (d.size : Int) := hle
          clear hat
          go_wp2_with fail
          exact ⟨⟨m, k + 1, x, C, by omega, hxk, by omega, by go_num, rfl, hP, O5, U5, K5⟩, by simp [intOf]⟩
      case inl =>
        have U6 := hide ((unhide hU).mono (Q := 60) (by omega))
        have hC5 : C.length ≤ 5 := by omega
        obtain ⟨cl, hcl⟩ : ∃ cl, C.length = cl := ⟨_, rfl⟩
        have HCL := hide hcl
        rw [hcl] at hC5 ⊢
        have m1 : IntKind.i64.wrap ((cl : Int) + 1) = (cl : Int) + 1 := wraps_i64 _ (by omega) (by omega)
        obtain ⟨m3, hm3⟩ : ∃ m3, 3 * (cl + 1) = m3 := ⟨_, rfl⟩
        have m2 : IntKind.i64.wrap (3 * ((cl : Int) + 1)) = (m3 : Int) := by rw [wraps_i64 _ (by omega) (by omega)]; omega
        obtain ⟨m4, hm4⟩ : ∃ m4, cl + 2 = m4 := ⟨_, rfl⟩
        have m5 : IntKind.i64.wrap ((cl : Int) + 2) = (m4 : Int) := by rw [wraps_i64 _ (by omega) (by omega)]; omega
        have hm3b : 0 < m3 ∧ m3 ≤ 18 := by omega
        have hm4b : 0 < m4 ∧ m4 ≤ 7 := by omega
        have HP := hP
        have CO := hO
        have CK := hK
        clear hU hO hK hP hcl hm3 hm4 hat hnk hC
        go_wp2_with fail
        refine (pickN cb a N cap 60 m3 _ hN (by omega) (by omega) (by omega) (unhide U6)).mono ?_
        rintro e w6 ⟨p0, rfl, hp0, u6, k6⟩
        have U7 := hide (u6.mono (Q := 70) (by omega))
        have K7 := hide ((unhide CK).trans k6)
        obtain ⟨b2, hb2⟩ : ∃ b2, w6.heap.size = b2 := ⟨_, rfl⟩
        have hb12 : b1 ≤ b2 := by have := (unhide K7).size; omega
        have R7 : Hid (Ri intK b1 b2 w6 ra C) := by
          obtain ⟨a8, c8, e8, _, i8⟩ := ((unhide CO).kq (kx_kq k6) (fun q hq => by omega)).form
          injection e8 with e8 _ _
          subst e8
          rw [hb2] at i8
          exact i8
        have O7 : Hid (Ro intK 3 b2 w6 (.slice none 0 0) ([] : List Int)) := Ro.nil _ _ _ _
        have hz2 : b2 ≤ w6.heap.size := by omega
        clear u6 k6 U6 CO CK hb2
        go_wp2_with fail
        go_loopw [12, 13] (fun ov nv wr => ∃ (n k : Nat) (O : List Int), n + k ≤ 17 ∧ O.length ≤ k ∧ nv = .int .i64 n ∧ b2 ≤ wr.heap.size ∧ Hid (Ro intK 3 b2 wr ov O) ∧ Hid (Ri intK b1 b2 wr ra C) ∧ Hid (Cu wr cb a N cap (70 + 2 * k)) ∧ Hid (Kx cb V0 wr)) (fun _ nv _ => (intOf nv).toNat)
        case atStart => exact ⟨p0, 0, [], by omega, by simp, rfl, hz2, O7, R7, U7, K7⟩
        case round =>
          obtain ⟨n, k, O, hnk, hOk, rfl, hz2, hO2, hR2, hU2, hK2⟩ := hrel
          clear O7 R7 U7 K7
          rcases Nat.eq_zero_or_pos n with rfl | hn
          case inr =>
            obtain ⟨m, rfl⟩ : ∃ m, n = m + 1 := ⟨n - 1, by omega⟩
            have hI : (0 : Int) < ((m + 1 : Nat) : Int) := by omega
            obtain ⟨oa, oc, rfl⟩ := (unhide hO2).opens
            go_wp2_with fail
            refine (pickN cb a N cap (70 + 2 * k) m4 _ hN (by omega) (by omega) (by omega) (unhide hU2)).mono ?_
            rintro e w7 ⟨r, rfl, hr, u7, k7⟩
            have hz7 : b2 ≤ w7.heap.size := by have := k7.size; omega
            have U7 := hide (u7.mono (Q := 70 + 2 * (k + 1)) (by omega))
            have K7 := hide ((unhide hK2).trans k7)
            have O7 := hide ((unhide hO2).kq (kx_kq k7) (fun q hq => by omega))
            have R7 := hide ((unhide hR2).kq (kx_kq k7) (fun q hq => by omega))
            clear u7 k7 hO2 hU2 hK2 hR2
            obtain ⟨v9, w9, run9, o9, lies9, kq9⟩ := pushInt w7 b2 (.slice oa O.length oc) O (r : Int) (unhide O7) (by omega) (by have h1 := (unhide K7).size; omega)
            have b9 : Below b2 w7 w9 := kq9.below (by have h1 := (unhide K7).size; omega) (fun q hq => ((unhide O7).ob q hq).1)
            have O9 := hide o9
            have RUN9 := hide run9
            have U9 := hide (cu_bel (unhide HU0) (unhide U7) b9 (by omega))
            have K9 := hide (kx_bel (unhide K7) b9 (by omega))
            have R9 := hide (ri_bel (unhide R7) b9)
            have hz9 : b2 ≤ w9.heap.size := by have := b9.size; omega
            clear run9 o9 lies9 kq9 b9 O7 U7 K7 R7
            go_wp2_with (at_builtin; refine wpl_app rfl _ _ 23 rfl _ _ _ _ rfl rfl (unhide RUN9) ?_)
            exact ⟨⟨m, k + 1, O ++ [(r : Int)], by omega, by simp; omega, by go_num, hz9, O9, R9, U9, K9⟩, by simp [intOf]⟩
          case inl =>
            obtain ⟨oa, oc, rfl⟩ := (unhide hO2).opens
            have U8 := hide ((unhide hU2).mono (Q := 120) (by omega))
            clear hU2
            go_wp2_with fail
            refine (one_any cb a N cap 120 3 _ hN (by omega) (by omega) (by omega) (unhide U8)).mono ?_
            rintro e w8 ⟨rb3, rfl, u8, k8⟩
            have U9a := hide u8
            have hz8 : b2 ≤ w8.heap.size := by have := k8.size; omega
            have K8 := hide ((unhide hK2).trans k8)
            have CR8 := hide ((unhide hR2).kq (kx_kq k8) (fun q hq => by omega))
            have O8 := hide ((unhide hO2).kq (kx_kq k8) (fun q hq => by omega))
            clear u8 k8 U8 hK2 hR2 hO2
            cases rb3 with
            | false =>
              have FIN := hide (show ∀ e : Ending, e = .returned (.tuple #[.string d, .int .i64 (d.size : Int), .slice ra cl rc, .slice oa O.length oc]) → DpP w e w8 from fun e he => ⟨d, d.size, C, O, ra, rc, oa, oc, by rw [unhide HCL]; exact he, hd, hlim, ⟨by rw [unhide HCL]; omega, unhide HP⟩, by omega, (unhide CR8).rd, (ro_rdI (unhide O8)), unhide HDR _ (unhide K8)⟩)
              generalize O.length = o9 at *
              clear CR8 O8 K8
              go_wp2_with fail
              refine bodyPost_ret (v := .tuple #[.string d, .int .i64 (d.size : Int), .slice ra cl rc, .slice oa o9 oc]) (by simp [results, Try.results4, go_sem]) rfl (unhide FIN _ rfl)
            | true =>
              go_wp2_with fail
              go_loopw [12, 14] (fun ov iv wr => ∃ (m : Nat) (O : List Int), m ≤ cl + 1 ∧ O.length + m ≤ 23 ∧ iv = .int .i64 ((m : Int) - 1) ∧ b2 ≤ wr.heap.size ∧ Hid (Ro intK 3 b2 wr ov O) ∧ Hid (Ri intK b1 b2 wr ra C) ∧ Hid (Cu wr cb a N cap 122) ∧ Hid (Kx cb V0 wr)) (fun _ iv _ => (intOf iv + 1).toNat)
              case atStart => exact ⟨cl + 1, O, Nat.le_refl _, by omega, by go_num, hz8, O8, CR8, U9a, K8⟩
              case round =>
                obtain ⟨m, O, hm, hOm, rfl, hz3, hO3, hR3, hU3, hK3⟩ := hrel
                clear O8 CR8 U9a K8
                obtain ⟨oa, oc, rfl⟩ := (unhide hO3).opens
                rcases Nat.eq_zero_or_pos m with rfl | hm0
                · have hI : ¬ (0 : Int) ≤ ((0 : Nat) : Int) - 1 := by omega
                  have FIN := hide (show ∀ e : Ending, e = .returned (.tuple #[.string d, .int .i64 (d.size : Int), .slice ra cl rc, .slice oa O.length oc]) → DpP w e wr from fun e he => ⟨d, d.size, C, O, ra, rc, oa, oc, by rw [unhide HCL]; exact he, hd, hlim, ⟨by rw [unhide HCL]; omega, unhide HP⟩, by omega, (unhide hR3).rd, (ro_rdI (unhide hO3)), unhide HDR _ (unhide hK3)⟩)
                  generalize O.length = o9 at *
                  clear hR3 hO3 hK3
                  go_wp2_with fail
                  refine bodyPost_ret (v := .tuple #[.string d, .int .i64 (d.size : Int), .slice ra cl rc, .slice oa o9 oc]) (by simp [results, Try.results4, go_sem]) rfl (unhide FIN _ rfl)
                · obtain ⟨m', rfl⟩ : ∃ m', m = m' + 1 := ⟨m - 1, by omega⟩
                  have e : (((m' + 1 : Nat)) : Int) - 1 = (m' : Int) := by omega
                  rw [e]
                  have hI : (0 : Int) ≤ (m' : Int) := by omega
                  obtain ⟨v9, w9, run9, o9, lies9, kq9⟩ := pushInt wr b2 (.slice oa O.length oc) O (m' : Int) (unhide hO3) (by omega) (by have h1 := (unhide hK3).size; omega)
                  have b9 : Below b2 wr w9 := kq9.below (by have h1 := (unhide hK3).size; omega) (fun q hq => ((unhide hO3).ob q hq).1)
                  have O9 := hide o9
                  have RUN9 := hide run9
                  have U9 := hide (cu_bel (unhide HU0) (unhide hU3) b9 (by omega))
                  have K9 := hide (kx_bel (unhide hK3) b9 (by omega))
                  have R9 := hide (ri_bel (unhide hR3) b9)
                  have hz9 : b2 ≤ w9.heap.size := by have := b9.size; omega
                  clear run9 o9 lies9 kq9 b9 hO3 hU3 hK3 hR3 e
                  go_wp2_with (at_builtin; refine wpl_app rfl _ _ 23 rfl _ _ _ _ rfl rfl (unhide RUN9) ?_)
                  exact ⟨⟨m', O ++ [(m' : Int)], by omega, by simp; omega, by go_num, hz9, O9, R9, U9, K9⟩, by simp [intOf]⟩
end Go.Proofs.Ytmicpknilhiliaa.Rc
