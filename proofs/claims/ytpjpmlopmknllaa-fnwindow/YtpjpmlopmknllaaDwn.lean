/-
  Contracts: grows and windows that the model draws.
-/
import Derived.Test.YtpjpmlopmknllaaWnp
import Derived.Test.YtpjpmlopmknllaaDkx
import Derived.Test.YtpjpmlopmknllaaOpWindow
import Derived.Deep.DeepCutAuto
import Derived.Deep.RegionLaw
namespace Go.Proofs.Ytpjpmlopmknllaa.Rc
open Go.ChangeShapes Go.WideShapes Go.ChangeAt Go.RowKit Go.Deep
set_option linter.unusedVariables false
set_option maxRecDepth 100000

/-- its numbers are small -/
def smG (g : GrowD) : Prop := (0 ≤ g.f0 ∧ g.f0 ≤ 100000) ∧ (0 ≤ g.f1 ∧ g.f1 ≤ 100000) ∧ (0 ≤ g.f2 ∧ g.f2 ≤ 100000) ∧ (0 ≤ g.f3 ∧ g.f3 ≤ 100000)
set_option maxHeartbeats 8000000 in
theorem grows_any (cb : Nat) (a : Option Addr) (N cap P : Nat) (w : World) (hN : N ≤ 1048576) (hP : P ≤ 400000) (h : Cu w cb a N cap P) :
    Calls Try.prog 29 #[.pointer (some ⟨cb, 0, none⟩)] w fun e w' => ∃ (v : Value) (L : List GrowD), e = .returned v ∧ L.length ≤ 101 ∧ (∀ g ∈ L, smG g) ∧ Ro growK 67 w.heap.size w' v L ∧ Cu w' cb a N cap (P + 1300) ∧ Kx cb w w' := by
  have hcb := h.lt
  have H00 := hide h
  have O0 := hide (Ro.nil growK 67 w.heap.size w)
  clear h
  go_enter Try.func29, Try.ntmps29
  go_wp2_with fail
  refine (pickN cb a N cap P 30 _ hN (by omega) (by omega) (by omega) (unhide H00)).mono ?_
  rintro e w1 ⟨n1, rfl, q1, u1, k1⟩
  have U1 := hide u1
  have K1 := hide k1
  clear u1 k1
  go_wp2_with fail
  refine (one_any cb a N cap (P + 2) 30 _ hN (by omega) (by omega) (by omega) (unhide U1)).mono ?_
  rintro e w2 ⟨rb, rfl, u2, k2⟩
  have U2 := hide u2
  have K2 := hide ((unhide K1).trans k2)
  clear u2 k2 U1 K1
  go_upto_if 10 with fail
  go_cut [5] (fun s5 wx => ∃ n : Nat, s5 = .int .i64 n ∧ n ≤ 101 ∧ Hid (Cu wx cb a N cap (P + 6)) ∧ Hid (Kx cb w wx))
  case first =>
    cases rb with
    | false =>
      go_wp2
      go_meet
      exact ⟨n1, rfl, by omega, (unhide U2).mono (by omega), K2⟩
    | true =>
      go_wp2_with fail
      refine (pickN cb a N cap (P + 2 + 2) 2 _ hN (by omega) (by omega) (by omega) (unhide U2)).mono ?_
      rintro e w3 ⟨n3, rfl, q3, u3, k3⟩
      have U3 := hide (u3.mono (Q := P + 6) (by omega))
      have K3 := hide ((unhide K2).trans k3)
      clear u3 k3
      go_wp2
      go_meet
      exact ⟨100 + n3, by go_num, by omega, U3, K3⟩
  case rest =>
  obtain ⟨n, rfl, hn, U3, K3⟩ := hcut
  clear U2 K2
  obtain ⟨w3, hw3⟩ : ∃ V, V = wc := ⟨_, rfl⟩
  rw [← hw3] at U3 K3 ⊢
  clear hw3
  have O3 := hide (Ro.nil growK 67 w.heap.size w3)
  go_wp2_with fail
  go_loopw [3, 4, 5] (fun v3 mv nv wr => ∃ (j m n : Nat) (L : List GrowD), n + j ≤ 101 ∧ mv = .int .i64 m ∧ nv = .int .i64 n ∧ m ≤ 8 * j ∧ L.length = j ∧ Hid (∀ g ∈ L, smG g) ∧ Hid (Ro growK 67 w.heap.size wr v3 L) ∧ Hid (Cu wr cb a N cap (P + 6 + 12 * j)) ∧ Hid (Kx cb w wr)) (fun _ _ nv _ => (intOf nv).toNat)
  case atStart => exact ⟨0, 0, n, [], by omega, rfl, rfl, by omega, rfl, (fun g hg => by cases hg), O3, U3, K3⟩
  case round =>
    obtain ⟨j, m, n, L, hj, rfl, rfl, hm, hL, hSG, hO, hU, hK⟩ := hrel
    clear O3 U3 K3 O0
    have sK := (unhide hK).size
    by_cases hn0 : 0 < n
    · have hn1 : (0 : Int) < (n : Int) := by omega
      have O0 := hO
      have K0 := hK
      have U0 := hU
      clear hO hK hU
      go_wp2_with fail
      refine (pickN cb a N cap (P + 6 + 12 * j) 9 _ hN (by omega) (by omega) (by omega) (unhide U0)).mono ?_
      rintro e w1 ⟨r1, rfl, q1, u1, k1⟩
      have O1 := hide ((unhide O0).kq (kx_kq k1) (fun q hq => by omega))
      have K1 := hide ((unhide K0).trans k1)
      have s1 := k1.size
      have U1 := hide u1
      clear u1 k1 O0 K0 U0
      obtain ⟨m', hm'⟩ : ∃ m' : Nat, m' = m + r1 := ⟨_, rfl⟩
      have ww : IntKind.i64.wrap ((m : Int) + (r1 : Int)) = (m' : Int) := by rw [IntKind.wrap_i64]; omega
      have hm2 : m' ≤ 8 * (j + 1) := by omega
      clear hm'
      go_wp2_with fail
      refine (among_any cb a N cap (P + 6 + 12 * j + 2) w1.heap.size 7 7 (fun x => 1 ≤ x ∧ x ≤ 4) _ hN (by omega) (by omega) (by omega) (by simp) (by have := (unhide U1).lt; omega)
        (lit_cells w1 [1, 1, 2, 2, 2, 3, 4] 3 _ (by decide)) ((unhide U1).alloc _)).mono ?_
      rintro e w2 ⟨x2, rfl, ⟨hx20, hx21⟩, u2, k2⟩
      have O1a := hide ((unhide O1).below ((Below.refl w1.heap.size w1).alloc (Nat.le_refl _) (.cells #[.int .i64 1, .int .i64 1, .int .i64 2, .int .i64 2, .int .i64 2, .int .i64 3, .int .i64 4] 3)))
      have K1a := hide ((unhide K1).alloc (.cells #[.int .i64 1, .int .i64 1, .int .i64 2, .int .i64 2, .int .i64 2, .int .i64 3, .int .i64 4] 3))
      have O2 := hide ((unhide O1a).kq (kx_kq k2) (fun q hq => by omega))
      have K2 := hide ((unhide K1a).trans k2)
      have s2 : w.heap.size ≤ w2.heap.size := (unhide K2).size
      have U2 := hide u2
      clear u2 k2 O1 K1 U1 O1a K1a
      have w1' : IntKind.i64.wrap ((m' : Int) + 1) = ((m' + 1 : Nat) : Int) := by rw [IntKind.wrap_i64]; omega
      go_wp2_with fail
      refine (pickN cb a N cap (P + 6 + 12 * j + 2 + 2) (m' + 1) _ hN (by omega) (by omega) (by omega) (unhide U2)).mono ?_
      rintro e w3 ⟨r3, rfl, q3, cu3, k3⟩
      have O3 := hide ((unhide O2).kq (kx_kq k3) (fun q hq => by omega))
      have K3 := hide ((unhide K2).trans k3)
      have s3 := k3.size
      obtain ⟨W3, hW3⟩ : ∃ V, V = w3.alloc (.cells #[.int .i64 x2, .int .i64 1200, .int .i64 r3, .int .i64 m'] 67) := ⟨_, rfl⟩
      have AL : Below w3.heap.size w3 W3 := by rw [hW3]; exact (Below.refl _ _).alloc (Nat.le_refl _) _
      have OB : Hid (∀ q, u3.ownBlock = some q → w.heap.size ≤ q ∧ q < w3.heap.size) := fun q hq => (unhide O3).ob q hq
      have G4 := hide (show Bx W3 w3.heap.size [.int .i64 x2, .int .i64 1200, .int .i64 r3, .int .i64 m'] by rw [hW3]; exact Bx.new w3 _ _)
      have O4 := hide ((unhide O3).below AL)
      have K4 := hide ((unhide K3).trans (Kx.of AL))
      have U4 := hide (cu3.same AL)
      have z3 : w.heap.size ≤ w3.heap.size := (unhide K3).size
      have s4 : w3.heap.size < W3.heap.size := (unhide G4).lt
      have HW3 := hide hW3
      clear hW3 AL cu3 k3 O2 K2 U2 O3 K3
      go_upto_region 10 with fail
      rw [← unhide HW3]
      clear HW3
      go_wp2_with fail
      refine (one_any cb a N cap (P + 6 + 12 * j + 2 + 2 + 2) 3 _ hN (by omega) (by omega) (by omega) (unhide U4)).mono ?_
      rintro e w5 ⟨rb5, rfl, u5, k5⟩
      have O5 := hide ((unhide O4).kq (kx_kq k5) (fun q hq => by omega))
      have K5 := hide ((unhide K4).trans k5)
      have s5 := k5.size
      have G5 := hide (bx_kx (unhide G4) k5 (by omega))
      have U5 := hide u5
      clear u5 k5 O4 K4 U4 G4
      go_upto_if 32 with fail
      go_cut [] (fun wx => ∃ y1 : Int, (0 ≤ y1 ∧ y1 ≤ 1600) ∧ Hid (Bx wx w3.heap.size [.int .i64 x2, .int .i64 y1, .int .i64 r3, .int .i64 m']) ∧ Hid (Ro growK 67 w.heap.size wx u3 L) ∧ Hid (Cu wx cb a N cap (P + 6 + 12 * j + 10)) ∧ Hid (Kx cb w wx) ∧ w3.heap.size < wx.heap.size)
      case first =>
        cases rb5 with
        | false =>
          have UU := hide ((unhide U5).mono (Q := P + 6 + 12 * j + 10) (by omega))
          have l5 := (unhide G5).lt
          go_wp2
          go_meet
          exact ⟨1200, by omega, G5, O5, UU, K5, l5⟩
        | true =>
          go_wp2_with fail
          refine (pickN cb a N cap (P + 6 + 12 * j + 2 + 2 + 2 + 2) 1600 _ hN (by omega) (by omega) (by omega) (unhide U5)).mono ?_
          rintro e w6 ⟨r6, rfl, q6, u6, k6⟩
          have O6 := (unhide O5).kq (kx_kq k6) (fun q hq => by omega)
          have K6 := (unhide K5).trans k6
          have G6 := bx_kx (unhide G5) k6 (by omega)
          have g6 := G6.cv
          have g6f := G6.fz
          have g6l := G6.lt
          have b7 := (Below.refl w3.heap.size w6).setCell (p := ⟨w3.heap.size, 1, none⟩) (Nat.le_refl _) (.int .i64 r6)
          have k7 : Kq (fun q => q = w3.heap.size) w6 (w6.setCell ⟨w3.heap.size, 1, none⟩ (.int .i64 r6)) := (Kq.refl _ _).set rfl
          have G7 := hide (G6.set (i := 1) (u := .int .i64 r6) (by simp))
          have O7 := hide (O6.ko k7 (fun q hq e => by have := (unhide OB q hq).2; omega))
          have K7 := hide (kx_bel K6 b7 z3)
          have U7 := hide ((cu_bel (unhide H00) u6 b7 z3).mono (Q := P + 6 + 12 * j + 10) (by omega))
          have l7 : w3.heap.size < (w6.setCell ⟨w3.heap.size, 1, none⟩ (.int .i64 r6)).heap.size := (unhide G7).lt
          clear u6 k6 O6 K6 G6 b7 k7 O5 K5 U5 G5
          go_wp2
          go_meet
          exact ⟨r6, by omega, G7, O7, U7, K7, l7⟩
      case rest =>
      obtain ⟨y1, ⟨hy10, hy11⟩, G8, O8, U8, K8, l8⟩ := hcut
      clear O5 K5 U5 G5
      obtain ⟨w8, hw8⟩ : ∃ V, V = wc := ⟨_, rfl⟩
      rw [← hw8] at G8 O8 U8 K8 l8 ⊢
      clear hw8
      have g8 := (unhide G8).cv
      have g8l := (unhide G8).lt
      by_cases h4 : x2 = 4
      · subst h4
        go_wp2_with fail
        refine (one_any cb a N cap (P + 6 + 12 * j + 10) 4 _ hN (by omega) (by omega) (by omega) (unhide U8)).mono ?_
        rintro e wa ⟨rba, rfl, ua, ka⟩
        have Oa := hide ((unhide O8).kq (kx_kq ka) (fun q hq => by omega))
        have Ka := hide ((unhide K8).trans ka)
        have Ga := hide (bx_kx (unhide G8) ka (by omega))
        have Ua := hide ua
        have ga := (unhide Ga).cv
        have gaf := (unhide Ga).fz
        have gal := (unhide Ga).lt
        clear ua ka O8 K8 U8 G8 g8 g8l
        cases rba with
        | true =>
          obtain ⟨v9, w9, run, o9, b9, _⟩ := pushGrow wa w.heap.size u3 L ⟨4, y1, r3, m'⟩ (unhide Oa) (by omega) (by have := (unhide Ka).size; omega)
          have RUN := hide run
          have GO := hide o9
          have GU := hide ((cu_bel (unhide H00) (unhide Ua) b9 (Nat.le_refl _)).mono (Q := P + 6 + 12 * (j + 1)) (by omega))
          have GK := hide (kx_bel (unhide Ka) b9 (Nat.le_refl _))
          have gc := (unhide Ga).cv
          have gcl := (unhide Ga).lt
          obtain ⟨a9, c9, rfl⟩ := (unhide Oa).opens
          have hL1 : (L ++ [(⟨4, y1, r3, m'⟩ : GrowD)]).length = j + 1 := by rw [List.length_append, hL]; rfl
          obtain ⟨n, rfl⟩ : ∃ n', n = n' + 1 := ⟨n - 1, by omega⟩
          have HLL := hide hL1
          have HSN : Hid (∀ g ∈ L ++ [(⟨4, y1, r3, m'⟩ : GrowD)], smG g) := fun g hg => by
            rcases List.mem_append.1 hg with h | h
            · exact unhide hSG g h
            · rw [List.mem_singleton.1 h]; unfold smG; dsimp only; omega
          have HL0 := hide hL
          clear run o9 b9 Oa Ua Ka Ga OB hL1 hL
          go_wp2_with (at_builtin; refine wpl_app rfl _ _ 40 rfl _ _ _ _ rfl rfl (unhide RUN) ?_)
          exact ⟨⟨j + 1, m', n, _, by omega, rfl, by go_num, hm2, unhide HLL, HSN, GO, GU, GK⟩, by simp [intOf]⟩
        | false =>
          obtain ⟨wb, hwb⟩ : ∃ V, V = wa.setCell ⟨w3.heap.size, 0, none⟩ (.int .i64 2) := ⟨_, rfl⟩
          have bb : Below w3.heap.size wa wb := by rw [hwb]; exact (Below.refl w3.heap.size wa).setCell (p := ⟨w3.heap.size, 0, none⟩) (Nat.le_refl _) _
          have kb : Kq (fun q => q = w3.heap.size) wa wb := by rw [hwb]; exact (Kq.refl _ _).set rfl
          have Gb := hide (show Bx wb w3.heap.size [.int .i64 2, .int .i64 y1, .int .i64 r3, .int .i64 m'] by rw [hwb]; exact (unhide Ga).set (i := 0) (by simp))
          have Ob := hide ((unhide Oa).ko kb (fun q hq e => by have := (unhide OB q hq).2; omega))
          have Kb := hide (kx_bel (unhide Ka) bb z3)
          have Ub := hide (cu_bel (unhide H00) (unhide Ua) bb z3)
          have HWb := hide hwb
          clear hwb bb kb Oa Ka Ua Ga
          go_upto_region 14 with fail
          rw [← unhide HWb]
          clear HWb ga gaf gal
          obtain ⟨v9, w9, run, o9, b9, _⟩ := pushGrow wb w.heap.size u3 L ⟨2, y1, r3, m'⟩ (unhide Ob) (by omega) (by have := (unhide Kb).size; omega)
          have RUN := hide run
          have GO := hide o9
          have GU := hide ((cu_bel (unhide H00) (unhide Ub) b9 (Nat.le_refl _)).mono (Q := P + 6 + 12 * (j + 1)) (by omega))
          have GK := hide (kx_bel (unhide Kb) b9 (Nat.le_refl _))
          have gc := (unhide Gb).cv
          have gcl := (unhide Gb).lt
          obtain ⟨a9, c9, rfl⟩ := (unhide Ob).opens
          have hL1 : (L ++ [(⟨2, y1, r3, m'⟩ : GrowD)]).length = j + 1 := by rw [List.length_append, hL]; rfl
          obtain ⟨n, rfl⟩ : ∃ n', n = n' + 1 := ⟨n - 1, by omega⟩
          have HLL := hide hL1
          have HSN : Hid (∀ g ∈ L ++ [(⟨2, y1, r3, m'⟩ : GrowD)], smG g) := fun g hg => by
            rcases List.mem_append.1 hg with h | h
            · exact unhide hSG g h
            · rw [List.mem_singleton.1 h]; unfold smG; dsimp only; omega
          have HL0 := hide hL
          clear run o9 b9 Ob Ub Kb Gb OB hL1 hL
          go_wp2_with (at_builtin; refine wpl_app rfl _ _ 40 rfl _ _ _ _ rfl rfl (unhide RUN) ?_)
          exact ⟨⟨j + 1, m', n, _, by omega, rfl, by go_num, hm2, unhide HLL, HSN, GO, GU, GK⟩, by simp [intOf]⟩
      · have t4 : (x2 == 4) = false := beq_eq_false_iff_ne.2 h4
        obtain ⟨v9, w9, run, o9, b9, _⟩ := pushGrow w8 w.heap.size u3 L ⟨x2, y1, r3, m'⟩ (unhide O8) (by omega) (by have := (unhide K8).size; omega)
        have RUN := hide run
        have GO := hide o9
        have GU := hide ((cu_bel (unhide H00) (unhide U8) b9 (Nat.le_refl _)).mono (Q := P + 6 + 12 * (j + 1)) (by omega))
        have GK := hide (kx_bel (unhide K8) b9 (Nat.le_refl _))
        have gc := (unhide G8).cv
        have gcl := (unhide G8).lt
        obtain ⟨a9, c9, rfl⟩ := (unhide O8).opens
        have hL1 : (L ++ [(⟨x2, y1, r3, m'⟩ : GrowD)]).length = j + 1 := by rw [List.length_append, hL]; rfl
        obtain ⟨n, rfl⟩ : ∃ n', n = n' + 1 := ⟨n - 1, by omega⟩
        have HLL := hide hL1
        have HSN : Hid (∀ g ∈ L ++ [(⟨x2, y1, r3, m'⟩ : GrowD)], smG g) := fun g hg => by
          rcases List.mem_append.1 hg with h | h
          · exact unhide hSG g h
          · rw [List.mem_singleton.1 h]; unfold smG; dsimp only; omega
        have HL0 := hide hL
        clear run o9 b9 O8 U8 K8 G8 g8 g8l OB hL1 hL
        go_wp2_with (at_builtin; refine wpl_app rfl _ _ 40 rfl _ _ _ _ rfl rfl (unhide RUN) ?_)
        exact ⟨⟨j + 1, m', n, _, by omega, rfl, by go_num, hm2, unhide HLL, HSN, GO, GU, GK⟩, by simp [intOf]⟩
    · obtain rfl : n = 0 := by omega
      have F := hide (And.intro (unhide hO) (And.intro ((unhide hU).mono (Q := P + 1300) (by omega)) (unhide hK)))
      have hl9 : L.length ≤ 101 := by omega
      clear hO hU hK
      go_wp2
      go_ret
      exact ⟨_, L, rfl, hl9, unhide hSG, (unhide F).1, (unhide F).2.1, (unhide F).2.2⟩
end Go.Proofs.Ytpjpmlopmknllaa.Rc
