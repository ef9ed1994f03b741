/-
  What is drawn of numbers with what stands above them.
-/
import Derived.Test.YtidgjjbdabifnabDkx
import Derived.Test.YtidgjjbdabifnabDrd
import Derived.Test.YtidgjjbdabifnabFpb
import Derived.Deep.DeepCutAuto
namespace Go.Proofs.Ytidgjjbdabifnab.Rc
open Go.ChangeShapes Go.WideShapes Go.ChangeAt Go.RowKit Go.Deep
set_option linter.unusedVariables false
set_option maxRecDepth 100000

set_option maxHeartbeats 2000000 in
theorem bytesM (cb : Nat) (a : Option Addr) (N cap P most : Nat) (w : World) (hN : N ≤ 1048576) (hP : P ≤ 500000) (hm : most ≤ 100) (h : Cu w cb a N cap P) :
    Calls Try.prog 31 #[.pointer (some ⟨cb, 0, none⟩), .int .i64 most] w fun e w' => ∃ (v : Value) (xs : List UInt8), e = .returned v ∧ xs.length ≤ most ∧ Bq w.heap.size w' v xs ∧ Cu w' cb a N cap (P + 200) ∧ Kx cb w w' := by
  have H0 := hide h
  have hcl := h.lt
  have e1 : IntKind.i64.wrap ((most : Int) + 1) = ((most + 1 : Nat) : Int) := by rw [IntKind.wrap_i64]; omega
  clear h
  go_enter Try.func31, Try.ntmps31
  go_wp2_with fail
  refine (pickN cb a N cap P (most + 1) _ hN (by omega) (by omega) (by omega) (unhide H0)).mono ?_
  rintro e w1 ⟨r, rfl, hr1, u1, k1⟩
  have U1 := hide u1
  have K1 := hide k1
  clear u1 k1
  go_wp2_with fail
  go_loopw [5, 6] (fun v iv wr => ∃ (k : Nat) (xs : List UInt8), iv = .int .i64 (k : Int) ∧ k + xs.length ≤ most ∧ Hid (Bq w.heap.size wr v xs) ∧ Hid (Cu wr cb a N cap (P + 2 + xs.length)) ∧ Hid (Kx cb w wr)) (fun _ iv _ => (intOf iv).toNat)
  case atStart => exact ⟨r, [], rfl, by simp; omega, Bq.nil _ _, U1, K1⟩
  case round =>
    obtain ⟨k, xs, rfl, hk, B0, U0, K0⟩ := hrel
    clear U1 K1
    by_cases hlt : 0 < k
    · have hki : (0 : Int) < (k : Int) := by omega
      have hsub : IntKind.i64.wrap ((k : Int) - 1) = ((k - 1 : Nat) : Int) := by rw [IntKind.wrap_i64]; omega
      go_wp2_with fail
      refine (next_any cb a N cap (P + 2 + xs.length) _ hN (by omega) (unhide U0)).mono ?_
      rintro e w2 ⟨x, rfl, hx0, hx1, u2, k2⟩
      obtain ⟨y, rfl⟩ := Int.eq_ofNat_of_zero_le hx0
      have hkk := (unhide K0).trans k2
      have b2 := (unhide B0).kq (kx_kq k2) (fun q hq => by omega)
      obtain ⟨v', w', r1, r2, r3⟩ := b2.push (UInt8.ofNat y) (y : Int) (by simp; omega) (by omega) hkk.size
      have u3 := cu_bel (unhide H0) u2 r3 (Nat.le_refl _)
      have k3 := kx_bel hkk r3 (Nat.le_refl _)
      have RUN := hide r1
      have hw : IntKind.u8.wrap (y : Int) = (y : Int) := by rw [IntKind.wrap_u8]; omega
      have Z := hide (show ∃ (k' : Nat) (xs' : List UInt8), ((k - 1 : Nat) : Int) = (k' : Int) ∧ k' + xs'.length ≤ most ∧ Hid (Bq w.heap.size w' v' xs') ∧ Hid (Cu w' cb a N cap (P + 2 + xs'.length)) ∧ Hid (Kx cb w w') from ⟨k - 1, xs ++ [UInt8.ofNat y], rfl, by simp; omega, r2, u3.mono (by simp; omega), k3⟩)
      have hdec : Hid (((k - 1 : Nat) : Int).toNat < k) := (by omega : ((k - 1 : Nat) : Int).toNat < k)
      clear B0 U0 K0 b2 r1 r2 r3 u2 u3 k2 k3 hkk
      generalize ((k - 1 : Nat) : Int) = km at *
      go_wp2_with (at_builtin; refine wpl_app rfl _ _ 30 rfl _ _ _ _ rfl rfl (unhide RUN) ?_)
      obtain ⟨k', xs', e, rr⟩ := unhide Z
      exact ⟨⟨k', xs', by rw [e], rr⟩, by simpa [intOf] using unhide hdec⟩
    · have hki : ¬ (0 : Int) < (k : Int) := by omega
      have hkl : xs.length ≤ most := by omega
      go_wp2
      go_ret
      exact ⟨_, rfl, xs, hkl, unhide B0, (unhide U0).mono (by omega), unhide K0⟩
set_option maxHeartbeats 4000000 in
theorem drawPB_any (a : Option Addr) (N cap : Nat) (w : World) (hN : N ≤ 1048576) (h : Cd w a N) :
    Calls Try.prog 10 #[.slice a N cap] w fun e w' => ∃ (n b f : Int), e = .returned (.tuple #[.int .i64 n, .int .i64 b, .int .i64 f]) ∧ Below w.heap.size w w' := by
  have U0 := hide (cu_first cap 49 h)
  have K0 := hide ((Kx.refl w.heap.size (w.alloc (.cells #[.slice a N cap, .int .i64 0, .int .u64 0] 49))))
  clear h
  go_enter Try.func10, Try.ntmps10
  go_wp2_with fail
  refine (pickN w.heap.size a N cap 0 6 _ hN (by omega) (by omega) (by omega) (unhide U0)).mono ?_
  rintro e w1 ⟨r, rfl, hr, u1, k1⟩
  have U1 := hide u1
  have K1 := hide k1
  clear u1 k1 U0 K0
  have e3 : IntKind.i64.wrap ((3 : Int) + (r : Int)) = ((3 + r : Nat) : Int) := by rw [IntKind.wrap_i64]; omega
  go_wp2_with fail
  refine (pickN w.heap.size a N cap 2 300 _ hN (by omega) (by omega) (by omega) (unhide U1)).mono ?_
  rintro e w2 ⟨n, rfl, hn, u2, k2⟩
  have U2 := hide u2
  have K2 := hide ((unhide K1).trans k2)
  clear u2 k2 U1 K1
  go_wp2_with fail
  refine (one_any w.heap.size a N cap 4 6 _ hN (by omega) (by omega) (by omega) (unhide U2)).mono ?_
  rintro e w3 ⟨o1, rfl, u3, k3⟩
  have U3 := hide u3
  have K3 := hide ((unhide K2).trans k3)
  clear u3 k3 U2 K2
  go_upto_if 18 with fail
  go_cut [7] (fun x wx => ∃ n' : Int, x = .int .i64 n' ∧ Hid (Cu wx w.heap.size a N cap 8) ∧ Hid (Kx w.heap.size (w.alloc (.cells #[.slice a N cap, .int .i64 0, .int .u64 0] 49)) wx))
  case first =>
    cases o1 with
    | false =>
      go_wp2
      go_meet
      exact ⟨n, rfl, (unhide U3).mono (by omega), K3⟩
    | true =>
      go_wp2_with fail
      refine (among_any w.heap.size a N cap 6 w3.heap.size 8 8 (fun _ => True) _ hN (by omega) (by omega) (by omega) (by simp) (by have := (unhide U3).lt; omega)
        (lit_cells w3 [-1, 1000000000, 1000000001, 126, 127, 254, 255, 16383] 3 _ (by decide)) ((unhide U3).alloc _)).mono ?_
      rintro e w4 ⟨x4, rfl, _, u4, k4⟩
      have U4 := hide u4
      have K4 := hide (((unhide K3).alloc _).trans k4)
      clear u4 k4
      go_wp2
      go_meet
      exact ⟨x4, rfl, U4, K4⟩
  case rest =>
  obtain ⟨n4, rfl, U4, K4⟩ := hcut
  clear U3 K3
  obtain ⟨w4, hw4⟩ : ∃ V, V = wc := ⟨_, rfl⟩
  rw [← hw4] at U4 K4 ⊢
  clear hw4
  go_upto_region 6 with fail
  go_cut [8] (fun x wx => ∃ z : Int, x = .int .i64 z ∧ Hid (Cu wx w.heap.size a N cap 10) ∧ Hid (Kx w.heap.size (w.alloc (.cells #[.slice a N cap, .int .i64 0, .int .u64 0] 49)) wx))
  case first =>
    have hr6 : r = 0 ∨ r = 1 ∨ r = 2 ∨ r = 3 ∨ r = 4 ∨ r = 5 := by omega
    clear e3
    rcases hr6 with rfl | rfl | rfl | rfl | rfl | rfl
    all_goals
      go_wp2_with fail
      refine (pickN w.heap.size a N cap 8 256 _ hN (by omega) (by omega) (by omega) (unhide U4)).mono ?_
      rintro e w5 ⟨r5, rfl, hr5, u5, k5⟩
      have U5 := hide u5
      have K5 := hide ((unhide K4).trans k5)
      clear u5 k5
      go_wp2
      go_meet
      exact ⟨_, rfl, U5, K5⟩
  case rest =>
  obtain ⟨z, rfl, U5, K5⟩ := hcut
  clear U4 K4
  obtain ⟨w5, hw5⟩ : ∃ V, V = wc := ⟨_, rfl⟩
  rw [← hw5] at U5 K5 ⊢
  clear hw5
  go_wp2_with fail
  refine (one_any w.heap.size a N cap 10 16 _ hN (by omega) (by omega) (by omega) (unhide U5)).mono ?_
  rintro e w6 ⟨o2, rfl, u6, k6⟩
  have U6 := hide u6
  have K6 := hide ((unhide K5).trans k6)
  clear u6 k6 U5 K5
  cases o2 with
  | false =>
    go_wp2
    go_ret3
    exact ⟨_, _, _, rfl, (unhide K6).draw⟩
  | true =>
    go_wp2_with fail
    refine (pickN w.heap.size a N cap 12 260 _ hN (by omega) (by omega) (by omega) (unhide U6)).mono ?_
    rintro e w7 ⟨r7, rfl, hr7, u7, k7⟩
    have K7 := hide ((unhide K6).trans k7)
    have e7 : IntKind.i64.wrap ((r7 : Int) - 2) = (r7 : Int) - 2 := by rw [IntKind.wrap_i64]; omega
    clear u7 k7 U6 K6
    go_wp2
    go_ret3
    exact ⟨_, _, _, rfl, (unhide K7).draw⟩
theorem pfR_size (n b f : Int) : (pfR n b f).size ≤ 6 := by
  unfold pfR
  split
  · have := (pfL_len n.toNat b.toNat f.toNat).2
    unfold pfT
    show (pfL n.toNat b.toNat f.toNat).toArray.size ≤ 6
    simpa using this
  · decide
set_option maxHeartbeats 4000000 in
theorem drawTP_any (a : Option Addr) (N cap : Nat) (w : World) (hN : N ≤ 1048576) (h : Cd w a N) :
    Calls Try.prog 14 #[.slice a N cap] w fun e w' => ∃ (t : ByteArray) (b : Int), e = .returned (.tuple #[.string t, .int .i64 b]) ∧ t.size ≤ 1000 ∧ Below w.heap.size w w' := by
  obtain ⟨W0, hW0⟩ : ∃ V, V = w.alloc (.cells #[.slice a N cap, .int .i64 0, .int .u64 0] 49) := ⟨_, rfl⟩
  have u0 := cu_first cap 49 h
  rw [← hW0] at u0
  have U0 := hide u0
  have HD := hide (drawPB_any a N cap W0 hN (h.below (by rw [hW0]; exact (Below.refl _ _).alloc (Nat.le_refl _) _)))
  have hs0 := u0.lt
  have HW := hide hW0
  have KD := hide (fun W (k : Kx w.heap.size W0 W) => (show Below w.heap.size w W by rw [hW0] at k; exact k.draw))
  clear h u0 hW0
  go_enter Try.func14, Try.ntmps14
  go_upto_region 2 with fail
  rw [← unhide HW]
  clear HW
  go_wp2_with fail
  refine (unhide HD).mono ?_
  rintro e w1 ⟨n, b, f, rfl, b1⟩
  have U1 := hide ((unhide U0).same b1)
  have K1 := hide (Kx.of (cb := w.heap.size) b1)
  clear b1 HD
  go_wp2_with fail
  refine (specPB n b f _).mono ?_
  rintro e w2 ⟨rfl, b2⟩
  have U2 := hide ((unhide U1).same b2)
  have K2 := hide ((unhide K1).trans (Kx.of (cb := w.heap.size) b2))
  have hz := pfR_size n b f
  clear b2 U1 K1
  generalize pfR n b f = t0 at *
  generalize pfG n b f = g0 at *
  go_wp2_with fail
  refine (pickN w.heap.size a N cap 0 4 _ hN (by omega) (by omega) (by omega) (unhide U2)).mono ?_
  rintro e w3 ⟨r, rfl, hr, u3, k3⟩
  have U3 := hide u3
  have K3 := hide ((unhide K2).trans k3)
  clear u3 k3 U2 K2
  by_cases h0 : r = 0
  · subst h0
    go_wp2_with fail
    refine (bytesM w.heap.size a N cap 2 4 _ hN (by omega) (by omega) (unhide U3)).mono ?_
    rintro e w4 ⟨v, xs, rfl, hx, hB, u4, k4⟩
    have hc := hB.string
    have K4 := hide ((unhide K3).trans k4)
    obtain ⟨a4, c4, rfl⟩ := hB.opens
    have hxs : (⟨xs.toArray⟩ : ByteArray).size ≤ 4 := by
      show xs.toArray.size ≤ 4
      simpa using hx
    clear u4 k4 hB U3 K3 hx
    generalize (⟨xs.toArray⟩ : ByteArray) = t1 at *
    go_wp2
    go_ret2
    exact ⟨_, _, rfl, by rw [ByteArray.size_append]; omega, unhide KD _ (unhide K4)⟩
  · by_cases h1 : r = 1
    · subst h1
      go_wp2_with fail
      refine (of_any w.heap.size a N cap 2 w3.heap.size 6 6 (fun x => x.size ≤ 6) _ hN (by omega) (by omega) (by omega) (by simp) (by have := (unhide U3).lt; omega)
        (lit_texts w3 [⟨#[]⟩, ⟨#[255]⟩, ⟨#[255, 128, 128, 128, 128, 128]⟩, ⟨#[255, 255, 255, 255, 255, 127]⟩, ⟨#[255, 128, 0]⟩, ⟨#[31, 154, 10]⟩] 9 _ (by decide)) ((unhide U3).alloc _)).mono ?_
      rintro e w4 ⟨x4, rfl, hx4, u4, k4⟩
      have K4 := hide (((unhide K3).alloc _).trans k4)
      clear u4 k4 U3 K3
      go_wp2
      go_ret2
      exact ⟨_, _, rfl, by omega, unhide KD _ (unhide K4)⟩
    · have d0 : ¬ (r : Int) = 0 := by omega
      have d1 : ¬ (r : Int) = 1 := by omega
      have e0 : ((r : Int) == 0) = false := by simp; omega
      have e1 : ((r : Int) == 1) = false := by simp; omega
      clear h0 h1
      go_wp2
      go_ret2
      exact ⟨_, _, rfl, by omega, unhide KD _ (unhide K3)⟩
end Go.Proofs.Ytidgjjbdabifnab.Rc
