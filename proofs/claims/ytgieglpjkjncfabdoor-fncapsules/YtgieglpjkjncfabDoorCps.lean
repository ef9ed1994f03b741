/-
  Contracts of the model: capsules read.
-/
import Derived.Test.YtgieglpjkjncfabDoorCpc
namespace Go.Proofs.YtgieglpjkjncfabDoor.Rc
open Go.ChangeShapes Go.WideShapes Go.ChangeAt Go.RowKit Go.Deep
set_option linter.unusedVariables false
set_option maxRecDepth 100000

theorem rdC_bad {f : Nat} {l : List UInt8} {p : Nat} {out : List CapsuleD} (h : rd1 l = none) : rdC f l p out = none := by unfold rdC; rw [h]
theorem rdC_lack {f : Nat} {l : List UInt8} {p : Nat} {out : List CapsuleD} (h : rd1 l = some none) : rdC f l p out = some (out, p) := by unfold rdC; rw [h]
theorem rdC_many {l : List UInt8} {p : Nat} {out : List CapsuleD} {x : CapsuleD × Nat} (h : rd1 l = some (some x)) : rdC 0 l p out = none := by obtain ⟨D, n⟩ := x; unfold rdC; rw [h]
theorem rdC_one {f : Nat} {l : List UInt8} {p : Nat} {out : List CapsuleD} {D : CapsuleD} {n : Nat} (h : rd1 l = some (some (D, n))) : rdC (f + 1) l p out = rdC f (l.drop n) (p + n) (out ++ [D]) := by conv => lhs; unfold rdC; rw [h]
set_option maxHeartbeats 8000000 in
theorem specRd (s : ByteArray) (w : World) (hs : s.size ≤ 1048576) :
    Calls Tryd.prog 29 #[.string s] w fun e w' => FcP w.heap.size (rdC 30 s.data.toList 0 []) e w' ∧ Below w.heap.size w w' := by
  have HTK := hide (fun (t : ByteArray) W (ht : t.size ≤ 1048576) => specTake_any t W (by unfold maxLen; omega))
  rw [show s.data.toList = dr s 0 from rfl]
  go_enter Tryd.func29, Tryd.ntmps29
  go_wp2_with fail
  go_loopw [5, 6] (fun v iv wr => ∃ (p : Nat) (out : List CapsuleD), p ≤ s.size ∧ out.length ≤ 30 ∧ iv = .int .i64 p ∧ Hid (Ro capsuleK 30 w.heap.size wr v out) ∧ Hid (Below w.heap.size w wr) ∧ Hid (rdC 30 (dr s 0) 0 [] = rdC (30 - out.length) (dr s p) p out)) (fun _ iv _ => s.size - (intOf iv).toNat)
  case atStart => exact ⟨0, [], Nat.zero_le _, by simp, rfl, Ro.nil _ _ _ _, Below.refl _ _, rfl⟩
  case round =>
    obtain ⟨p, out, hp, hout, rfl, hR, hB, hE⟩ := hrel
    have z0 : (0 : Int) ≤ (p : Int) := by omega
    have z1 : (p : Int) ≤ (s.size : Int) := by omega
    have z2 : ((p : Int)).toNat = p := by omega
    have z3 : IntKind.i64.wrap (p : Int) = (p : Int) := wraps_i64 _ (by omega) (by omega)
    have i1 := tk_in (dr s p)
    rw [dr_len] at i1
    have H1 := hide (fun W => unhide HTK (s.extract p s.size) W (by rw [ByteArray.size_extract]; omega))
    rw [ext_dr] at H1
    have hr1 : rd1 (dr s p) = if (tk (dr s p)).2 = 0 then some none else rdB (dr s p) (tk (dr s p)).1 (tk (dr s p)).2 (tk (dr s (p + (tk (dr s p)).2))) := by unfold rd1; rw [dr_drop]
    obtain ⟨y, hy⟩ : ∃ y, tk (dr s p) = y := ⟨_, rfl⟩
    rw [hy] at H1 i1 hr1
    clear hy
    by_cases h1 : y.2 = 0
    · rw [if_pos h1] at hr1
      have HE := hide ((unhide hE).trans (rdC_lack hr1))
      have h1b : ((y.2 : Nat) : Int) = 0 := by omega
      obtain ⟨a2, c2, rfl⟩ := (unhide hR).opens
      clear hr1 h1 hE i1
      go_wp2_with fail
      refine (unhide H1 _).mono ?_
      rintro e w1 ⟨rfl, b1⟩
      have HP := hide (show ∀ e, e = .returned (.tuple #[.slice a2 out.length c2, .int .i64 (p : Int), .bool true]) → FcP w.heap.size (some (out, p)) e w1 ∧ Below w.heap.size w w1 from fun e he => ⟨⟨a2, c2, he, (unhide hR).below b1⟩, (unhide hB).trans (b1.mono (unhide hB).size)⟩)
      clear b1 H1 hR hB
      go_wp2_with fail
      refine bodyPost_ret (v := .tuple #[.slice a2 out.length c2, .int .i64 (p : Int), .bool true]) (by simp [results, Tryd.results29, go_sem]) rfl ?_
      rw [unhide HE]
      exact unhide HP _ rfl
    rw [if_neg h1] at hr1
    have h1b : ((y.2 : Int) == 0) = false := beq_eq_false_iff_ne.2 (by omega)
    have i2 := tk_in (dr s (p + y.2))
    rw [dr_len] at i2
    have H2 := hide (fun W => unhide HTK (s.extract (p + y.2) s.size) W (by rw [ByteArray.size_extract]; omega))
    rw [ext_dr] at H2
    obtain ⟨x, hx⟩ : ∃ x, tk (dr s (p + y.2)) = x := ⟨_, rfl⟩
    rw [hx] at H2 i2 hr1
    clear hx
    obtain ⟨n, hn⟩ := Int.eq_ofNat_of_zero_le i2.1
    unfold rdB at hr1
    rw [hn] at H2 hr1
    have z4 : (0 : Int) ≤ (p : Int) + (y.2 : Int) := by omega
    have z5 : (p : Int) + (y.2 : Int) ≤ (s.size : Int) := by omega
    have z6 : ((p : Int) + (y.2 : Int)).toNat = p + y.2 := by omega
    have z7 : IntKind.i64.wrap ((p : Int) + (y.2 : Int)) = (p : Int) + (y.2 : Int) := wraps_i64 _ (by omega) (by omega)
    rw [dr_len] at hr1
    go_wp2_with fail
    refine (unhide H1 _).mono ?_
    rintro e w1 ⟨rfl, b1⟩
    have B1 := hide ((unhide hB).trans (b1.mono (unhide hB).size))
    have R1 := hide ((unhide hR).below b1)
    clear b1 hR hB H1 z0 z1 z2 z3
    go_wp2_with fail
    refine (unhide H2 _).mono ?_
    rintro e w2 ⟨rfl, b2⟩
    have B2 := hide ((unhide B1).trans (b2.mono (unhide B1).size))
    have R2 := hide ((unhide R1).below b2)
    clear b2 R1 B1 H2 z4 z5 z6 z7
    by_cases h2 : x.2 = 0
    · rw [if_pos h2] at hr1
      have HE := hide ((unhide hE).trans (rdC_lack hr1))
      have h2b : ((x.2 : Nat) : Int) = 0 := by omega
      obtain ⟨a2, c2, rfl⟩ := (unhide R2).opens
      clear hr1 h2 hE i1 i2 hn h1b
      go_wp2_with fail
      refine bodyPost_ret (v := .tuple #[.slice a2 out.length c2, .int .i64 (p : Int), .bool true]) (by simp [results, Tryd.results29, go_sem]) rfl ?_
      rw [unhide HE]
      exact ⟨⟨a2, c2, rfl, unhide R2⟩, unhide B2⟩
    rw [if_neg h2] at hr1
    have h2b : ((x.2 : Int) == 0) = false := beq_eq_false_iff_ne.2 (by omega)
    by_cases h3 : 200 < (n : Int)
    · rw [if_pos h3] at hr1
      have HE := hide ((unhide hE).trans (rdC_bad hr1))
      clear hr1 h2 hE i1 i2 hn h1b
      go_wp2_with fail
      refine bodyPost_ret (v := .tuple #[.slice none 0 0, .int .i64 0, .bool false]) (by simp [results, Tryd.results29, go_sem]) rfl ?_
      rw [unhide HE]
      exact ⟨FcP.no _ _, unhide B2⟩
    rw [if_neg h3] at hr1
    obtain ⟨q, hq⟩ : ∃ q, p + y.2 + x.2 = q := ⟨_, rfl⟩
    have e1 : (p : Int) + (y.2 : Int) + (x.2 : Int) = (q : Int) := by omega
    have hqs : q ≤ s.size := by omega
    have g1 : IntKind.i64.wrap ((p : Int) + (y.2 : Int)) = (p : Int) + (y.2 : Int) := wraps_i64 _ (by omega) (by omega)
    have g2 : IntKind.i64.wrap ((p : Int) + (y.2 : Int) + (x.2 : Int)) = (q : Int) := by rw [wraps_i64 _ (by omega) (by omega)]; omega
    have w0 : IntKind.i64.wrap ((s.size : Int) - (q : Int)) = (s.size : Int) - (q : Int) := wraps_i64 _ (by omega) (by omega)
    by_cases h4 : ((s.size - p : Nat) : Int) - ((y.2 + x.2 : Nat) : Int) < (n : Int)
    · rw [if_pos h4] at hr1
      have HE := hide ((unhide hE).trans (rdC_lack hr1))
      have h4b : (s.size : Int) - (q : Int) < (n : Int) := by omega
      obtain ⟨a2, c2, rfl⟩ := (unhide R2).opens
      have E1 := hide e1
      clear hr1 h2 hE i1 i2 hn h1b h4 hq e1
      go_wp2_with fail
      refine bodyPost_ret (v := .tuple #[.slice a2 out.length c2, .int .i64 (p : Int), .bool true]) (by simp [results, Tryd.results29, go_sem]) rfl ?_
      rw [unhide HE]
      exact ⟨⟨a2, c2, rfl, unhide R2⟩, unhide B2⟩
    rw [if_neg h4] at hr1
    have h4b : ¬ (s.size : Int) - (q : Int) < (n : Int) := by omega
    have hqn : q + n ≤ s.size := by omega
    rw [ext_txt, Int.toNat_natCast, show p + (y.2 + x.2) = q by omega, show y.2 + x.2 + n = q + n - p by omega] at hr1
    obtain ⟨a2, c2, rfl⟩ := (unhide R2).opens
    by_cases h5 : out.length = 30
    · have HE := hide (show rdC 30 (dr s 0) 0 [] = none by rw [unhide hE, h5]; exact rdC_many hr1)
      have h5b : ((out.length : Nat) : Int) = 30 := by omega
      have E1 := hide e1
      clear hr1 h2 hE i1 i2 hn h1b h4 hq e1 h5 hout
      go_wp2_with fail
      refine bodyPost_ret (v := .tuple #[.slice none 0 0, .int .i64 0, .bool false]) (by simp [results, Tryd.results29, go_sem]) rfl ?_
      rw [unhide HE]
      exact ⟨FcP.no _ _, unhide B2⟩
    have h5b : (((out.length : Nat) : Int) == 30) = false := beq_eq_false_iff_ne.2 (by omega)
    have HE : Hid (rdC 30 (dr s 0) 0 [] = rdC (30 - (out ++ [(⟨y.1, s.extract q (q + n)⟩ : CapsuleD)]).length) (dr s (q + n)) (q + n) (out ++ [⟨y.1, s.extract q (q + n)⟩])) := by
      show _ = _
      rw [unhide hE, show 30 - out.length = (29 - out.length) + 1 by omega, rdC_one hr1, dr_drop, show p + (q + n - p) = q + n by omega, show 30 - (out ++ [(⟨y.1, s.extract q (q + n)⟩ : CapsuleD)]).length = 29 - out.length by simp only [List.length_append, List.length_singleton]; omega]
    obtain ⟨v3, w3, run, o3, b3, _⟩ := pushCapsule w2 w.heap.size _ out ⟨y.1, s.extract q (q + n)⟩ (unhide R2) (by omega) (unhide B2).size
    have RUN := hide run
    have HO := hide o3
    have HB3 := hide ((unhide B2).trans b3)
    have z0 : (0 : Int) ≤ (q : Int) := by omega
    have z1 : (q : Int) ≤ (q : Int) + (n : Int) := by omega
    have z2 : (q : Int) + (n : Int) ≤ (s.size : Int) := by omega
    have z3 : (0 : Int) ≤ (q : Int) + (n : Int) := by omega
    have z4 : IntKind.i64.wrap ((q : Int) + (n : Int)) = (q : Int) + (n : Int) := wraps_i64 _ (by omega) (by omega)
    have z5 : ((q : Int) + (n : Int)).toNat = q + n := by omega
    have z6 : IntKind.i64.wrap (q : Int) = (q : Int) := wraps_i64 _ (by omega) (by omega)
    have hpq : p + 2 ≤ q + n := by omega
    have E1 := hide e1
    have hol : out.length < 30 := by omega
    clear hr1 h2 hE i1 i2 hn h1b h4 hq e1 h5 run o3 b3 B2 R2
    go_upto_region 12 with fail
    go_wp2_with (at_builtin; refine wpl_app rfl _ _ 23 rfl _ _ _ _ rfl rfl (unhide RUN) ?_)
    exact ⟨⟨q + n, out ++ [⟨y.1, s.extract q (q + n)⟩], hqn, by simp; omega, by go_num, HO, HB3, HE⟩, by simp [intOf]; omega⟩
end Go.Proofs.YtgieglpjkjncfabDoor.Rc
