/-
  The law on numbers with what stands above them, walked.
-/
import Derived.Test.YtidgjjbdabifnabDpf
import Derived.Test.YtidgjjbdabifnabFpu
import Derived.Deep.DeepCutAuto
namespace Go.Proofs.Ytidgjjbdabifnab.Rc
open Go.ChangeShapes Go.WideShapes Go.ChangeAt Go.RowKit Go.Deep
set_option linter.unusedVariables false
set_option maxRecDepth 100000

/-- what is told is read back, whatever stands behind it -/
theorem tpA_back (n b f : Nat) (t : ByteArray) (h : pfG n b f = true) : tpA (pfT n b f ++ t) (b : Int) = (n, f, (pfT n b f).size) := by
  unfold pfG at h
  simp only [Bool.and_eq_true, decide_eq_true_eq, Int.toNat_natCast] at h
  unfold tpA
  rw [if_pos (by omega), Int.toNat_natCast]
  have e : (pfT n b f ++ t).data.toList = pfL n b f ++ t.data.toList := by
    rw [ByteArray.data_append]
    unfold pfT
    simp
  rw [e, tkP_pfL n b f t.data.toList (by omega) (by omega) (by omega) (by omega) h.2.2.2]
  unfold pfT
  show _ = (n, f, (pfL n b f).toArray.size)
  simp
set_option maxHeartbeats 4000000 in
theorem prefixed_given (a0 : Option Addr) (n0 c0 : Nat) (a1 : Option Addr) (n1 c1 : Nat) (w : World) (hsz : n0 + n1 ≤ 1048576) (h0 : Cd w a0 n0) (h1 : Cd w a1 n1) :
    Calls Try.prog 4 #[.slice a0 n0 c0, .slice a1 n1 c1] w fun e w' => e = .returned (.bool true) ∧ Below w.heap.size w w' := by
  have hlen : ¬ (1048576 : Int) < (n0 : Int) + (n1 : Int) := by omega
  have hwr : IntKind.i64.wrap ((n0 : Int) + (n1 : Int)) = (n0 : Int) + (n1 : Int) := by rw [IntKind.wrap_i64]; omega
  have HD := hide (drawPB_any a0 n0 c0 w (by omega) h0)
  have H1 := hide (fun W (b : Below w.heap.size w W) => drawTP_any a1 n1 c1 W (by omega) (h1.below b))
  clear h0 h1
  go_enter Try.func4, Try.ntmps4
  go_wp2_with fail
  refine (unhide HD).mono ?_
  rintro e w1 ⟨n, b, f, rfl, b1⟩
  have B1 := hide b1
  clear b1 HD
  go_wp2_with fail
  refine (implPB n b f _).mono ?_
  rintro e w2 ⟨rfl, b2⟩
  have B2 := hide ((unhide B1).trans (b2.mono (unhide B1).size))
  clear b2 B1
  go_wp2_with fail
  refine (specPB n b f _).mono ?_
  rintro e w3 ⟨rfl, b3⟩
  have B3 := hide ((unhide B2).trans (b3.mono (unhide B2).size))
  clear b3 B2
  have HF : Hid (pfG n b f = true → ∃ n' b' f' : Nat, n = n' ∧ b = b' ∧ f = f' ∧ (pfR n b f).size ≤ 6 ∧ ∀ u, tpA (pfR n b f ++ u) b = (n', f', (pfR n b f).size)) := fun hG => by
    have hG2 := hG
    unfold pfG at hG2
    simp only [Bool.and_eq_true, decide_eq_true_eq] at hG2
    obtain ⟨n', rfl⟩ := Int.eq_ofNat_of_zero_le hG2.1.1
    obtain ⟨b', rfl⟩ := Int.eq_ofNat_of_zero_le (show 0 ≤ b by omega)
    obtain ⟨f', rfl⟩ := Int.eq_ofNat_of_zero_le hG2.2.2.1.1
    have hR : pfR n' b' f' = pfT n' b' f' := by unfold pfR; rw [if_pos hG]; rfl
    refine ⟨n', b', f', rfl, rfl, rfl, pfR_size _ _ _, fun u => ?_⟩
    rw [hR]
    exact tpA_back n' b' f' u hG
  generalize pfR n b f = t at *
  generalize pfG n b f = g at *
  go_upto_if 57 with fail
  go_cut [12, 13, 14] (fun _ _ _ wx => Hid (Below w.heap.size w wx))
  case first =>
    cases g with
    | true =>
      obtain ⟨n', b', f', rfl, rfl, rfl, hz, hT⟩ := unhide HF rfl
      have hzm : (t ++ (⟨#[109, 111, 114, 101]⟩ : ByteArray)).size ≤ maxLen := by
        rw [ByteArray.size_append]
        unfold maxLen
        show _ + 4 ≤ _
        omega
      have HT := hide (fun W => implTPx (t ++ (⟨#[109, 111, 114, 101]⟩ : ByteArray)) (b' : Int) W hzm)
      rw [hT] at HT
      clear hT hzm
      go_wp2_with fail
      refine (unhide HT _).mono ?_
      rintro e w4 ⟨rfl, b4⟩
      have B4 := hide ((unhide B3).trans (b4.mono (unhide B3).size))
      clear b4
      go_wp2
      go_meet
      exact B4
    | false =>
      go_wp2
      go_meet
      exact B3
  case rest =>
  have B4 := hcut
  clear hcut B3
  obtain ⟨w4, hw4⟩ : ∃ V, V = wc := ⟨_, rfl⟩
  rw [← hw4] at B4 ⊢
  clear hw4
  go_wp2_with fail
  refine (unhide H1 _ (unhide B4)).mono ?_
  rintro e w5 ⟨t, b9, rfl, ht, b5⟩
  have B5 := hide ((unhide B4).trans (b5.mono (unhide B4).size))
  clear b5 B4
  have hz9 : t.size ≤ maxLen := by unfold maxLen; omega
  go_wp2_with fail
  refine (implTPx t b9 _ hz9).mono ?_
  rintro e w6 ⟨rfl, b6⟩
  have B6 := hide ((unhide B5).trans (b6.mono (unhide B5).size))
  clear b6 B5
  go_wp2_with fail
  refine (specTP t b9 _ hz9).mono ?_
  rintro e w7 ⟨rfl, b7⟩
  have B7 := hide ((unhide B6).trans (b7.mono (unhide B6).size))
  clear b7 B6
  go_wp2
  go_ret
  exact ⟨rfl, unhide B7⟩
end Go.Proofs.Ytidgjjbdabifnab.Rc
