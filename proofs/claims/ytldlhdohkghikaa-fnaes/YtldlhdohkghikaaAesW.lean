/-
  The law on AES at drawn keys and blocks, walked.
-/
import Derived.Test.YtldlhdohkghikaaTrn
import Derived.Test.YtldlhdohkghikaaLbl
namespace Go.Proofs.Ytldlhdohkghikaa.fnAes
open Go.ChangeShapes Go.WideShapes Go.ChangeAt Go.RowKit
set_option linter.unusedVariables false

set_option maxRecDepth 100000 in
set_option maxHeartbeats 1000000 in
theorem walk_in (a : Option Addr) (N cap : Nat) (b' : Option Addr) (M cap2 : Nat) (w : World) (hN : N + M ≤ 1048576) (hC : Cd w a N) (hC2 : Cd w b' M) :
    Calls Try.prog 3 #[.slice a N cap, .slice b' M cap2] w fun e w' => e = .returned (.bool true) ∧ Below w.heap.size w w' := by
  have HCD := hide hC
  have HCE := hide hC2
  clear hC hC2
  go_enter Try.func3, Try.ntmps3
  go_wp2_with fail
  refine (drawAesBlock_any a N cap _ (by omega) (unhide HCD)).mono ?_
  rintro e w1 ⟨k, b, rfl, hk, hb, b1⟩
  have B1 := hide b1
  have C1 := hide ((unhide HCE).below b1)
  clear b1 HCD HCE
  by_cases hok : k.size = 16 ∧ b.size = 16
  · have HI := hide (fun W => implABk_ok k b hok W)
    have HS := hide (fun W => specAB_ok k b hok W)
    have H2 := hide (fun W => implBA_ok k (abW k b) ⟨hok.1, abW_size k b⟩ W)
    rw [ba_ab k b hok.2] at H2
    have H3 := hide (fun W => implBA_ok k b hok W)
    have H4 := hide (fun W => implABk_ok k (baW k b) ⟨hok.1, bq_size _ _⟩ W)
    rw [ab_ba k b hok.2] at H4
    have H5 := hide (fun r (hr : r < 1000003) W => turned16 b hok.2 r hr W)
    have H6 : Hid (∀ c : ByteArray, c.size = 16 → c ≠ b → ∃ o : ByteArray, o ≠ abW k b ∧ ∀ W, Calls Try.prog 9 #[.string k, .string c] W fun e w' => e = .returned (.tuple #[.string o, .bool true]) ∧ Below W.heap.size W w') :=
      fun c hc hne => ⟨abW k c, fun e9 => hne (ab_inj k c b hc hok.2 e9), fun W => implABk_ok k c ⟨hok.1, hc⟩ W⟩
    have H7 := hide (fun W => implRK_ok k hok.1 W)
    have hz7 := bq_size 176 (ck (at8 k) 10)
    have hx7 := rk_text k hok.1
    generalize abW k b = s at *
    generalize baW k b = h at *
    generalize bq 176 (ck (at8 k) 10) = ky at *
    have HX7 := hide hx7
    clear hx7
    go_wp2_with fail
    refine (unhide HI _).mono ?_
    rintro e w2 ⟨rfl, b2⟩
    have B2 := hide ((unhide B1).trans (b2.mono (unhide B1).size))
    have C2 := hide ((unhide C1).below b2)
    clear b2 B1 C1 HI
    go_wp2_with fail
    refine (unhide HS _).mono ?_
    rintro e w3 ⟨rfl, b3⟩
    have B3 := hide ((unhide B2).trans (b3.mono (unhide B2).size))
    have C3 := hide ((unhide C2).below b3)
    clear b3 B2 C2 HS
    go_wp2_with fail
    refine (unhide H2 _).mono ?_
    rintro e w4 ⟨rfl, b4⟩
    have B4 := hide ((unhide B3).trans (b4.mono (unhide B3).size))
    have C4 := hide ((unhide C3).below b4)
    clear b4 B3 C3 H2
    go_wp2_with fail
    refine (unhide H3 _).mono ?_
    rintro e w5 ⟨rfl, b5⟩
    have B5 := hide ((unhide B4).trans (b5.mono (unhide B4).size))
    have C5 := hide ((unhide C4).below b5)
    clear b5 B4 C4 H3
    go_wp2_with fail
    refine (unhide H4 _).mono ?_
    rintro e w6 ⟨rfl, b6⟩
    have B6 := hide ((unhide B5).trans (b6.mono (unhide B5).size))
    have C6 := hide ((unhide C5).below b6)
    clear b6 B5 C5 H4
    go_wp2_with fail
    refine (numberOf_any b' M cap2 _ (by omega) (unhide C6)).mono ?_
    rintro e w7 ⟨r, rfl, hr, b7⟩
    have B7 := hide ((unhide B6).trans (b7.mono (unhide B6).size))
    clear b7 B6 C6
    go_wp2_with fail
    refine (unhide H5 r hr _).mono ?_
    rintro e w8 ⟨c, rfl, hc, hcb, b8⟩
    have B8 := hide ((unhide B7).trans (b8.mono (unhide B7).size))
    obtain ⟨o, hos, H8'⟩ := unhide H6 c hc hcb
    have H8 := hide H8'
    clear b8 B7 H5 H6 hcb H8'
    go_wp2_with fail
    refine (unhide H8 _).mono ?_
    rintro e w9 ⟨rfl, b9⟩
    have B9 := hide ((unhide B8).trans (b9.mono (unhide B8).size))
    clear b9 B8 H8
    go_wp2_with fail
    refine (unhide H7 _).mono ?_
    rintro e w10 ⟨rfl, b10⟩
    have B10 := hide ((unhide B9).trans (b10.mono (unhide B9).size))
    clear b10 B9 H7
    have hx7 := unhide HX7
    have q1 : ¬ o.toList = s.toList := fun e9 => by
      rw [ByteArray.toList_eq, ByteArray.toList_eq] at e9
      exact hos (Go.WideShapes.bytes_inj e9)
    have q2 : (o.toList == s.toList) = false := beq_false_of_ne q1
    clear hos
    go_wp2
    go_ret
    exact ⟨rfl, unhide B10⟩
  · have HI := hide (fun W => implABk_no k b hok (by omega) (by omega) W)
    have HS := hide (fun W => specAB_no k b hok (by omega) (by omega) W)
    go_wp2_with fail
    refine (unhide HI _).mono ?_
    rintro e w2 ⟨rfl, b2⟩
    have B2 := hide ((unhide B1).trans (b2.mono (unhide B1).size))
    clear b2 B1 C1 HI
    go_wp2_with fail
    refine (unhide HS _).mono ?_
    rintro e w3 ⟨rfl, b3⟩
    have B3 := hide ((unhide B2).trans (b3.mono (unhide B2).size))
    clear b3 B2 HS
    go_wp2
    go_ret
    exact ⟨rfl, unhide B3⟩
theorem walk (a : Option Addr) (N cap : Nat) (b : Option Addr) (M cap2 : Nat) (w : World) (hN : N ≤ 140737488355328) (hM : M ≤ 140737488355328) (hC : Cd w a N) (hC2 : Cd w b M) :
    Calls Try.prog 3 #[.slice a N cap, .slice b M cap2] w fun e w' => e = .returned (.bool true) ∧ Below w.heap.size w w' := by
  by_cases hl : (1048576 : Int) < (N : Int) + (M : Int)
  · go_enter Try.func3, Try.ntmps3
    go_wp2
    go_ret
    exact ⟨rfl, Below.refl _ _⟩
  · exact walk_in a N cap b M cap2 w (by omega) hC hC2
end Go.Proofs.Ytldlhdohkghikaa.fnAes
