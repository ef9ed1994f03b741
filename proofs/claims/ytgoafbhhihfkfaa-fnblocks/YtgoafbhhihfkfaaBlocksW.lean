/-
  The law on products of drawn blocks, walked.
-/
import Derived.Test.YtgoafbhhihfkfaaMbk
import Derived.Test.YtgoafbhhihfkfaaDra
namespace Go.Proofs.Ytgoafbhhihfkfaa.fnBlocks
open Go.ChangeShapes Go.WideShapes Go.ChangeAt Go.RowKit
set_option linter.unusedVariables false

theorem drawMul_any (a : Option Addr) (N cap : Nat) (w : World) (hN : N ≤ 1048576) (h : Cd w a N) :
    Calls Try.prog 9 #[.slice a N cap] w fun e w' => ∃ k b : ByteArray, e = .returned (.tuple #[.string k, .string b]) ∧ k.size ≤ 17 ∧ b.size ≤ 17 ∧ Below w.heap.size w w' := by
  have H := hide (drawAesBlock_any a N cap w hN h)
  clear h
  go_enter Try.func9, Try.ntmps9
  go_wp2_with fail
  refine (unhide H).mono ?_
  rintro e w1 ⟨k, b, rfl, hk, hb, b1⟩
  have B1 := hide b1
  clear b1
  go_wp2
  go_ret2
  exact ⟨k, b, rfl, hk, hb, unhide B1⟩
set_option maxRecDepth 100000 in
set_option maxHeartbeats 1000000 in
theorem walk_in (a : Option Addr) (N cap : Nat) (b' : Option Addr) (M cap2 : Nat) (w : World) (hN : N + M ≤ 1048576) (hC : Cd w a N) (hC2 : Cd w b' M) :
    Calls Try.prog 3 #[.slice a N cap, .slice b' M cap2] w fun e w' => e = .returned (.bool true) ∧ Below w.heap.size w w' := by
  have HCD := hide hC
  have HCE := hide hC2
  clear hC hC2
  go_enter Try.func3, Try.ntmps3
  go_wp2_with fail
  refine (drawMul_any a N cap _ (by omega) (unhide HCD)).mono ?_
  rintro e w1 ⟨k, b, rfl, hk, hb, b1⟩
  have B1 := hide b1
  have C1 := hide ((unhide HCE).below b1)
  clear b1 HCD HCE
  go_wp2_with fail
  refine (drawMul_any b' M cap2 _ (by omega) (unhide C1)).mono ?_
  rintro e w2 ⟨c, d, rfl, hc, hd, b2⟩
  have B2 := hide ((unhide B1).trans (b2.mono (unhide B1).size))
  clear b2 B1 C1
  by_cases hok : k.size = 16 ∧ b.size = 16
  · have HI := hide (fun W => implMB_ok k b hok W)
    have HS := hide (fun W => specMB_ok k b hok W)
    by_cases hc16 : c.size = 16
    · have hp := mbW_size k b
      have hy := mbW_size b c
      have H1 := fun W => implMB_ok b k ⟨hok.2, hok.1⟩ W
      rw [mb_comm k b] at H1
      have H2 := fun W => implMB_ok (mbW k b) c ⟨hp, hc16⟩ W
      rw [mb_assoc k b c] at H2
      have H3 := fun W => implMB_ok b c ⟨hok.2, hc16⟩ W
      have H4 := fun W => implMB_ok k (mbW b c) ⟨hok.1, hy⟩ W
      have H5 := fun W => lawXored b c (by omega) (by omega) W
      have H6 := fun W => implMB_ok k (xoW b c) ⟨hok.1, by rw [xoW_size]; exact hok.2⟩ W
      rw [mb_xor k b c hok.2 hc16] at H6
      have H7 := fun W => implMB_ok k c ⟨hok.1, hc16⟩ W
      have H8 := fun W => lawXored (mbW k b) (mbW k c) (by rw [mbW_size, mbW_size]; exact Nat.le_refl _) (by rw [mbW_size]; omega) W
      have H1 := hide H1
      have H2 := hide H2
      have H3 := hide H3
      have H4 := hide H4
      have H5 := hide H5
      have H6 := hide H6
      have H7 := hide H7
      have H8 := hide H8
      generalize xoW (mbW k b) (mbW k c) = r8 at *
      generalize mbW k (mbW b c) = r4 at *
      generalize xoW b c = r5 at *
      generalize mbW k c = r7 at *
      generalize mbW b c = r3 at *
      generalize mbW k b = r1 at *
      clear hp hy
      go_wp2_with fail
      refine (unhide HI _).mono ?_
      rintro e w3 ⟨rfl, b3⟩
      have B3 := hide ((unhide B2).trans (b3.mono (unhide B2).size))
      clear b3 B2 HI
      go_wp2_with fail
      refine (unhide HS _).mono ?_
      rintro e w4 ⟨rfl, b4⟩
      have B4 := hide ((unhide B3).trans (b4.mono (unhide B3).size))
      clear b4 B3 HS
      go_wp2_with fail
      refine (unhide H1 _).mono ?_
      rintro e w5 ⟨rfl, b5⟩
      have B5 := hide ((unhide B4).trans (b5.mono (unhide B4).size))
      clear b5 B4 H1
      go_wp2_with fail
      refine (unhide H2 _).mono ?_
      rintro e w6 ⟨rfl, b6⟩
      have B6 := hide ((unhide B5).trans (b6.mono (unhide B5).size))
      clear b6 B5 H2
      go_wp2_with fail
      refine (unhide H3 _).mono ?_
      rintro e w7 ⟨rfl, b7⟩
      have B7 := hide ((unhide B6).trans (b7.mono (unhide B6).size))
      clear b7 B6 H3
      go_wp2_with fail
      refine (unhide H4 _).mono ?_
      rintro e w8 ⟨rfl, b8⟩
      have B8 := hide ((unhide B7).trans (b8.mono (unhide B7).size))
      clear b8 B7 H4
      go_wp2_with fail
      refine (unhide H5 _).mono ?_
      rintro e w9 ⟨rfl, b9⟩
      have B9 := hide ((unhide B8).trans (b9.mono (unhide B8).size))
      clear b9 B8 H5
      go_wp2_with fail
      refine (unhide H6 _).mono ?_
      rintro e w10 ⟨rfl, b10⟩
      have B10 := hide ((unhide B9).trans (b10.mono (unhide B9).size))
      clear b10 B9 H6
      go_wp2_with fail
      refine (unhide H7 _).mono ?_
      rintro e w11 ⟨rfl, b11⟩
      have B11 := hide ((unhide B10).trans (b11.mono (unhide B10).size))
      clear b11 B10 H7
      go_wp2_with fail
      refine (unhide H8 _).mono ?_
      rintro e w12 ⟨rfl, b12⟩
      have B12 := hide ((unhide B11).trans (b12.mono (unhide B11).size))
      clear b12 B11 H8
      go_wp2
      go_ret
      exact ⟨rfl, unhide B12⟩
    · have hcI : ((c.size : Int) != 16) = true := by simp; omega
      go_wp2_with fail
      refine (unhide HI _).mono ?_
      rintro e w3 ⟨rfl, b3⟩
      have B3 := hide ((unhide B2).trans (b3.mono (unhide B2).size))
      clear b3 B2 HI
      go_wp2_with fail
      refine (unhide HS _).mono ?_
      rintro e w4 ⟨rfl, b4⟩
      have B4 := hide ((unhide B3).trans (b4.mono (unhide B3).size))
      clear b4 B3 HS
      go_wp2
      go_ret
      exact ⟨rfl, unhide B4⟩
  · have HI := hide (fun W => implMB_no k b hok (by omega) (by omega) W)
    have HS := hide (fun W => specMB_no k b hok (by omega) (by omega) W)
    go_wp2_with fail
    refine (unhide HI _).mono ?_
    rintro e w3 ⟨rfl, b3⟩
    have B3 := hide ((unhide B2).trans (b3.mono (unhide B2).size))
    clear b3 B2 HI
    go_wp2_with fail
    refine (unhide HS _).mono ?_
    rintro e w4 ⟨rfl, b4⟩
    have B4 := hide ((unhide B3).trans (b4.mono (unhide B3).size))
    clear b4 B3 HS
    go_wp2
    go_ret
    exact ⟨rfl, unhide B4⟩
theorem walk (a : Option Addr) (N cap : Nat) (b : Option Addr) (M cap2 : Nat) (w : World) (hN : N ≤ 140737488355328) (hM : M ≤ 140737488355328) (hC : Cd w a N) (hC2 : Cd w b M) :
    Calls Try.prog 3 #[.slice a N cap, .slice b M cap2] w fun e w' => e = .returned (.bool true) ∧ Below w.heap.size w w' := by
  by_cases hl : (1048576 : Int) < (N : Int) + (M : Int)
  · go_enter Try.func3, Try.ntmps3
    go_wp2
    go_ret
    exact ⟨rfl, Below.refl _ _⟩
  · exact walk_in a N cap b M cap2 w (by omega) hC hC2
end Go.Proofs.Ytgoafbhhihfkfaa.fnBlocks
