/-
  The law on CapsulesBytes, walked out of the contracts of both sides.
-/
import Derived.Test.YtgieglpjkjncfaaDoorCpo
namespace Go.Proofs.YtgieglpjkjncfaaDoor.Rc
open Go.ChangeShapes Go.WideShapes Go.ChangeAt Go.RowKit Go.Deep
set_option linter.unusedVariables false
set_option maxRecDepth 100000

set_option maxHeartbeats 8000000 in
theorem capsulesBytes_given (L0 : List CapsuleD) (r0 : ByteArray) (r1 : Bool) (w : World) (a0 : Option Addr) (c0 : Nat) (m0 : L0.length ≤ maxLen) (k0 : ∀ i, i < L0.length → (gt capsuleK L0 i).f1.size ≤ maxLen) (h0 : Rd capsuleK w a0 L0)
    (HS : L0.length ≤ 1048576 → (∀ i, i < L0.length → (gt capsuleK L0 i).f1.size ≤ 1048576) → ∀ (W : World) (a0 : Option Addr) (c0 : Nat) (_ : Rd capsuleK W a0 L0), Calls Tryd.prog 6 #[.slice a0 L0.length c0] W fun e w' => e = .returned (.tuple #[.string r0, .bool r1]) ∧ Below W.heap.size W w')
    (HI : L0.length ≤ 1048576 → (∀ i, i < L0.length → (gt capsuleK L0 i).f1.size ≤ 1048576) → ∀ (W : World) (a0 : Option Addr) (c0 : Nat) (_ : Rd capsuleK W a0 L0) (_ : Below w.heap.size w W), Calls Tryd.prog 8 #[.slice a0 L0.length c0] W fun e w' => e = .returned (.tuple #[.string r0, .bool r1]) ∧ Below W.heap.size W w') :
    Calls Tryd.prog 3 #[.slice a0 L0.length c0] w fun e w' => e = .returned (.bool true) ∧ Below w.heap.size w w' := by
  have H1 := hide HS
  have H2 := hide HI
  clear HS HI
  have HT0 := hide (fun (hm : L0.length ≤ 1048576) W (b : Below w.heap.size w W) => toCapsuleS_any a0 c0 L0 W hm (h0.below b))
  have HE0 := hide (fun a a' c c' W (hm : L0.length ≤ 1048576) h h' => eqCapsuleS_same a a' c c' L0 W hm h h')
  have HX0 := hide h0
  clear h0
  go_enter Tryd.func3, Tryd.ntmps3
  go_wp2_with fail
  refine (szCapsuleS_any a0 c0 1048576 L0 _ m0 k0 (Nat.le_refl _) (unhide HX0)).mono ?_
  rintro e w9 ⟨hz0, h9⟩
  rcases hz0 with rfl | ⟨z0, rfl, hz0⟩
  · go_wp2
    go_ret
    exact ⟨rfl, h9⟩
  have hy0 : ¬ (z0 : Int) < 0 := by omega
  have hM0 := hide (show L0.length ≤ 1048576 by omega)
  have hO0 := hide (show (∀ i, i < L0.length → (gt capsuleK L0 i).f1.size ≤ 1048576) from fun i hi => by
    have h9 := capsuleW_mem (gt_mem capsuleK L0 i hi)
    unfold capsuleT at h9
    omega)
  have B0 := hide h9
  clear h9
  go_wp2_with fail
  refine (unhide HT0 (unhide hM0) _ (unhide B0)).mono ?_
  rintro e w1 ⟨g0_1, rfl, i1, b1⟩
  have B1 := hide ((unhide B0).trans (b1.mono (unhide B0).size))
  have T0_1 := hide (Ri.rd i1)
  have s1 : _ ≤ w1.heap.size := b1.size
  clear i1
  go_wp2_with fail
  refine (unhide H1 (unhide hM0) (unhide hO0) _ _ _ (unhide T0_1)).mono ?_
  rintro e w2 ⟨rfl, b2⟩
  have B2 := hide ((unhide B1).trans (b2.mono (unhide B1).size))
  have T0_2 := hide ((unhide T0_1).below b2)
  have s2 : _ ≤ w2.heap.size := b2.size
  go_wp2_with fail
  refine (unhide HT0 (unhide hM0) _ (unhide B2)).mono ?_
  rintro e w3 ⟨x0, rfl, i3, b3⟩
  have B3 := hide ((unhide B2).trans (b3.mono (unhide B2).size))
  have X0_3 := hide i3
  have s3 : _ ≤ w3.heap.size := b3.size
  clear i3
  go_wp2_with fail
  refine (unhide H2 (unhide hM0) (unhide hO0) _ _ _ (Ri.rd (unhide X0_3)) (unhide B3)).mono ?_
  rintro e w4 ⟨rfl, b4⟩
  have B4 := hide ((unhide B3).trans (b4.mono (unhide B3).size))
  have X0_4 := hide ((unhide X0_3).below b4)
  have s4 : _ ≤ w4.heap.size := b4.size
  go_wp2_with fail
  refine (unhide HT0 (unhide hM0) _ (unhide B4)).mono ?_
  rintro e w5 ⟨t0, rfl, i5, b5⟩
  have B5 := hide ((unhide B4).trans (b5.mono (unhide B4).size))
  have X0_5 := hide ((unhide X0_4).below b5)
  have T0_5 := hide (Ri.rd i5)
  have s5 : _ ≤ w5.heap.size := b5.size
  clear i5
  go_wp2_with fail
  refine (unhide HE0 _ _ _ _ _ (unhide hM0) (Ri.rd (unhide X0_5)) (unhide T0_5)).mono ?_
  rintro e w6 ⟨rfl, b6⟩
  have B6 := hide ((unhide B5).trans (b6.mono (unhide B5).size))
  have X0_6 := hide ((unhide X0_5).below b6)
  have T0_6 := hide ((unhide T0_5).below b6)
  have s6 : _ ≤ w6.heap.size := b6.size
  go_wp2
  go_ret
  exact ⟨rfl, unhide B6⟩
end Go.Proofs.YtgieglpjkjncfaaDoor.Rc
