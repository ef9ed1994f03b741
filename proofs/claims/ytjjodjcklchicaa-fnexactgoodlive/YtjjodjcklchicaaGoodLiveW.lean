/-
  The law on GoodLive, walked.
-/
import Derived.Test.YtjjodjcklchicaaLiv
namespace Go.Proofs.Ytjjodjcklchicaa.fnExactGoodLive
open Go.ChangeShapes Go.WideShapes Go.ChangeAt Go.RowKit
set_option linter.unusedVariables false
set_option maxRecDepth 100000

set_option maxHeartbeats 2000000 in
theorem walk (a : Option Addr) (cap : Nat) (L : List ByteArray) (hm : L.length ≤ maxLen) (hz : ∀ i, i < L.length → (tA L i).size ≤ maxLen) (w : World) (h : Ta w a L) :
    Calls Try.prog 3 #[.slice a L.length cap] w fun e w' => e = .returned (.bool true) ∧ Below w.heap.size w w' := by
  have HZ := hide (szS_any a L.length cap (tA L) 1048576 w (by omega) hm hz h)
  have HH := hide h
  clear h hz hm
  go_enter Try.func3, Try.ntmps3
  go_wp2_with fail
  refine (unhide HZ).mono ?_
  rintro e w0 ⟨he, e0⟩
  subst w0
  rcases he with rfl | ⟨r, rfl, hr, hn, hs⟩
  · go_wp2
    go_ret
    exact ⟨rfl, Below.refl _ _⟩
  have hr0 : ¬ (r : Int) < 0 := by omega
  have HTo := hide (fun W (q : Below w.heap.size w W) => toS_any a L.length cap (tA L) W hn ((unhide HH).kept q))
  have H1 := hide (fun a' c' W (q : Sa W a' L.length (tA L)) => specGL a' L.length c' (tA L) W hn hs q)
  have H2 := hide (fun a' c' W (q : Sa W a' L.length (tA L)) => implGL a' L.length c' (tA L) W hn hs q)
  clear HZ hs
  generalize glB (tA L) L.length = r0 at *
  go_wp2_with fail
  refine (unhide HTo _ (Below.refl _ _)).mono ?_
  rintro e w1 ⟨rfl, s1, z1, b1⟩
  have B1 := hide b1
  have S1 := hide s1.sa
  clear s1 z1 b1
  go_wp2_with fail
  refine (unhide H1 _ _ _ (unhide S1)).mono ?_
  rintro e w2 ⟨rfl, e2⟩
  subst w2
  clear S1
  go_wp2_with fail
  refine (unhide HTo _ (unhide B1)).mono ?_
  rintro e w3 ⟨rfl, s3, z3, b3⟩
  have B3 := hide ((unhide B1).trans (b3.mono (unhide B1).size))
  have S3 := hide s3.sa
  clear s3 z3 b3
  go_wp2_with fail
  refine (unhide H2 _ _ _ (unhide S3)).mono ?_
  rintro e w4 ⟨rfl, e4⟩
  subst w4
  go_wp2_with fail
  refine (unhide HTo _ (unhide B3)).mono ?_
  rintro e w5 ⟨rfl, s5, z5, b5⟩
  have B5 := hide ((unhide B3).trans (b5.mono (unhide B3).size))
  have S5 := hide ((unhide S3).kept b5)
  have T5 := hide s5.sa
  clear s5 z5 b5
  go_wp2_with fail
  refine (eqS_same _ _ L.length L.length L.length (tA L) _ hn (unhide S5) (unhide T5)).mono ?_
  rintro e w6 ⟨rfl, b6⟩
  have B6 := hide ((unhide B5).trans (b6.mono (unhide B5).size))
  clear b6
  go_wp2
  go_ret
  exact ⟨rfl, unhide B6⟩
end Go.Proofs.Ytjjodjcklchicaa.fnExactGoodLive
