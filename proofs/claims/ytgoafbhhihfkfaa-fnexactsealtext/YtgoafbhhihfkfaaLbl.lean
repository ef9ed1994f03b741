/-
  Contracts: the model's blocks.
-/
import Derived.Test.YtgoafbhhihfkfaaLwi
import Derived.Test.YtgoafbhhihfkfaaAba
namespace Go.Proofs.Ytgoafbhhihfkfaa
open Go.ChangeShapes Go.WideShapes Go.ChangeAt Go.RowKit
set_option linter.unusedVariables false
set_option maxRecDepth 100000

/-- a block by a key -/
def abW (k b : ByteArray) : ByteArray := bq 16 (fw (rk (at8 k)) (at8 b) 10)
theorem abW_size (k b : ByteArray) : (abW k b).size = 16 := bq_size _ _
set_option maxHeartbeats 1000000 in
theorem specBlock (k b : ByteArray) (hk : k.size = 16) (hb : b.size = 16) (w : World) :
    Calls Try.prog 49 #[.string k, .string b] w fun e w' => e = .returned (.string (abW k b)) ∧ Below w.heap.size w w' := by
  have H1 := hide (fun W => specKeys k hk W)
  have H2 := hide (fun W => specTable W)
  go_enter Try.func49, Try.ntmps49
  go_wp2_with fail
  refine (unhide H1 _).mono ?_
  rintro e w1 ⟨v, rfl, hsp, b1⟩
  obtain ⟨gk, ok, ck, rfl, hgk, hsg⟩ := hsp
  have K1 := hide hsg.ar
  have hkc := hsg.le
  have B1 := hide b1
  clear hsg b1
  go_wp2_with fail
  refine (unhide H2 _).mono ?_
  rintro e w2 ⟨gt, hgt, rfl, hA, b2⟩
  have K2 := hide ((unhide K1).below b2 (unhide K1).lt)
  have T2 := hide hA
  have B2 := hide ((unhide B1).trans (b2.mono (unhide B1).size))
  clear hA b2 K1 B1
  go_wp2_with fail
  refine (specWith gk ok ck gt 256 (at8 k) b (at8_lt k) hb hkc _ (unhide K2) (unhide T2)).mono ?_
  rintro e w3 ⟨rfl, b3⟩
  have B3 := hide ((unhide B2).trans (b3.mono (unhide B2).size))
  clear b3
  go_wp2
  go_ret
  exact ⟨rfl, unhide B3⟩
theorem specAB_ok (k b : ByteArray) (h : k.size = 16 ∧ b.size = 16) (w : World) :
    Calls Try.prog 22 #[.string k, .string b] w fun e w' => e = .returned (.tuple #[.string (abW k b), .bool true]) ∧ Below w.heap.size w w' := by
  obtain ⟨hk, hb⟩ := h
  have H1 := hide (fun W => specBlock k b hk hb W)
  go_enter Try.func22, Try.ntmps22
  go_wp2_with fail
  refine (unhide H1 _).mono ?_
  rintro e w1 ⟨rfl, b1⟩
  have B1 := hide b1
  clear b1
  go_wp2
  go_ret2
  exact ⟨rfl, unhide B1⟩
theorem specAB_no (k b : ByteArray) (h : ¬ (k.size = 16 ∧ b.size = 16)) (hl : k.size ≤ 1048576) (hl2 : b.size ≤ 1048576) (w : World) :
    Calls Try.prog 22 #[.string k, .string b] w fun e w' => e = .returned (.tuple #[.string ⟨#[]⟩, .bool false]) ∧ Below w.heap.size w w' := by
  by_cases hk : k.size = 16
  · have h1 : ((b.size : Int) != 16) = true := by simp; omega
    go_enter Try.func22, Try.ntmps22
    go_wp2
    go_ret2
    exact ⟨rfl, Below.refl _ _⟩
  · have h1 : ((k.size : Int) != 16) = true := by simp; omega
    go_enter Try.func22, Try.ntmps22
    go_wp2
    go_ret2
    exact ⟨rfl, Below.refl _ _⟩
end Go.Proofs.Ytgoafbhhihfkfaa
