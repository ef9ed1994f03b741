/-
  Contracts: the model's blocks.
-/
import Derived.Test.YtfbecgclgffkiaaLwi
import Derived.Test.YtfbecgclgffkiaaAba
namespace Go.Proofs.Ytfbecgclgffkiaa
open Go.ChangeShapes Go.WideShapes Go.ChangeAt Go.RowKit
set_option linter.unusedVariables false
set_option maxRecDepth 100000

/-- a block by a key -/
def abW (k b : ByteArray) : ByteArray := bq 16 (fw (rk (at8 k)) (at8 b) 10)
theorem abW_size (k b : ByteArray) : (abW k b).size = 16 := bq_size _ _
set_option maxHeartbeats 1000000 in
theorem specBlock (k b : ByteArray) (hk : k.size = 16) (hb : b.size = 16) (w : World) :
    Calls Try.prog 14 #[.string k, .string b] w fun e w' => e = .returned (.string (abW k b)) ∧ Below w.heap.size w w' := by
  have H1 := hide (fun W => specKeys k hk W)
  have H2 := hide (fun W => specTable W)
  go_enter Try.func14, Try.ntmps14
  go_wp2_with fail
  refine (unhide H1 _).mono ?_
  rintro e w1 ⟨v, rfl, hsp, b1⟩
  obtain ⟨gk, ok, ck, rfl, hgk, hsg⟩ := hsp
  have K1 := hide hsg.ar
  have hkc := hsg.le
  have B1 := hide b1
  clear hsg b1
  go_wp2_with fail
  refine (unhide H2 _).mono ?_
  rintro e w2 ⟨gt, hgt, rfl, hA, b2⟩
  have K2 := hide ((unhide K1).below b2 (unhide K1).lt)
  have T2 := hide hA
  have B2 := hide ((unhide B1).trans (b2.mono (unhide B1).size))
  clear hA b2 K1 B1
  go_wp2_with fail
  refine (specWith gk ok ck gt 256 (at8 k) b (at8_lt k) hb hkc _ (unhide K2) (unhide T2)).mono ?_
  rintro e w3 ⟨rfl, b3⟩
  have B3 := hide ((unhide B2).trans (b3.mono (unhide B2).size))
  clear b3
  go_wp2
  go_ret
  exact ⟨rfl, unhide B3⟩
theorem implABk_ok (k b : ByteArray) (h : k.size = 16 ∧ b.size = 16) (w : World) :
    Calls Try.prog 15 #[.string k, .string b] w fun e w' => e = .returned (.tuple #[.string (abW k b), .bool true]) ∧ Below w.heap.size w w' := implAB_ok k b h.1 h.2 w
theorem implABk_no (k b : ByteArray) (h : ¬ (k.size = 16 ∧ b.size = 16)) (hl : k.size ≤ 1048576) (hl2 : b.size ≤ 1048576) (w : World) :
    Calls Try.prog 15 #[.string k, .string b] w fun e w' => e = .returned (.tuple #[.string ⟨#[]⟩, .bool false]) ∧ Below w.heap.size w w' := by
  by_cases hk : k.size = 16
  · exact implAB_block k b hk (fun x => h ⟨hk, x⟩) hl2 w
  · exact implAB_key k b hk hl hl2 w
end Go.Proofs.Ytfbecgclgffkiaa
