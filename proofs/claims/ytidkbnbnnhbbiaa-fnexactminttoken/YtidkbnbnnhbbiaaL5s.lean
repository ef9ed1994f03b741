/-
  Contracts: the model's SealText, TagOf, OpenText.
-/
import Derived.Test.YtidkbnbnnhbbiaaL5u
import Derived.Test.YtidkbnbnnhbbiaaL5c
namespace Go.Proofs.Ytidkbnbnnhbbiaa
open Go.ChangeShapes Go.WideShapes Go.ChangeAt Go.RowKit
set_option linter.unusedVariables false

/-- a text counted, a tag, a text sealed -/
def cnW (key nonce t : ByteArray) : ByteArray := bq t.size (cnF key nonce t)
theorem cnW_size (key nonce t : ByteArray) : (cnW key nonce t).size = t.size := bq_size _ _
def tgW (key nonce beside sealed : ByteArray) : ByteArray := bq 16 (tgB key nonce beside.size sealed.size (at8 beside) (at8 sealed))
theorem tgW_size (key nonce beside sealed : ByteArray) : (tgW key nonce beside sealed).size = 16 := bq_size _ _
def seW (key nonce beside t : ByteArray) : ByteArray := cnW key nonce t ++ tgW key nonce beside (cnW key nonce t)
theorem seW_size (key nonce beside t : ByteArray) : (seW key nonce beside t).size = t.size + 16 := by unfold seW; rw [ByteArray.size_append, cnW_size, tgW_size]
set_option maxRecDepth 100000 in
set_option maxHeartbeats 1000000 in
theorem specSeal (kb gk ok ck gt : Nat) (key nonce beside t : ByteArray) (hn : nonce.size = 12) (hb : beside.size ≤ 1500) (ht : t.size ≤ 1500) (w : World) (hM : SM w kb gk ok ck gt key) :
    Calls Try.prog 23 #[.pointer (some ⟨kb, 0, none⟩), .string nonce, .string beside, .string t] w fun e w' => e = .returned (.string (seW key nonce beside t)) ∧ Below w.heap.size w w' := by
  have hcs := cnW_size key nonce t
  have H1 : Hid (∀ W, SM W kb gk ok ck gt key → Calls Try.prog 32 #[.pointer (some ⟨kb, 0, none⟩), .string nonce, .string t] W fun e w' => e = .returned (.string (cnW key nonce t)) ∧ Below W.heap.size W w') := fun W h => specCount kb gk ok ck gt key nonce t hn ht W h
  have H2 : Hid (∀ W, SM W kb gk ok ck gt key → Calls Try.prog 33 #[.pointer (some ⟨kb, 0, none⟩), .string nonce, .string beside, .string (cnW key nonce t)] W fun e w' => e = .returned (.string (tgW key nonce beside (cnW key nonce t))) ∧ Below W.heap.size W w') := fun W h => specTag kb gk ok ck gt key nonce beside (cnW key nonce t) hn hb (by omega) W h
  have ad := fun W : World => run_string_add_sum (P := Try.prog) (w := W) (cnW key nonce t) (tgW key nonce beside (cnW key nonce t)) (by rw [tgW_size, cnW_size]; omega)
  have HE : Hid (cnW key nonce t ++ tgW key nonce beside (cnW key nonce t) = seW key nonce beside t) := rfl
  rw [unhide HE] at ad
  have HM := hide hM
  clear hM hcs
  generalize seW key nonce beside t = r at *
  generalize tgW key nonce beside (cnW key nonce t) = g at *
  generalize cnW key nonce t = c at *
  go_enter Try.func23, Try.ntmps23
  go_wp2_with (first
    | (go_at_call 32; refine (unhide H1 _ (unhide HM)).mono ?_; rintro e w1 ⟨rfl, b1⟩; have B1 := hide b1; clear b1)
    | (go_at_call 33; refine (unhide H2 _ ((unhide HM).keep (unhide B1))).mono ?_; rintro e w2 ⟨rfl, b2⟩; have B2 := hide b2; clear b2))
  go_ret
  exact ⟨rfl, (unhide B1).trans ((unhide B2).mono (unhide B1).size)⟩
end Go.Proofs.Ytidkbnbnnhbbiaa
