/-
  Contracts: the model's words.
-/
import Derived.Test.YtpjmnnaiegdjmaaDoorRot
import Derived.Test.YtpjmnnaiegdjmaaDoorPrm
namespace Go.Proofs.YtpjmnnaiegdjmaaDoor
open Go.ChangeShapes Go.WideShapes Go.ChangeAt Go.RowKit
set_option linter.unusedVariables false

/-- the roots, their whole parts too -/
def tabC : List Nat := [5411319704, 6194414737, 7344290767, 8215976869, 9551921755, 10098905585, 11043570340, 11460697813, 12214315672, 13195500289, 13492127166, 14311783875, 14809980276, 15046980094, 15499789991, 16133124468, 16720292289, 16907126662, 17444216262, 17784676812, 17950125167, 18429019306, 18734950876, 19175934170, 19734090066, 20001703533, 20132865992, 20390182855, 20516441075, 20764397895, 21588763473, 21813078375, 22141143685, 22248366392, 22769593852, 22871018771, 23170020180, 23461497531, 23651862830, 23931792517, 24205322401, 24295138891, 24734567280, 24820601251, 24990902297, 25075189284, 25569408389, 26045227120, 26200031510, 26276752392, 26428864332, 26653801653, 26727943347, 27092625994, 27306805839, 27517677555, 27725365998, 27793908591, 27997534228, 28131656200, 28198240250, 28526537963, 28973835255, 29099129074]
def tabQ : List Nat := [6074000999, 7439101573, 9603838834, 11363415354, 14244795007, 15485724812, 17708603819, 18721328409]
def rootC (i : Nat) : Nat := tabC.getD i 0
def rootQ (i : Nat) : Nat := tabQ.getD i 0
/-- the words of the rounds, and of the first state -/
def KW (i : Nat) : Nat := rootC i % 4294967296
def HW (i : Nat) : Nat := rootQ i % 4294967296
theorem P64_lt : ∀ i, i < 64 → P64 i < 4294967296 := by decide +kernel
theorem rootC_is : ∀ i, i < 64 → rootC i < 137438953472 ∧ rootC i ^ 3 ≤ P64 i * 4294967296 ^ 3 ∧ P64 i * 4294967296 ^ 3 < (rootC i + 1) ^ 3 := by decide +kernel
theorem rootQ_is : ∀ i, i < 8 → rootQ i < 137438953472 ∧ rootQ i ^ 2 ≤ P64 i * 4294967296 ^ 2 ∧ P64 i * 4294967296 ^ 2 < (rootQ i + 1) ^ 2 := by decide +kernel
theorem KW_lt (i : Nat) : KW i < 4294967296 := Nat.mod_lt _ (by omega)
theorem HW_lt (i : Nat) : HW i < 4294967296 := Nat.mod_lt _ (by omega)

set_option maxRecDepth 100000 in
set_option maxHeartbeats 400000 in
theorem specWords (n q : Nat) (R : Nat → Nat) (hn : n ≤ 64) (hq : q ≤ 3) (hq0 : 0 < q) (hR : ∀ i, i < n → R i < 137438953472 ∧ R i ^ q ≤ P64 i * 4294967296 ^ q ∧ P64 i * 4294967296 ^ q < (R i + 1) ^ q) (w : World) :
    Calls Tryd.prog 60 #[.int .i64 n, .int .i64 q] w fun e w' => ∃ v, e = .returned v ∧ Ow w.heap.size w' v n (fun i => R i % 4294967296) ∧ Below w.heap.size w w' := by
  obtain ⟨i0, hi, hz0, hz1, hz2'⟩ := info_u32i
  have HP := hide (fun W => specPrimes n hn W)
  have HR := hide (fun i (hi : i < n) W => specRoot (P64 i) q (R i) (P64_lt i (by omega)) hq hq0 (hR i hi).1 (hR i hi).2.1 (hR i hi).2.2 W)
  clear hR
  go_enter Tryd.func60, Tryd.ntmps60
  go_wp2_with (go_at_call 78; with_reducible refine (unhide HP _).mono ?_; rintro e w1 ⟨v, rfl, hov, hb⟩; obtain ⟨a, cap, rfl, hop⟩ := hov.opens; have HOP := hide hop; have HB := hide hb; clear hov hop hb)
  have hwz : w.heap.size ≤ w1.heap.size := (unhide HB).size
  go_loopw [5, 11] (fun v iv wr => ∃ i : Nat, i ≤ n ∧ iv = .int .i64 i ∧ Ow w1.heap.size wr v i (fun i => R i % 4294967296) ∧ Below w1.heap.size w1 wr) (fun _ iv _ => n - (intOf iv).toNat)
  case atStart => exact ⟨0, by omega, rfl, Ow.nil _ _ _, Below.refl _ _⟩
  case round =>
    obtain ⟨i, hin, rfl, ho, hb⟩ := hrel
    by_cases hlt : i < n
    · obtain ⟨g, rfl, hg, hA⟩ := unhide HOP (by omega)
      have hc := (hA.below hb hA.lt).c0 i hlt
      have HR1 := hide (unhide HR i hlt)
      have HO := hide ho
      have HBr := hide hb
      have hz := hb.size
      clear hA ho hb HOP
      generalize hX : R i % 4294967296 = X at *
      go_wp2_with (first
        | (go_at_call 79; with_reducible refine (unhide HR1 _).mono ?_; rintro e w2 ⟨rfl, hb2⟩; have HB2 := hide hb2; clear hb2)
        | (at_builtin
           have B1 := (Below.refl w2.heap.size w2).alloc (Nat.le_refl _) (.cells #[.int .u32 (X : Int)] 88)
           have HO2 := (unhide HO).kept (unhide HB2)
           have HO3 := hide (HO2.kept B1)
           have hz2 := (unhide HB2).size
           have HB3 := hide ((unhide HBr).trans (((unhide HB2).trans (B1.mono hz2)).mono hz))
           have hz3 : (w2.alloc (.cells #[.int .u32 (X : Int)] 88)).heap.size = w2.heap.size + 1 := by simp
           have hnw := new_w w2 X
           have hnew : Hid (∀ j u, (uw 1 (fun _ => X))[j]? = some u → (w2.alloc (.cells #[.int .u32 (X : Int)] 88)).cell? ((⟨w2.heap.size, 0, none⟩ : Addr).add j) = some u) := fun j u hu => by rw [Addr.add_mid]; exact hnw.range j u hu
           have hone := hide (uw_oneL 1 (fun _ => X))
           refine wpList_append_lies _ rfl _ _ 72 rfl w1.heap.size 88 i0 (.int .u32 0) 1 4 Tryd.underlying72 hi hz0 hz1 hz2' rfl (by decide) _ _ _ rfl (unhide HO3) ⟨w2.heap.size, 0, none⟩ 1 1 (uw 1 (fun _ => X)) rfl ?c0 (unhide hnew) (unhide hone) (by omega) ?c3 ?c4 ?c5 (w2.heap.size + 1) ?c6 ?_))
      case c0 => rw [uw_length]
      case c3 => unfold maxLen; omega
      case c4 => omega
      case c5 => omega
      case c6 => exact hz3
      intro g cap' w' hown hgrow hat hlt'
      rw [show uw 1 (fun _ => X) = uw 1 (fun j => (fun j => R j % 4294967296) (i + j)) from uw_congr fun j hj => by obtain rfl : j = 0 := (by omega); exact hX.symm] at hown
      have R1 := hide (Ow.grow hown)
      have R2 := Ow.below (unhide HO3) hgrow (by omega)
      have R3 := hide ((unhide HB3).trans R2)
      clear hown hgrow hat R2 HO3 HB3 hnew hone
      go_wp2
      exact ⟨⟨i + 1, by omega, by go_num, unhide R1, unhide R3⟩, by simp [intOf]; omega⟩
    · obtain rfl : i = n := by omega
      have HO := hide ho
      have HBr := hide hb
      clear ho hb HOP
      go_wp2
      go_ret
      exact ⟨_, rfl, (unhide HO).mono hwz, (unhide HB).trans ((unhide HBr).mono hwz)⟩
end Go.Proofs.YtpjmnnaiegdjmaaDoor
