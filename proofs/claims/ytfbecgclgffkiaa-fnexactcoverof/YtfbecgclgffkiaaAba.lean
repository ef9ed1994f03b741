/-
  Contracts: the program's AesBlock.
-/
import Derived.Test.YtfbecgclgffkiaaAbf
namespace Go.Proofs.Ytfbecgclgffkiaa
open Go.ChangeShapes Go.WideShapes Go.ChangeAt Go.RowKit
set_option linter.unusedVariables false
set_option maxRecDepth 100000


set_option maxRecDepth 100000 in
set_option maxHeartbeats 400000 in
theorem implAB_ok (k b : ByteArray) (hk : k.size = 16) (hb : b.size = 16) (w : World) :
    Calls Try.prog 15 #[.string k, .string b] w fun e w' => e = .returned (.tuple #[.string (bq 16 (fw (rk (at8 k)) (at8 b) 10)), .bool true]) ∧ Below w.heap.size w w' := by
  have HN := hide (fun W => newCipher_ok k hk W)
  have HB := hide (fun W => blockOf_ok b hb W)
  have hl : (us 16 (at8 b)).length = 16 := us_length _ _
  go_enter Try.func15, Try.ntmps15
  go_wp2_with (first | (go_at_call 21; with_reducible refine (unhide HN _).mono ?_; rintro e w1 ⟨cb, hcb, rfl, hA, hB1⟩; have HA := hide hA; have HB1 := hide hB1; clear hA hB1) | (go_at_call 22; with_reducible refine (unhide HB _).mono ?_; rintro e w2 ⟨rfl, hB2⟩; have HB2 := hide hB2; clear hB2))
  have b2 := z16_new w2 41
  have hb2 := unhide HB2
  have hA2 := ((unhide HA).below hb2 (unhide HA).lt).alloc (.cells #[.int .u8 0, .int .u8 0, .int .u8 0, .int .u8 0, .int .u8 0, .int .u8 0, .int .u8 0, .int .u8 0, .int .u8 0, .int .u8 0, .int .u8 0, .int .u8 0, .int .u8 0, .int .u8 0, .int .u8 0, .int .u8 0] 41)
  have hW2 := ((unhide HB1).trans (hb2.mono (unhide HB1).size)).alloc (Nat.le_trans (unhide HB1).size hb2.size) (.cells #[.int .u8 0, .int .u8 0, .int .u8 0, .int .u8 0, .int .u8 0, .int .u8 0, .int .u8 0, .int .u8 0, .int .u8 0, .int .u8 0, .int .u8 0, .int .u8 0, .int .u8 0, .int .u8 0, .int .u8 0, .int .u8 0] 41)
  have hs2 : w.heap.size ≤ w2.heap.size := Nat.le_trans (unhide HB1).size hb2.size
  have hcb2 : cb < w2.heap.size := Nat.lt_of_lt_of_le (unhide HA).lt hb2.size
  generalize w2.alloc (.cells #[.int .u8 0, .int .u8 0, .int .u8 0, .int .u8 0, .int .u8 0, .int .u8 0, .int .u8 0, .int .u8 0, .int .u8 0, .int .u8 0, .int .u8 0, .int .u8 0, .int .u8 0, .int .u8 0, .int .u8 0, .int .u8 0] 41) = W3 at b2 hA2 hW2 ⊢
  rw [b2.cellsPut]
  have c2 := b2.puts (g := at8 b)
  have cA := hA2.others (b' := w2.heap.size) (o' := 0) (vs := us 16 (at8 b)) (Or.inl (by omega))
  have cW := Go.Proofs.Ytfbecgclgffkiaa.below_setCells (b := w2.heap.size) hs2 (us 16 (at8 b)) 0 _ hW2
  generalize W3.setCells w2.heap.size 0 (us 16 (at8 b)) = W4 at c2 cA cW ⊢
  generalize w2.heap.size = bb at c2 hs2 ⊢
  have HC2 := hide c2
  have HCA := hide cA
  have HCW := hide cW
  clear b2 hA2 hW2 hb2 c2 cA cW HA HB1 HB2 hl
  go_upto_region 5 with fail
  refine wp_region_list ?_
  refine wpList_plain rfl (fun K hK => ?_)
  go_simp
  refine hK _ _ ?_
  clear hK K
  refine wpList_load_mid rfl 41 (.tmp 8) rfl bb 0 rfl (us 16 (at8 b)) _ (unhide HC2).range Try.underlying41 rfl (by rw [us_length]; exact info_bl) ?_
  have hFo := hide (implForward cb (at8 k) (at8 b) (at8_lt k) (at8_lt b) W4 (unhide HCA))
  have hlf : (us 16 (fw (rk (at8 k)) (at8 b) 10)).length = 16 := us_length _ _
  go_wp2_with (go_at_call 23; with_reducible refine (unhide hFo).mono ?_; rintro e w5 ⟨rfl, hb5⟩; have HB5 := hide hb5; clear hb5)
  have b5 := z16_new w5 41
  have hs5 : w.heap.size ≤ w5.heap.size := Nat.le_trans (unhide HCW).size (unhide HB5).size
  have hW5 := ((unhide HCW).trans ((unhide HB5).mono (unhide HCW).size)).alloc hs5 (.cells #[.int .u8 0, .int .u8 0, .int .u8 0, .int .u8 0, .int .u8 0, .int .u8 0, .int .u8 0, .int .u8 0, .int .u8 0, .int .u8 0, .int .u8 0, .int .u8 0, .int .u8 0, .int .u8 0, .int .u8 0, .int .u8 0] 41)
  generalize w5.alloc (.cells #[.int .u8 0, .int .u8 0, .int .u8 0, .int .u8 0, .int .u8 0, .int .u8 0, .int .u8 0, .int .u8 0, .int .u8 0, .int .u8 0, .int .u8 0, .int .u8 0, .int .u8 0, .int .u8 0, .int .u8 0, .int .u8 0] 41) = W6 at b5 hW5 ⊢
  rw [b5.cellsPut]
  have c6 := b5.puts (g := fw (rk (at8 k)) (at8 b) 10)
  have cW6 := Go.Proofs.Ytfbecgclgffkiaa.below_setCells (b := w5.heap.size) hs5 (us 16 (fw (rk (at8 k)) (at8 b) 10)) 0 _ hW5
  generalize W6.setCells w5.heap.size 0 (us 16 (fw (rk (at8 k)) (at8 b) 10)) = W7 at c6 cW6 ⊢
  have hst := ar_string c6 (fun i _ => fw_lt _ _ (rk_lt _ (at8_lt k)) (at8_lt b) 10 i) 16
  have HC6 := hide cW6
  clear b5 hW5 c6 cW6 hlf HC2 HCA HCW
  go_wp2
  go_ret2
  exact ⟨rfl, unhide HC6⟩
set_option maxRecDepth 100000 in
set_option maxHeartbeats 400000 in
theorem implAB_key (k b : ByteArray) (hk : ¬ k.size = 16) (hl : k.size ≤ 1048576) (hlb : b.size ≤ 1048576) (w : World) :
    Calls Try.prog 15 #[.string k, .string b] w fun e w' => e = .returned (.tuple #[.string ⟨#[]⟩, .bool false]) ∧ Below w.heap.size w w' := by
  have HN := hide (fun W => newCipher_no k hk hl W)
  by_cases hb : b.size = 16
  · have HB := hide (fun W => blockOf_ok b hb W)
    have hlu : (us 16 (at8 b)).length = 16 := us_length _ _
    go_enter Try.func15, Try.ntmps15
    go_wp2_with (first | (go_at_call 21; with_reducible refine (unhide HN _).mono ?_; rintro e w1 ⟨rfl, hB1⟩; have HB1 := hide hB1; clear hB1) | (go_at_call 22; with_reducible refine (unhide HB _).mono ?_; rintro e w2 ⟨rfl, hB2⟩; have HB2 := hide hB2; clear hB2))
    have b2 := z16_new w2 41
    have hs2 : w.heap.size ≤ w2.heap.size := Nat.le_trans (unhide HB1).size (unhide HB2).size
    have hW2 := ((unhide HB1).trans ((unhide HB2).mono (unhide HB1).size)).alloc hs2 (.cells #[.int .u8 0, .int .u8 0, .int .u8 0, .int .u8 0, .int .u8 0, .int .u8 0, .int .u8 0, .int .u8 0, .int .u8 0, .int .u8 0, .int .u8 0, .int .u8 0, .int .u8 0, .int .u8 0, .int .u8 0, .int .u8 0] 41)
    generalize w2.alloc (.cells #[.int .u8 0, .int .u8 0, .int .u8 0, .int .u8 0, .int .u8 0, .int .u8 0, .int .u8 0, .int .u8 0, .int .u8 0, .int .u8 0, .int .u8 0, .int .u8 0, .int .u8 0, .int .u8 0, .int .u8 0, .int .u8 0] 41) = W3 at b2 hW2 ⊢
    rw [b2.cellsPut]
    have HW := hide (Go.Proofs.Ytfbecgclgffkiaa.below_setCells (b := w2.heap.size) hs2 (us 16 (at8 b)) 0 _ hW2)
    generalize W3.setCells w2.heap.size 0 (us 16 (at8 b)) = W4 at HW ⊢
    clear b2 hW2 hlu
    go_wp2
    go_ret2
    exact ⟨rfl, unhide HW⟩
  · have HB := hide (fun W => blockOf_no b hb hlb W)
    have hlu : (us 16 (fun _ => 0)).length = 16 := us_length _ _
    go_enter Try.func15, Try.ntmps15
    go_wp2_with (first | (go_at_call 21; with_reducible refine (unhide HN _).mono ?_; rintro e w1 ⟨rfl, hB1⟩; have HB1 := hide hB1; clear hB1) | (go_at_call 22; with_reducible refine (unhide HB _).mono ?_; rintro e w2 ⟨rfl, hB2⟩; have HB2 := hide hB2; clear hB2))
    have b2 := z16_new w2 41
    have hs2 : w.heap.size ≤ w2.heap.size := Nat.le_trans (unhide HB1).size (unhide HB2).size
    have hW2 := ((unhide HB1).trans ((unhide HB2).mono (unhide HB1).size)).alloc hs2 (.cells #[.int .u8 0, .int .u8 0, .int .u8 0, .int .u8 0, .int .u8 0, .int .u8 0, .int .u8 0, .int .u8 0, .int .u8 0, .int .u8 0, .int .u8 0, .int .u8 0, .int .u8 0, .int .u8 0, .int .u8 0, .int .u8 0] 41)
    generalize w2.alloc (.cells #[.int .u8 0, .int .u8 0, .int .u8 0, .int .u8 0, .int .u8 0, .int .u8 0, .int .u8 0, .int .u8 0, .int .u8 0, .int .u8 0, .int .u8 0, .int .u8 0, .int .u8 0, .int .u8 0, .int .u8 0, .int .u8 0] 41) = W3 at b2 hW2 ⊢
    rw [b2.cellsPut]
    have HW := hide (Go.Proofs.Ytfbecgclgffkiaa.below_setCells (b := w2.heap.size) hs2 (us 16 (fun _ => 0)) 0 _ hW2)
    generalize W3.setCells w2.heap.size 0 (us 16 (fun _ => 0)) = W4 at HW ⊢
    clear b2 hW2 hlu
    go_wp2
    go_ret2
    exact ⟨rfl, unhide HW⟩
set_option maxRecDepth 100000 in
set_option maxHeartbeats 400000 in
theorem implAB_block (k b : ByteArray) (hk : k.size = 16) (hb : ¬ b.size = 16) (hlb : b.size ≤ 1048576) (w : World) :
    Calls Try.prog 15 #[.string k, .string b] w fun e w' => e = .returned (.tuple #[.string ⟨#[]⟩, .bool false]) ∧ Below w.heap.size w w' := by
  have HN := hide (fun W => newCipher_ok k hk W)
  have HB := hide (fun W => blockOf_no b hb hlb W)
  have hlu : (us 16 (fun _ => 0)).length = 16 := us_length _ _
  go_enter Try.func15, Try.ntmps15
  go_wp2_with (first | (go_at_call 21; with_reducible refine (unhide HN _).mono ?_; rintro e w1 ⟨cb, hcb, rfl, hA, hB1⟩; have HB1 := hide hB1; clear hA hB1) | (go_at_call 22; with_reducible refine (unhide HB _).mono ?_; rintro e w2 ⟨rfl, hB2⟩; have HB2 := hide hB2; clear hB2))
  have b2 := z16_new w2 41
  have hs2 : w.heap.size ≤ w2.heap.size := Nat.le_trans (unhide HB1).size (unhide HB2).size
  have hW2 := ((unhide HB1).trans ((unhide HB2).mono (unhide HB1).size)).alloc hs2 (.cells #[.int .u8 0, .int .u8 0, .int .u8 0, .int .u8 0, .int .u8 0, .int .u8 0, .int .u8 0, .int .u8 0, .int .u8 0, .int .u8 0, .int .u8 0, .int .u8 0, .int .u8 0, .int .u8 0, .int .u8 0, .int .u8 0] 41)
  generalize w2.alloc (.cells #[.int .u8 0, .int .u8 0, .int .u8 0, .int .u8 0, .int .u8 0, .int .u8 0, .int .u8 0, .int .u8 0, .int .u8 0, .int .u8 0, .int .u8 0, .int .u8 0, .int .u8 0, .int .u8 0, .int .u8 0, .int .u8 0] 41) = W3 at b2 hW2 ⊢
  rw [b2.cellsPut]
  have HW := hide (Go.Proofs.Ytfbecgclgffkiaa.below_setCells (b := w2.heap.size) hs2 (us 16 (fun _ => 0)) 0 _ hW2)
  generalize W3.setCells w2.heap.size 0 (us 16 (fun _ => 0)) = W4 at HW ⊢
  clear b2 hW2 hlu
  go_wp2
  go_ret2
  exact ⟨rfl, unhide HW⟩
end Go.Proofs.Ytfbecgclgffkiaa
