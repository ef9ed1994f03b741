/-
  Contracts: the program's AesCounter.
-/
import Derived.Test.YtldlhdohkghikaaAct
namespace Go.Proofs.Ytldlhdohkghikaa
open Go.ChangeShapes Go.WideShapes Go.ChangeAt Go.RowKit
set_option linter.unusedVariables false

/-- a text that is counted -/
def ctW (k s t : ByteArray) : ByteArray := bq t.size (fun i => at8 t i ^^^ cvW (rk (at8 k)) (at8 s) i)
theorem ctW_size (k s t : ByteArray) : (ctW k s t).size = t.size := bq_size _ _
set_option maxRecDepth 100000 in
set_option maxHeartbeats 1000000 in
theorem implAC_ok (k s t : ByteArray) (h : k.size = 16 ∧ s.size = 16 ∧ t.size ≤ 1500) (w : World) :
    Calls Try.prog 16 #[.string k, .string s, .string t] w fun e w' => e = .returned (.tuple #[.string (ctW k s t), .bool true]) ∧ Below w.heap.size w w' := by
  obtain ⟨hk, hs, ht⟩ := h
  have HN := hide (fun W => newCipher_ok k hk W)
  have HB := hide (fun W => blockOf_ok s hs W)
  have hlu : (us 16 (at8 s)).length = 16 := us_length _ _
  go_enter Try.func16, Try.ntmps16
  go_wp2_with (first | (go_at_call 20; with_reducible refine (unhide HN _).mono ?_; rintro e w1 ⟨cb, hcb, rfl, hA, hB1⟩; have HA := hide hA; clear hA; have HB1 := hide hB1; clear hB1) | (go_at_call 21; with_reducible refine (unhide HB _).mono ?_; rintro e w2 ⟨rfl, hB2⟩; have HB2 := hide hB2; clear hB2))
  rw [(z16_new w2 45).cellsPut]
  obtain ⟨n1, n2, n3⟩ := fresh16 w2 (at8 s)
  generalize (w2.alloc (.cells #[.int .u8 0, .int .u8 0, .int .u8 0, .int .u8 0, .int .u8 0, .int .u8 0, .int .u8 0, .int .u8 0, .int .u8 0, .int .u8 0, .int .u8 0, .int .u8 0, .int .u8 0, .int .u8 0, .int .u8 0, .int .u8 0] 45)).setCells w2.heap.size 0 (us 16 (at8 s)) = W4 at n1 n2 n3 ⊢
  have hs2 : w.heap.size ≤ w2.heap.size := Nat.le_trans (unhide HB1).size (unhide HB2).size
  have HW := hide (((unhide HB1).trans ((unhide HB2).mono (unhide HB1).size)).trans (n2.mono hs2))
  have HC4 := hide (((unhide HA).below (unhide HB2) (unhide HA).lt).below n2 (Nat.lt_of_lt_of_le (unhide HA).lt (unhide HB2).size))
  have H4 := hide n1
  clear n1 n2 n3 hlu HA HB1 HB2 HN HB
  generalize w2.heap.size = bb at *
  go_upto_region 5 with fail
  refine wp_region_list ?_
  refine wpList_plain rfl (fun K hK => ?_)
  go_simp
  refine hK _ _ ?_
  clear hK K
  refine wpList_load_mid rfl 45 (.tmp 10) rfl bb 0 rfl (us 16 (at8 s)) _ (unhide H4).range Try.underlying45 rfl (by rw [us_length]; exact info_bl) ?_
  have hCo := hide (implCounted cb (at8 k) (at8 s) t (at8_lt k) (at8_lt s) (by omega) W4 (unhide HC4))
  go_wp2_with (go_at_call 28; with_reducible refine (unhide hCo).mono ?_; rintro e w5 ⟨rfl, b5⟩; have HB5 := hide b5; clear b5)
  go_ret2
  exact ⟨rfl, (unhide HW).trans ((unhide HB5).mono (unhide HW).size)⟩
set_option maxRecDepth 100000 in
set_option maxHeartbeats 1000000 in
theorem implAC_long (k s t : ByteArray) (hk : k.size = 16) (hs : s.size = 16) (ht : ¬ t.size ≤ 1500) (hl : k.size ≤ 1048576) (hls : s.size ≤ 1048576) (hlt : t.size ≤ 1048576) (w : World) :
    Calls Try.prog 16 #[.string k, .string s, .string t] w fun e w' => e = .returned (.tuple #[.string ⟨#[]⟩, .bool false]) ∧ Below w.heap.size w w' := by
  have HN := hide (fun W => newCipher_ok k hk W)
  have HB := hide (fun W => blockOf_ok s hs W)
  have hlu : (us 16 (at8 s)).length = 16 := us_length _ _
  go_enter Try.func16, Try.ntmps16
  go_wp2_with (first | (go_at_call 20; with_reducible refine (unhide HN _).mono ?_; rintro e w1 ⟨cb, hcb, rfl, hA, hB1⟩; have HA := hide hA; clear hA; have HB1 := hide hB1; clear hB1) | (go_at_call 21; with_reducible refine (unhide HB _).mono ?_; rintro e w2 ⟨rfl, hB2⟩; have HB2 := hide hB2; clear hB2))
  rw [(z16_new w2 45).cellsPut]
  obtain ⟨n1, n2, n3⟩ := fresh16 w2 (at8 s)
  generalize (w2.alloc (.cells #[.int .u8 0, .int .u8 0, .int .u8 0, .int .u8 0, .int .u8 0, .int .u8 0, .int .u8 0, .int .u8 0, .int .u8 0, .int .u8 0, .int .u8 0, .int .u8 0, .int .u8 0, .int .u8 0, .int .u8 0, .int .u8 0] 45)).setCells w2.heap.size 0 (us 16 (at8 s)) = W4 at n1 n2 n3 ⊢
  have hs2 : w.heap.size ≤ w2.heap.size := Nat.le_trans (unhide HB1).size (unhide HB2).size
  have HW := hide (((unhide HB1).trans ((unhide HB2).mono (unhide HB1).size)).trans (n2.mono hs2))
  clear n1 n2 n3 hlu
  go_wp2
  go_ret2
  exact ⟨rfl, unhide HW⟩
set_option maxRecDepth 100000 in
set_option maxHeartbeats 1000000 in
theorem implAC_start (k s t : ByteArray) (hk : k.size = 16) (hs : ¬ s.size = 16) (hl : k.size ≤ 1048576) (hls : s.size ≤ 1048576) (hlt : t.size ≤ 1048576) (w : World) :
    Calls Try.prog 16 #[.string k, .string s, .string t] w fun e w' => e = .returned (.tuple #[.string ⟨#[]⟩, .bool false]) ∧ Below w.heap.size w w' := by
  have HN := hide (fun W => newCipher_ok k hk W)
  have HB := hide (fun W => blockOf_no s hs hls W)
  have hlu : (us 16 (fun _ => 0)).length = 16 := us_length _ _
  go_enter Try.func16, Try.ntmps16
  go_wp2_with (first | (go_at_call 20; with_reducible refine (unhide HN _).mono ?_; rintro e w1 ⟨cb, hcb, rfl, hA, hB1⟩; have HA := hide hA; clear hA; have HB1 := hide hB1; clear hB1) | (go_at_call 21; with_reducible refine (unhide HB _).mono ?_; rintro e w2 ⟨rfl, hB2⟩; have HB2 := hide hB2; clear hB2))
  rw [(z16_new w2 45).cellsPut]
  obtain ⟨n1, n2, n3⟩ := fresh16 w2 (fun _ => 0)
  generalize (w2.alloc (.cells #[.int .u8 0, .int .u8 0, .int .u8 0, .int .u8 0, .int .u8 0, .int .u8 0, .int .u8 0, .int .u8 0, .int .u8 0, .int .u8 0, .int .u8 0, .int .u8 0, .int .u8 0, .int .u8 0, .int .u8 0, .int .u8 0] 45)).setCells w2.heap.size 0 (us 16 (fun _ => 0)) = W4 at n1 n2 n3 ⊢
  have hs2 : w.heap.size ≤ w2.heap.size := Nat.le_trans (unhide HB1).size (unhide HB2).size
  have HW := hide (((unhide HB1).trans ((unhide HB2).mono (unhide HB1).size)).trans (n2.mono hs2))
  clear n1 n2 n3 hlu
  go_wp2
  go_ret2
  exact ⟨rfl, unhide HW⟩
set_option maxRecDepth 100000 in
set_option maxHeartbeats 1000000 in
theorem implAC_key (k s t : ByteArray) (hk : ¬ k.size = 16) (hs : s.size = 16) (hl : k.size ≤ 1048576) (hls : s.size ≤ 1048576) (hlt : t.size ≤ 1048576) (w : World) :
    Calls Try.prog 16 #[.string k, .string s, .string t] w fun e w' => e = .returned (.tuple #[.string ⟨#[]⟩, .bool false]) ∧ Below w.heap.size w w' := by
  have HN := hide (fun W => newCipher_no k hk hl W)
  have HB := hide (fun W => blockOf_ok s hs W)
  have hlu : (us 16 (at8 s)).length = 16 := us_length _ _
  go_enter Try.func16, Try.ntmps16
  go_wp2_with (first | (go_at_call 20; with_reducible refine (unhide HN _).mono ?_; rintro e w1 ⟨rfl, hB1⟩; have HB1 := hide hB1; clear hB1) | (go_at_call 21; with_reducible refine (unhide HB _).mono ?_; rintro e w2 ⟨rfl, hB2⟩; have HB2 := hide hB2; clear hB2))
  rw [(z16_new w2 45).cellsPut]
  obtain ⟨n1, n2, n3⟩ := fresh16 w2 (at8 s)
  generalize (w2.alloc (.cells #[.int .u8 0, .int .u8 0, .int .u8 0, .int .u8 0, .int .u8 0, .int .u8 0, .int .u8 0, .int .u8 0, .int .u8 0, .int .u8 0, .int .u8 0, .int .u8 0, .int .u8 0, .int .u8 0, .int .u8 0, .int .u8 0] 45)).setCells w2.heap.size 0 (us 16 (at8 s)) = W4 at n1 n2 n3 ⊢
  have hs2 : w.heap.size ≤ w2.heap.size := Nat.le_trans (unhide HB1).size (unhide HB2).size
  have HW := hide (((unhide HB1).trans ((unhide HB2).mono (unhide HB1).size)).trans (n2.mono hs2))
  clear n1 n2 n3 hlu
  go_wp2
  go_ret2
  exact ⟨rfl, unhide HW⟩
set_option maxRecDepth 100000 in
set_option maxHeartbeats 1000000 in
theorem implAC_both (k s t : ByteArray) (hk : ¬ k.size = 16) (hs : ¬ s.size = 16) (hl : k.size ≤ 1048576) (hls : s.size ≤ 1048576) (hlt : t.size ≤ 1048576) (w : World) :
    Calls Try.prog 16 #[.string k, .string s, .string t] w fun e w' => e = .returned (.tuple #[.string ⟨#[]⟩, .bool false]) ∧ Below w.heap.size w w' := by
  have HN := hide (fun W => newCipher_no k hk hl W)
  have HB := hide (fun W => blockOf_no s hs hls W)
  have hlu : (us 16 (fun _ => 0)).length = 16 := us_length _ _
  go_enter Try.func16, Try.ntmps16
  go_wp2_with (first | (go_at_call 20; with_reducible refine (unhide HN _).mono ?_; rintro e w1 ⟨rfl, hB1⟩; have HB1 := hide hB1; clear hB1) | (go_at_call 21; with_reducible refine (unhide HB _).mono ?_; rintro e w2 ⟨rfl, hB2⟩; have HB2 := hide hB2; clear hB2))
  rw [(z16_new w2 45).cellsPut]
  obtain ⟨n1, n2, n3⟩ := fresh16 w2 (fun _ => 0)
  generalize (w2.alloc (.cells #[.int .u8 0, .int .u8 0, .int .u8 0, .int .u8 0, .int .u8 0, .int .u8 0, .int .u8 0, .int .u8 0, .int .u8 0, .int .u8 0, .int .u8 0, .int .u8 0, .int .u8 0, .int .u8 0, .int .u8 0, .int .u8 0] 45)).setCells w2.heap.size 0 (us 16 (fun _ => 0)) = W4 at n1 n2 n3 ⊢
  have hs2 : w.heap.size ≤ w2.heap.size := Nat.le_trans (unhide HB1).size (unhide HB2).size
  have HW := hide (((unhide HB1).trans ((unhide HB2).mono (unhide HB1).size)).trans (n2.mono hs2))
  clear n1 n2 n3 hlu
  go_wp2
  go_ret2
  exact ⟨rfl, unhide HW⟩
theorem implAC_no (k s t : ByteArray) (h : ¬ (k.size = 16 ∧ s.size = 16 ∧ t.size ≤ 1500)) (hl : k.size ≤ 1048576) (hls : s.size ≤ 1048576) (hlt : t.size ≤ 1048576) (w : World) :
    Calls Try.prog 16 #[.string k, .string s, .string t] w fun e w' => e = .returned (.tuple #[.string ⟨#[]⟩, .bool false]) ∧ Below w.heap.size w w' := by
  by_cases hk : k.size = 16
  · by_cases hs : s.size = 16
    · exact implAC_long k s t hk hs (fun x => h ⟨hk, hs, x⟩) hl hls hlt w
    · exact implAC_start k s t hk hs hl hls hlt w
  · by_cases hs : s.size = 16
    · exact implAC_key k s t hk hs hl hls hlt w
    · exact implAC_both k s t hk hs hl hls hlt w
end Go.Proofs.Ytldlhdohkghikaa
