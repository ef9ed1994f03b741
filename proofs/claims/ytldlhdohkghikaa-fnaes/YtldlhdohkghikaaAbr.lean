/-
  Contracts: the program's RoundKeys.
-/
import Derived.Test.YtldlhdohkghikaaAbn
import Derived.Test.YtldlhdohkghikaaOwn
namespace Go.Proofs.Ytldlhdohkghikaa
open Go.ChangeShapes Go.WideShapes Go.ChangeAt Go.RowKit
set_option linter.unusedVariables false

theorem info_rows : (Try.prog.info? 51).map (·.size) = some 176 := by kernel_rfl
theorem info_u8i : ∃ i, Try.prog.info? 5 = some i ∧ i.zero = some (.int .u8 0) ∧ i.size = 1 ∧ i.bytes = 1 := info_parts info_u8
theorem ck_lt (f : Nat → Nat) (hf : ∀ i, f i < 256) (i : Nat) (h : i < 176) : ck f 10 i < 256 := by
  unfold ck
  rw [if_pos (by omega)]
  exact rk_lt f hf _ _


set_option maxRecDepth 100000 in
set_option maxHeartbeats 400000 in
theorem implRK_ok (s : ByteArray) (hs : s.size = 16) (w : World) :
    Calls Try.prog 14 #[.string s] w fun e w' => e = .returned (.tuple #[.string (bq 176 (ck (at8 s) 10)), .bool true]) ∧ Below w.heap.size w w' := by
  have HN := hide (fun W => newCipher_ok s hs W)
  go_enter Try.func14, Try.ntmps14
  go_wp2_with (first | (go_at_call 20; with_reducible refine (unhide HN _).mono ?_; rintro e w1 ⟨cb, hcb, rfl, hA, hB⟩))
  refine wp_load_mid 51 (.tmp 18) rfl cb 0 rfl (us 176 (ck (at8 s) 10)) _ (by have := (hA.part 0 176 (by omega)).congr (g := ck (at8 s) 10) (fun i _ => by rw [Nat.zero_add]); exact this.range) Try.underlying51 rfl (by rw [us_length]; exact info_rows) ?_
  have hF := hide (ck_lt (at8 s) (at8_lt s))
  generalize hf : ck (at8 s) 10 = F at *
  have HF0 := hide hf
  have HB := hide hB
  have hwz := hB.size
  clear hA hB hf HN
  obtain ⟨i0, hi, hz0, hz1, hz2⟩ := info_u8i
  go_wp2_with fail
  go_loopw [6, 20] (fun v iv wr => ∃ k : Nat, k ≤ 11 ∧ iv = .int .i64 k ∧ Ob w.heap.size wr v (16 * k) F ∧ w.heap.size ≤ wr.heap.size ∧ Below w.heap.size w wr) (fun _ iv _ => 11 - (intOf iv).toNat)
  case atStart => exact ⟨0, by omega, rfl, Ob.nil _ _ _, hwz, unhide HB⟩
  case round =>
    obtain ⟨k, hk, rfl, ho, hsz, hbw⟩ := hrel
    by_cases hlt : k < 11
    · have hI := idx_rows 11 51 F k hlt Try.underlying51 wr
      have hl : (us 16 (fun i => F (16 * k + i))).length = 16 := us_length _ _
      have b2 := z16_new wr 45
      have B3 := (Below.refl wr.heap.size wr).alloc (Nat.le_refl _) (.cells #[.int .u8 0, .int .u8 0, .int .u8 0, .int .u8 0, .int .u8 0, .int .u8 0, .int .u8 0, .int .u8 0, .int .u8 0, .int .u8 0, .int .u8 0, .int .u8 0, .int .u8 0, .int .u8 0, .int .u8 0, .int .u8 0] 45)
      have HO := hide ho
      have HW := hide hbw
      clear ho hbw
      go_wp2_with fail
      rw [b2.cellsPut]
      have c2 := b2.puts (g := fun i => F (16 * k + i))
      have C3 := Go.Proofs.Ytldlhdohkghikaa.below_setCells (b := wr.heap.size) (Nat.le_refl _) (us 16 (fun i => F (16 * k + i))) 0 _ B3
      have c4 := size_setCells wr.heap.size (us 16 (fun i => F (16 * k + i))) 0 (wr.alloc (.cells #[.int .u8 0, .int .u8 0, .int .u8 0, .int .u8 0, .int .u8 0, .int .u8 0, .int .u8 0, .int .u8 0, .int .u8 0, .int .u8 0, .int .u8 0, .int .u8 0, .int .u8 0, .int .u8 0, .int .u8 0, .int .u8 0] 45))
      rw [World.size_alloc] at c4
      generalize (wr.alloc (.cells #[.int .u8 0, .int .u8 0, .int .u8 0, .int .u8 0, .int .u8 0, .int .u8 0, .int .u8 0, .int .u8 0, .int .u8 0, .int .u8 0, .int .u8 0, .int .u8 0, .int .u8 0, .int .u8 0, .int .u8 0, .int .u8 0] 45)).setCells wr.heap.size 0 (us 16 (fun i => F (16 * k + i))) = W3 at c2 C3 c4 ⊢
      have ho3 := (unhide HO).kept C3
      have HB3 := hide ((unhide HW).trans (C3.mono hsz))
      have hnew : Hid (∀ j u, (us 16 (fun i => F (16 * k + i)))[j]? = some u → W3.cell? ((⟨wr.heap.size, 0, none⟩ : Addr).add j) = some u) := fun j u hu => by rw [Addr.add_mid]; exact c2.range j u hu
      have hone := hide (us_oneL 16 (fun i => F (16 * k + i)))
      have HO3 := hide ho3
      have HB := hide (fun (W : World) (hg : W3.grownBy W u6.ownBlock) => Ob.below ho3 hg (by omega))
      clear b2 B3 C3 c2 HO HW hI ho3
      go_wp2_with (at_builtin; refine wpList_append_lies _ rfl _ _ 22 rfl w.heap.size 5 i0 (.int .u8 0) 1 1 Try.underlying22 hi hz0 hz1 hz2 rfl (by decide) _ _ _ rfl (unhide HO3) ⟨wr.heap.size, 0, none⟩ 16 16 (us 16 (fun i => F (16 * k + i))) rfl ?c0 (unhide hnew) (unhide hone) (by omega) ?c3 ?c4 ?c5 (wr.heap.size + 1) ?c6 ?_)
      case c0 => rw [us_length]
      case c3 => unfold maxLen; omega
      case c4 => omega
      case c5 => omega
      case c6 => exact c4
      intro g cap' w' hown hgrow hat hlt'
      have R1 := hide (Ob.grow hown)
      have R2 := unhide HB w' hgrow
      have R3 := hide ((unhide HB3).trans R2)
      have R4 := R2.size
      clear hown hgrow hat R2 HO3 HB HB3 hnew hone
      go_wp2
      exact ⟨⟨k + 1, by omega, by go_num, by rw [show 16 * (k + 1) = 16 * k + 16 by omega]; exact unhide R1, by omega, unhide R3⟩, by simp [intOf]; omega⟩
    · have e : k = 11 := by omega
      subst e
      have hst := Ob.string (n := 176) ho (unhide hF)
      have HW := hide hbw
      clear ho hbw
      go_wp2
      go_ret2
      exact ⟨by rw [unhide HF0]; rfl, unhide HW⟩
theorem implRK_no (s : ByteArray) (hs : ¬ s.size = 16) (hl : s.size ≤ 1048576) (w : World) :
    Calls Try.prog 14 #[.string s] w fun e w' => e = .returned (.tuple #[.string ⟨#[]⟩, .bool false]) ∧ Below w.heap.size w w' := by
  have HN := hide (fun W => newCipher_no s hs hl W)
  go_enter Try.func14, Try.ntmps14
  go_wp2_with (first | (go_at_call 20; with_reducible refine (unhide HN _).mono ?_; rintro e w1 ⟨rfl, hB⟩))
  go_ret2
  exact ⟨rfl, hB⟩
end Go.Proofs.Ytldlhdohkghikaa
