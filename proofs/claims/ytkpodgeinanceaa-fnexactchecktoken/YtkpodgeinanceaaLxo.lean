/-
  Contracts: the model's l3Xor and l3Table.
-/
import Derived.Test.YtkpodgeinanceaaAbn
import Derived.Test.YtkpodgeinanceaaOwn
namespace Go.Proofs.Ytkpodgeinanceaa
open Go.ChangeShapes Go.WideShapes Go.ChangeAt Go.RowKit
set_option linter.unusedVariables false
set_option maxRecDepth 100000


set_option maxRecDepth 100000 in
set_option maxHeartbeats 400000 in
theorem specTable (w : World) :
    Calls Try.prog 57 #[] w fun e w' => ∃ g, w.heap.size ≤ g ∧ e = .returned (.slice (some ⟨g, 0, none⟩) 256 256) ∧ Ar w' g 0 256 sub ∧ Below w.heap.size w w' := by
  go_enter Try.func57, Try.ntmps57
  go_wp2_with fail
  have hmk : (Instr.makeSlice 32 (.int .i64 256) (.int .i64 256)).run Try.prog w = _ := mk_bytes 256 (by omega) w
  rw [hmk]
  go_wp2_with fail
  have A0 : Ar (w.alloc (.cells (us 256 fun _ => 0).toArray 5)) w.heap.size 0 256 (fun _ => 0) := Ar.new w 256 (fun _ => 0) 5
  have B0 : Below w.heap.size w (w.alloc (.cells (us 256 fun _ => 0).toArray 5)) := (Below.refl _ _).alloc (Nat.le_refl _) _
  generalize w.alloc (.cells (us 256 fun _ => 0).toArray 5) = w0 at A0 B0 ⊢
  have HA := hide A0
  have HB := hide B0
  clear A0 B0 hmk
  go_loopw [6] (fun iv wr => ∃ i : Nat, i ≤ 256 ∧ iv = .int .i64 i ∧ Ar wr w.heap.size 0 256 (stp sub (fun _ => 0) i) ∧ Below w.heap.size w wr) (fun iv _ => 256 - (intOf iv).toNat)
  case atStart => exact ⟨0, by omega, rfl, (unhide HA).stepNone, unhide HB⟩
  case round =>
    obtain ⟨i, hi, rfl, a1, b1⟩ := hrel
    have HA1 := hide a1
    have HB1 := hide b1
    by_cases hlt : i < 256
    · have c0 := a1.c0 i hlt
      have f0 := a1.f0 i hlt
      have hS := hide (fun W => specSub i hlt W)
      have e1 := hide (show sub i = sub i from rfl)
      have w8 : IntKind.u8.wrap (i : Int) = (i : Int) := by rw [wrap_u8]; omega
      clear a1 b1
      go_wp2_with (go_at_call 72; with_reducible refine (unhide hS _).mono ?_; rintro e w1 ⟨rfl, rfl⟩)
      exact ⟨⟨i + 1, by omega, by go_num, (unhide HA1).step hlt rfl, (unhide HB1).setCell (by simp) _⟩, by simp [intOf]; omega⟩
    · have e : i = 256 := by omega
      subst e
      clear a1 b1
      go_wp2
      go_ret
      exact ⟨w.heap.size, Nat.le_refl _, rfl, (unhide HA1).stepEnd, unhide HB1⟩
set_option maxHeartbeats 400000 in
theorem specXor (ab ao acap bb bo bcap : Nat) (F G : Nat → Nat) (hF : ∀ i, F i < 256) (hG : ∀ i, G i < 256) (w : World) (h1 : Ar w ab ao 16 F) (h2 : Ar w bb bo 16 G) :
    Calls Try.prog 74 #[.slice (some ⟨ab, ao, none⟩) 16 acap, .slice (some ⟨bb, bo, none⟩) 16 bcap] w fun e w' => ∃ g, w.heap.size ≤ g ∧ e = .returned (.slice (some ⟨g, 0, none⟩) 16 16) ∧ Ar w' g 0 16 (fun i => F i ^^^ G i) ∧ Below w.heap.size w w' := by
  have HF := hide hF
  have HG := hide hG
  have H1 := hide h1
  have H2 := hide h2
  have E : ∀ i, (fun i => F i ^^^ G i) i = F i ^^^ G i := fun i => rfl
  generalize (fun i => F i ^^^ G i) = r at E ⊢
  have HE := hide E
  clear hF hG h1 h2 E
  go_enter Try.func74, Try.ntmps74
  go_wp2_with fail
  have hmk : (Instr.makeSlice 32 (.int .i64 16) (.int .i64 16)).run Try.prog w = _ := mk_bytes 16 (by omega) w
  rw [hmk]
  go_wp2_with fail
  have A0 : Ar (w.alloc (.cells (us 16 fun _ => 0).toArray 5)) w.heap.size 0 16 (fun _ => 0) := Ar.new w 16 (fun _ => 0) 5
  have B0 : Below w.heap.size w (w.alloc (.cells (us 16 fun _ => 0).toArray 5)) := (Below.refl _ _).alloc (Nat.le_refl _) _
  generalize w.alloc (.cells (us 16 fun _ => 0).toArray 5) = w0 at A0 B0 ⊢
  have HA := hide A0
  have HB := hide B0
  clear A0 B0 hmk
  go_loopw [12] (fun iv wr => ∃ i : Nat, i ≤ 16 ∧ iv = .int .i64 i ∧ Ar wr w.heap.size 0 16 (stp r (fun _ => 0) i) ∧ Below w.heap.size w wr) (fun iv _ => 16 - (intOf iv).toNat)
  case atStart => exact ⟨0, by omega, rfl, (unhide HA).stepNone, unhide HB⟩
  case round =>
    obtain ⟨i, hi, rfl, a1, b1⟩ := hrel
    have HA1 := hide a1
    have HB1 := hide b1
    by_cases hlt : i < 16
    · have c0 := a1.c0 i hlt
      have f0 := a1.f0 i hlt
      have s1 := ((unhide H1).below b1 (unhide H1).lt).c i hlt
      have s2 := ((unhide H2).below b1 (unhide H2).lt).c i hlt
      have e1 := hide (xorI (F i) (G i) (unhide HF _) (unhide HG _))
      have e2 := hide (unhide HE i)
      clear a1 b1
      generalize F i = x at *
      generalize G i = y at *
      generalize stp r (fun _ => 0) i i = z at *
      have n1 : (0 : Int) ≤ (i : Int) ∧ (i : Int) < 16 := by omega
      go_wp2_with fail
      go_region
      go_wp2
      rw [unhide e1]
      exact ⟨⟨i + 1, by omega, by go_num, ((unhide HA1).step hlt (unhide e2)).drew, ((unhide HB1).setCell (by simp) _).drew⟩, by simp [intOf]; omega⟩
    · have e : i = 16 := by omega
      subst e
      clear a1 b1
      go_wp2
      go_ret
      exact ⟨w.heap.size, Nat.le_refl _, rfl, (unhide HA1).stepEnd, unhide HB1⟩
end Go.Proofs.Ytkpodgeinanceaa
