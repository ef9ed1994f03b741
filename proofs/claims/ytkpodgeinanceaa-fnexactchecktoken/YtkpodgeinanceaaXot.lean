/-
  Contracts: XorText of both sides.
-/
import Derived.Test.YtkpodgeinanceaaLxo
namespace Go.Proofs.Ytkpodgeinanceaa
open Go.ChangeShapes Go.WideShapes Go.ChangeAt Go.RowKit
set_option linter.unusedVariables false

/-- two texts xored -/
def xoW (a b : ByteArray) : ByteArray := bq a.size (fun i => at8 a i ^^^ at8 b i)
theorem xoW_size (a b : ByteArray) : (xoW a b).size = a.size := bq_size _ _
set_option maxRecDepth 100000 in
set_option maxHeartbeats 400000 in
theorem specXorN (n : Nat) (hn : n ≤ 1048576) (ab ao acap bb bo bcap : Nat) (F G : Nat → Nat) (hF : ∀ i, F i < 256) (hG : ∀ i, G i < 256) (w : World) (h1 : Ar w ab ao n F) (h2 : Ar w bb bo n G) :
    Calls Try.prog 74 #[.slice (some ⟨ab, ao, none⟩) n acap, .slice (some ⟨bb, bo, none⟩) n bcap] w fun e w' => ∃ g, w.heap.size ≤ g ∧ e = .returned (.slice (some ⟨g, 0, none⟩) n n) ∧ Ar w' g 0 n (fun i => F i ^^^ G i) ∧ Below w.heap.size w w' := by
  have HF := hide hF
  have HG := hide hG
  have H1 := hide h1
  have H2 := hide h2
  have E : ∀ i, (fun i => F i ^^^ G i) i = F i ^^^ G i := fun i => rfl
  generalize (fun i => F i ^^^ G i) = r at E ⊢
  have HE := hide E
  clear hF hG h1 h2 E
  go_enter Try.func74, Try.ntmps74
  go_wp2_with fail
  have hmk : (Instr.makeSlice 32 (.int .i64 n) (.int .i64 n)).run Try.prog w = _ := mk_bytes n hn w
  rw [hmk]
  go_wp2_with fail
  have A0 : Ar (w.alloc (.cells (us n fun _ => 0).toArray 5)) w.heap.size 0 n (fun _ => 0) := Ar.new w n (fun _ => 0) 5
  have B0 : Below w.heap.size w (w.alloc (.cells (us n fun _ => 0).toArray 5)) := (Below.refl _ _).alloc (Nat.le_refl _) _
  generalize w.alloc (.cells (us n fun _ => 0).toArray 5) = w0 at A0 B0 ⊢
  have HA := hide A0
  have HB := hide B0
  clear A0 B0 hmk
  go_loopw [12] (fun iv wr => ∃ i : Nat, i ≤ n ∧ iv = .int .i64 i ∧ Ar wr w.heap.size 0 n (stp r (fun _ => 0) i) ∧ Below w.heap.size w wr) (fun iv _ => n - (intOf iv).toNat)
  case atStart => exact ⟨0, by omega, rfl, (unhide HA).stepNone, unhide HB⟩
  case round =>
    obtain ⟨i, hi, rfl, a1, b1⟩ := hrel
    have HA1 := hide a1
    have HB1 := hide b1
    by_cases hlt : i < n
    · have c0 := a1.c0 i hlt
      have f0 := a1.f0 i hlt
      have s1 := ((unhide H1).below b1 (unhide H1).lt).c i hlt
      have s2 := ((unhide H2).below b1 (unhide H2).lt).c i hlt
      have e1 := hide (xorI (F i) (G i) (unhide HF _) (unhide HG _))
      have e2 := hide (unhide HE i)
      clear a1 b1
      generalize F i = x at *
      generalize G i = y at *
      generalize stp r (fun _ => 0) i i = z at *
      have n1 : (0 : Int) ≤ (i : Int) ∧ (i : Int) < n := by omega
      go_wp2_with fail
      go_region
      go_wp2
      rw [unhide e1]
      exact ⟨⟨i + 1, by omega, by go_num, ((unhide HA1).step hlt (unhide e2)).drew, ((unhide HB1).setCell (by simp) _).drew⟩, by simp [intOf]; omega⟩
    · have e : i = n := by omega
      subst e
      clear a1 b1
      go_wp2
      go_ret
      exact ⟨w.heap.size, Nat.le_refl _, rfl, (unhide HA1).stepEnd, unhide HB1⟩
end Go.Proofs.Ytkpodgeinanceaa
