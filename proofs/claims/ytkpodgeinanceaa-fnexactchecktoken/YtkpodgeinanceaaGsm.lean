/-
  Contracts: the model's l3Mix.
-/
import Derived.Test.YtkpodgeinanceaaGmx
import Derived.Deep.RegionWith
namespace Go.Proofs.Ytkpodgeinanceaa
open Go.ChangeShapes Go.WideShapes Go.ChangeAt Go.RowKit
set_option linter.unusedVariables false
set_option maxRecDepth 100000

/-- the first k products of the place i -/
def mgs (G F : Nat → Nat) (i : Nat) : Nat → Nat
  | 0 => 0
  | k + 1 => mgs G F i k ^^^ mul (G k) (F ((i + k) % 4))
def mixg (G F : Nat → Nat) (i : Nat) : Nat := mgs G F i 4
theorem mgs_lt (G F : Nat → Nat) (hG : ∀ i, G i < 256) (i : Nat) : ∀ k, mgs G F i k < 256
  | 0 => by simp [mgs]
  | k + 1 => xor_lt _ _ (mgs_lt G F hG i k) (mul_lt _ _ (hG k))

set_option maxHeartbeats 2000000 in
theorem specMix (sb so scap fb fo fcap : Nat) (F G : Nat → Nat) (hF : ∀ i, F i < 256) (hG : ∀ i, G i < 256) (w : World) (h1 : Ar w sb so 4 F) (h2 : Ar w fb fo 4 G) :
    Calls Try.prog 75 #[.slice (some ⟨sb, so, none⟩) 4 scap, .slice (some ⟨fb, fo, none⟩) 4 fcap] w fun e w' => ∃ g, w.heap.size ≤ g ∧ e = .returned (.slice (some ⟨g, 0, none⟩) 4 4) ∧ Ar w' g 0 4 (mixg G F) ∧ Below w.heap.size w w' := by
  have HF := hide hF
  have HG := hide hG
  have H1 := hide h1
  have H2 := hide h2
  clear hF hG h1 h2
  go_enter Try.func75, Try.ntmps75
  go_wp2_with fail
  have hmk : (Instr.makeSlice 32 (.int .i64 4) (.int .i64 4)).run Try.prog w = _ := mk_bytes 4 (by omega) w
  rw [hmk]
  go_wp2_with fail
  have A0 : Ar (w.alloc (.cells (us 4 fun _ => 0).toArray 5)) w.heap.size 0 4 (fun _ => 0) := Ar.new w 4 (fun _ => 0) 5
  have B0 : Below w.heap.size w (w.alloc (.cells (us 4 fun _ => 0).toArray 5)) := (Below.refl _ _).alloc (Nat.le_refl _) _
  generalize w.alloc (.cells (us 4 fun _ => 0).toArray 5) = w0 at A0 B0 ⊢
  have HA := hide A0
  have HB := hide B0
  clear A0 B0 hmk
  go_loopw [11] (fun iv wr => ∃ i : Nat, i ≤ 4 ∧ iv = .int .i64 i ∧ Ar wr w.heap.size 0 4 (stp (mixg G F) (fun _ => 0) i) ∧ Below w.heap.size w wr) (fun iv _ => 4 - (intOf iv).toNat)
  case atStart => exact ⟨0, by omega, rfl, (unhide HA).stepNone, unhide HB⟩
  case round =>
    obtain ⟨i, hi, rfl, a1, b1⟩ := hrel
    have HA1 := hide a1
    have HB1 := hide b1
    clear a1 b1
    by_cases hlt : i < 4
    · go_wp2_with fail
      rw [show decide ((i : Int) < 4) = true from decide_eq_true (by omega)]
      go_loopw [7] (fun kv wr2 => ∃ k : Nat, k ≤ 4 ∧ kv = .int .i64 k ∧ Ar wr2 w.heap.size 0 4 (fun j => if j = i then mgs G F i k else stp (mixg G F) (fun _ => 0) i j) ∧ Below w.heap.size w wr2) (fun kv _ => 4 - (intOf kv).toNat)
      case atStart => exact ⟨0, by omega, rfl, (unhide HA1).congr (fun j hj => by
        by_cases e : j = i
        · subst e; simp [mgs, stp]
        · simp [e]), unhide HB1⟩
      case round =>
        obtain ⟨k, hk, rfl, a2, b2⟩ := hrel
        by_cases hl2 : k < 4
        · have m0 := a2.c0 i hlt
          have f0 := a2.f0 i hlt
          have s1 := ((unhide H1).below b2 (unhide H1).lt).c ((i + k) % 4) (by omega)
          have s2 := ((unhide H2).below b2 (unhide H2).lt).c k hl2
          have HA2 := hide a2
          have HB2 := hide b2
          clear a2 b2
          rw [if_pos rfl] at m0
          have hM := hide (fun W => specMul (G k) (F ((i + k) % 4)) (unhide HG _) (unhide HF _) W)
          have e1 := hide (xorI (mgs G F i k) (mul (G k) (F ((i + k) % 4))) (mgs_lt G F (unhide HG) i k) (mul_lt _ _ (unhide HG _)))
          have e2 := hide (show mgs G F i (k + 1) = mgs G F i k ^^^ mul (G k) (F ((i + k) % 4)) from rfl)
          generalize mul (G k) (F ((i + k) % 4)) = y at *
          generalize mgs G F i k = x at *
          generalize G k = g1 at *
          generalize F ((i + k) % 4) = g2 at *
          have i2 : IntKind.i64.wrap ((i : Int) + (k : Int)) = (i : Int) + (k : Int) := wraps_i64 _ (by omega) (by omega)
          have j2 : Int.tmod ((i : Int) + (k : Int)) 4 = (((i + k) % 4 : Nat) : Int) := by rw [Int.tmod_eq_emod_of_nonneg (by omega)]; omega
          have l2 : (i + k) % 4 < 4 := by omega
          generalize (i + k) % 4 = p2 at *
          have n2 : (0 : Int) ≤ (p2 : Int) ∧ (p2 : Int) < 4 := by omega
          have n3 : (0 : Int) ≤ (k : Int) ∧ (k : Int) < 4 := by omega
          have n4 : (0 : Int) ≤ (i : Int) ∧ (i : Int) < 4 := by omega
          have m2 : IntKind.i64.wrap (p2 : Int) = (p2 : Int) := wraps_i64 _ (by omega) (by omega)
          go_wp2_with fail
          go_region_with (go_at_call 73; with_reducible refine (unhide hM _).mono ?_; rintro e w1 ⟨rfl, rfl⟩)
          all_goals
            go_wp2
            rw [unhide e1]
            refine ⟨⟨k + 1, by omega, by go_num, ((unhide HA2).put0 hlt ?_ ?_).drew, ((unhide HB2).setCell (by simp) _).drew⟩, by simp [intOf]; omega⟩
            · rw [if_pos rfl]; exact unhide e2
            · intro j hj hne; rw [if_neg hne, if_neg hne]
        · have e : k = 4 := by omega
          subst e
          have HA2 := hide a2
          have HB2 := hide b2
          clear a2 b2
          go_wp2
          refine ⟨⟨i + 1, by omega, by go_num, (unhide HA2).congr ?_, unhide HB2⟩, by simp [intOf]; omega⟩
          intro j hj
          unfold stp
          by_cases e : j = i
          · subst e; rw [if_pos rfl, if_pos (by omega)]; rfl
          · rw [if_neg e]
            by_cases e2 : j < i
            · rw [if_pos e2, if_pos (by omega)]
            · rw [if_neg e2, if_neg (by omega)]
    · have e : i = 4 := by omega
      subst e
      go_wp2
      go_ret
      exact ⟨w.heap.size, Nat.le_refl _, rfl, (unhide HA1).stepEnd, unhide HB1⟩
theorem mixg_eq (F : Nat → Nat) (hF : ∀ i, F i < 256) (i : Nat) (hi : i < 4) : mixg (q4 2 3 1 1) F i = mixc F i := by
  have e0 : (i + 0) % 4 = i := by omega
  show 0 ^^^ mul 2 (F ((i + 0) % 4)) ^^^ mul 3 (F ((i + 1) % 4)) ^^^ mul 1 (F ((i + 2) % 4)) ^^^ mul 1 (F ((i + 3) % 4)) = _
  rw [e0, mul2 _ (hF _), mul3 _ (hF _), mul1 _ (hF _), mul1 _ (hF _), Nat.zero_xor]
  unfold mixc mx1
  simp only [Nat.xor_assoc]

/-- the literal of the four factors -/
theorem q4_new (w : World) (a b c d : Nat) (t : TypeId) : Ar (w.alloc (.cells #[.int .u8 a, .int .u8 b, .int .u8 c, .int .u8 d] t)) w.heap.size 0 4 (q4 a b c d) := by
  have h := Ar.new w 4 (q4 a b c d) t
  rw [us_def] at h
  exact h
end Go.Proofs.Ytkpodgeinanceaa
