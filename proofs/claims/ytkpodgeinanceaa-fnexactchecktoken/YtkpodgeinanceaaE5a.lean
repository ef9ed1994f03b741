/-
  Contracts: the program's blocks as two words.
-/
import Derived.Test.YtkpodgeinanceaaL5x
import Derived.Test.YtkpodgeinanceaaAbo
import Derived.Test.YtkpodgeinanceaaL5y
namespace Go.Proofs.Ytkpodgeinanceaa
open Go.ChangeShapes Go.WideShapes Go.ChangeAt Go.RowKit
set_option linter.unusedVariables false

/-- the number of k bytes -/
def nbF (f : Nat → Nat) : Nat → Nat
  | 0 => 0
  | k + 1 => nbF f k * 256 + f k
theorem nbF_lt (f : Nat → Nat) (hf : ∀ i, f i < 256) : ∀ k, nbF f k < 256 ^ k
  | 0 => by simp [nbF]
  | k + 1 => by
    have h1 := nbF_lt f hf k
    have h2 := hf k
    rw [nbF, Nat.pow_succ]
    omega
theorem orU (n c : Nat) (hn : n < 72057594037927936) (hc : c < 256) : bits .or .u64 ((n : Int) * 256) (c : Int) = ((n * 256 + c : Nat) : Int) := by
  have h1 := Nat.two_pow_add_eq_or_of_lt (i := 8) (b := c) (by omega) n
  show IntKind.u64.wrap (((BitVec.ofInt 64 ((n : Int) * 256) ||| BitVec.ofInt 64 (c : Int)).toNat : Nat) : Int) = _
  rw [BitVec.toNat_or, BitVec.toNat_ofInt, BitVec.toNat_ofInt, show ((n : Int) * 256 % ((2 ^ 64 : Nat) : Int)).toNat = 2 ^ 8 * n by omega, show ((c : Int) % ((2 ^ 64 : Nat) : Int)).toNat = c by omega, ← h1, IntKind.wrap_u64]
  omega
theorem Q2.drew {w : World} {b x y : Nat} (h : Q2 w b x y) : Q2 w.drew b x y := ⟨h.c0, h.c1, h.f0, h.f1⟩
theorem info_el : (Try.prog.info? 82).map (·.size) = some 2 := by kernel_rfl
set_option maxRecDepth 100000 in
set_option maxHeartbeats 1000000 in
theorem implElementOf (b o n cap : Nat) (f : Nat → Nat) (hf : ∀ i, f i < 256) (hn : 16 ≤ n) (hnm : n ≤ 1048576) (w : World) (hA : Ar w b o 16 f) :
    Calls Try.prog 67 #[.slice (some ⟨b, o, none⟩) n cap] w fun e w' => e = .returned (.agg #[.int .u64 (nbF f 8 : Nat), .int .u64 (nbF (fun i => f (8 + i)) 8 : Nat)]) ∧ Below w.heap.size w w' := by
  have HA := hide hA
  have HF := hide hf
  have HN1 := hide (fun k => nbF_lt f hf k)
  have HN2 := hide (fun k => nbF_lt (fun i => f (8 + i)) (fun i => hf _) k)
  have HS1 : Hid (∀ k, nbF f (k + 1) = nbF f k * 256 + f k) := fun k => rfl
  have HS2 : Hid (∀ k, nbF (fun i => f (8 + i)) (k + 1) = nbF (fun i => f (8 + i)) k * 256 + f (8 + k)) := fun k => rfl
  have HZ1 : Hid (nbF f 0 = 0) := rfl
  have HZ2 : Hid (nbF (fun i => f (8 + i)) 0 = 0) := rfl
  generalize nbF (fun i => f (8 + i)) = L at *
  generalize nbF f = H at *
  clear hA hf
  go_enter Try.func67, Try.ntmps67
  go_wp2_with fail
  have d0 : Q2 (w.alloc (.cells #[.int .u64 0, .int .u64 0] 82)) w.heap.size 0 0 := q2_own w 0 0 _
  have e0 := (Below.refl w.heap.size w).alloc (Nat.le_refl _) (.cells #[.int .u64 0, .int .u64 0] 82)
  have z0 : (w.alloc (.cells #[.int .u64 0, .int .u64 0] 82)).heap.size = w.heap.size + 1 := by simp
  generalize w.alloc (.cells #[.int .u64 0, .int .u64 0] 82) = W0 at d0 e0 z0 ⊢
  have d1 : Q2 (W0.alloc (.cells #[.int .u64 0, .int .u64 0] 82)) W0.heap.size 0 0 := q2_own W0 0 0 _
  have f0 := hide (d0.alloc (.cells #[.int .u64 0, .int .u64 0] 82) (by omega))
  have e1 := hide (e0.alloc (by omega) (.cells #[.int .u64 0, .int .u64 0] 82))
  rw [z0] at d1
  have f1 := hide d1
  generalize W0.alloc (.cells #[.int .u64 0, .int .u64 0] 82) = W1 at f0 f1 e1 ⊢
  clear d0 e0 z0 d1
  go_loopw [5] (fun iv wr => ∃ i : Nat, i ≤ 8 ∧ iv = .int .i64 i ∧ Q2 wr w.heap.size 0 0 ∧ Q2 wr (w.heap.size + 1) (H i) (L i) ∧ Below w.heap.size w wr) (fun iv _ => 8 - (intOf iv).toNat)
  case atStart => exact ⟨0, by omega, rfl, unhide f0, by rw [unhide HZ1, unhide HZ2]; exact unhide f1, unhide e1⟩
  case round =>
    obtain ⟨i, hi, rfl, q0, q1, hB⟩ := hrel
    clear f0 f1 e1
    by_cases hlt : i < 8
    · have h4 : 256 ^ i ≤ 256 ^ 7 := Nat.pow_le_pow_right (by omega) (by omega)
      have hb1 : H i < 72057594037927936 := by have := unhide HN1 i; omega
      have hb2 : L i < 72057594037927936 := by have := unhide HN2 i; omega
      have a1 := ((unhide HA).below hB (unhide HA).lt).c i (by omega)
      have a2 := ((unhide HA).below hB (unhide HA).lt).c (8 + i) (by omega)
      have x1 := unhide HF i
      have x2 := unhide HF (8 + i)
      have o1 := hide (orU (H i) (f i) hb1 x1)
      have o2 := hide (orU (L i) (f (8 + i)) hb2 x2)
      have s1 := hide (unhide HS1 i)
      have s2 := hide (unhide HS2 i)
      have c0 := q1.c0
      have c1 := q1.c1
      have g0 := q1.f0
      have g1 := q1.f1
      have r0 := hide ((q0.other (b' := w.heap.size + 1) (k := 0) (v := .int .u64 ((H i * 256 + f i : Nat) : Int)) (by omega)).other (b' := w.heap.size + 1) (k := 1) (v := .int .u64 ((L i * 256 + f (8 + i) : Nat) : Int)) (by omega)).drew.drew
      have r1 := hide ((q1.put0 (H i * 256 + f i)).put1 (L i * 256 + f (8 + i))).drew.drew
      have r2 := hide ((hB.setCell (p := ⟨w.heap.size + 1, 0, none⟩) (show w.heap.size ≤ w.heap.size + 1 by omega) (.int .u64 ((H i * 256 + f i : Nat) : Int))).setCell (p := ⟨w.heap.size + 1, 1, none⟩) (show w.heap.size ≤ w.heap.size + 1 by omega) (.int .u64 ((L i * 256 + f (8 + i) : Nat) : Int))).drew.drew
      rw [← unhide o1, ← unhide o2] at r0 r1 r2
      clear h4 q0 q1 hB
      obtain ⟨q, hq⟩ : ∃ q : Nat, q = 8 + i := ⟨_, rfl⟩
      have hqI : 8 + (i : Int) = (q : Int) := by omega
      have n1 : (0 : Int) ≤ (i : Int) ∧ (i : Int) < n := by omega
      have n2 : (0 : Int) ≤ (q : Int) ∧ (q : Int) < n := by omega
      rw [← hq] at a2 x2 o2 s2 r0 r1 r2
      have v1 : IntKind.i64.wrap (8 + (i : Int)) = (q : Int) := by rw [hqI]; exact wraps_i64 _ (by omega) (by omega)
      have HQ := hide hq
      clear hq
      generalize f q = y at *
      generalize f i = x at *
      generalize H i = h at *
      generalize L i = l at *
      go_wp2_with fail
      go_region
      go_wp2_with fail
      go_region
      go_wp2
      exact ⟨⟨i + 1, by omega, by go_num, unhide r0, by rw [unhide s1, unhide s2]; exact unhide r1, unhide r2⟩, by simp [intOf]; omega⟩
    · obtain rfl : i = 8 := by omega
      have c0 := q1.c0
      have c1 := q1.c1
      have g0 := q0.f0
      have g1 := q0.f1
      have k0 := q0.c0
      have k1 := q0.c1
      have R := hide ((q0.put0 (H 8)).put1 (L 8))
      have B := hide ((hB.setCell (p := ⟨w.heap.size, 0, none⟩) (Nat.le_refl _) (.int .u64 (H 8 : Nat))).setCell (p := ⟨w.heap.size, 1, none⟩) (Nat.le_refl _) (.int .u64 (L 8 : Nat)))
      clear q0 q1 hB
      go_wp2
      refine ret_two 2 w.heap.size (H 8) (L 8) 82 _ ?r1 ?r2 ?r3 (unhide R) Try.underlying82 rfl info_el ?_
      case r1 => rfl
      case r2 => rfl
      case r3 => rfl
      exact ⟨rfl, unhide B⟩
end Go.Proofs.Ytkpodgeinanceaa
