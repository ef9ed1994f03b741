/-
  Contracts: a number in its lowest bytes, of both sides; bounds.
-/
import Derived.Test.YtkpodgeinanceaaObs
import Derived.Test.YtkpodgeinanceaaInb
namespace Go.Proofs.Ytkpodgeinanceaa
open Go.ChangeShapes Go.WideShapes Go.ChangeAt Go.RowKit
set_option linter.unusedVariables false
set_option maxRecDepth 100000

/-- byte k of a number, from the lowest on -/
def nB (n k : Nat) : Nat := n / 256 ^ k % 256
theorem nB_lt (n k : Nat) : nB n k < 256 := Nat.mod_lt _ (by omega)
theorem nB_int (n k : Nat) : ((nB n k : Nat) : Int) = (n : Int) / 2 ^ (8 * k) % 256 := by
  unfold nB
  rw [show (256 : Nat) ^ k = 2 ^ (8 * k) by rw [Nat.pow_mul]]
  simp
/-- the lowest m bytes of a number -/
def loW (n m : Nat) : ByteArray := bq m (fun i => nB n (m - 1 - i))
theorem loW_size (n m : Nat) : (loW n m).size = m := bq_size _ _
set_option maxHeartbeats 1000000 in
theorem specFx (n M : Nat) (hn : n < 4611686018427387904) (hM : M ≤ 8) (w : World) :
    Calls Try.prog 55 #[.int .i64 n, .int .i64 M] w fun e w' => e = .returned (.string (loW n M)) ∧ Below w.heap.size w w' := by
  unfold loW
  obtain ⟨i0, hi0, hz0, hz1, hz2⟩ := info_u8j
  have HL := hide (fun i => nB_lt n (M - 1 - i))
  go_enter Try.func55, Try.ntmps55
  go_wp2_with fail
  go_loopw [5, 6] (fun v kv wr => ∃ i : Nat, i ≤ M ∧ kv = .int .i64 ((M : Int) - 1 - (i : Int)) ∧ Ob w.heap.size wr v i (fun i => nB n (M - 1 - i)) ∧ Below w.heap.size w wr) (fun _ kv _ => (intOf kv + 1).toNat)
  case atStart => exact ⟨0, by omega, by go_num, Ob.nil _ _ _, Below.refl _ _⟩
  case round =>
    obtain ⟨i, hi, rfl, hO, hB⟩ := hrel
    by_cases hlt : i < M
    · obtain ⟨k, hk⟩ : ∃ k : Nat, k = M - 1 - i := ⟨_, rfl⟩
      have hkI : (M : Int) - 1 - (i : Int) = (k : Int) := by omega
      rw [hkI]
      have hk4 : k < 8 := by omega
      have hbs := hB.size
      have eI := nB_int n k
      have al := (Below.refl wr.heap.size wr).alloc (Nat.le_refl _) (.cells #[.int .u8 ((n : Int) / 2 ^ (8 * k) % 256)] 5)
      have hN : Ar (wr.alloc (.cells #[.int .u8 ((n : Int) / 2 ^ (8 * k) % 256)] 5)) wr.heap.size 0 1 (fun _ => nB n k) := by
        have h9 := Ar.new wr 1 (fun _ => nB n k) 5
        have e9 : (us 1 (fun _ => nB n k)).toArray = #[.int .u8 ((n : Int) / 2 ^ (8 * k) % 256)] := by
          rw [us_def]
          show #[Value.int .u8 ((nB n k : Nat) : Int)] = _
          rw [eI]
        rw [e9] at h9
        exact h9
      have O3 := hide (hO.kept al)
      have B3 := hide (hB.trans (al.mono hbs))
      have hnew : Hid (∀ j u, (us 1 (fun _ => nB n k))[j]? = some u → (wr.alloc (.cells #[.int .u8 ((n : Int) / 2 ^ (8 * k) % 256)] 5)).cell? ((⟨wr.heap.size, 0, none⟩ : Addr).add j) = some u) := fun j u hu => by rw [Addr.add_mid]; exact hN.range j u hu
      have hone := hide (us_oneL 1 (fun _ => nB n k))
      have hz3 : (wr.alloc (.cells #[.int .u8 ((n : Int) / 2 ^ (8 * k) % 256)] 5)).heap.size = wr.heap.size + 1 := by simp
      have HK := hide (And.intro hk hkI)
      clear al hN hO hB hk hkI eI
      go_wp2_with (at_builtin; refine wpList_append_lies _ rfl _ _ 32 rfl w.heap.size 5 i0 (.int .u8 0) 1 1 Try.underlying32 hi0 hz0 hz1 hz2 rfl (by decide) _ _ _ rfl (unhide O3) ⟨wr.heap.size, 0, none⟩ 1 1 (us 1 (fun _ => nB n k)) rfl ?c0 (unhide hnew) (unhide hone) (by omega) ?c3 ?c4 ?c5 (wr.heap.size + 1) ?c6 ?_)
      case c0 => rw [us_length]
      case c3 => unfold maxLen; omega
      case c4 => omega
      case c5 => omega
      case c6 => exact hz3
      intro g8 cap8 w8 hown hgrow hat hlt8
      rw [show us 1 (fun _ => nB n k) = us 1 (fun j => (fun i => nB n (M - 1 - i)) (i + j)) from us_congr fun j hj => by obtain rfl : j = 0 := (by omega); rw [(unhide HK).1]; rfl] at hown
      have O8 := hide (Ob.grow hown)
      have b8 := Ob.below (unhide O3) hgrow (by rw [hz3]; omega)
      have B8 := hide ((unhide B3).trans b8)
      clear hown hgrow hat b8 O3 B3 hnew hone
      go_wp2
      exact ⟨⟨i + 1, by omega, by have := (unhide HK).2; congr 1; omega, unhide O8, unhide B8⟩, by simp [intOf]⟩
    · obtain rfl : i = M := by omega
      have hst := hO.string (fun i _ => unhide HL i)
      have B9 := hide hB
      clear hO hB
      go_wp2
      go_ret
      exact ⟨rfl, unhide B9⟩

set_option maxHeartbeats 1000000 in
theorem implLow (n M : Nat) (hn : n < 4611686018427387904) (hM : M ≤ 8) (w : World) :
    Calls Try.prog 33 #[.int .i64 n, .int .i64 M] w fun e w' => e = .returned (.string (loW n M)) ∧ Below w.heap.size w w' := by
  unfold loW
  have HL : Hid (∀ i, i < M → (fun i => nB n (M - 1 - i)) i < 256) := fun i _ => nB_lt n (M - 1 - i)
  have E : ∀ i, (fun i => nB n (M - 1 - i)) i = nB n (M - 1 - i) := fun i => rfl
  generalize (fun i => nB n (M - 1 - i)) = r at E HL ⊢
  have HE := hide E
  clear E
  go_enter Try.func33, Try.ntmps33
  go_wp2_with fail
  have hmk : (Instr.makeSlice 32 (.int .i64 M) (.int .i64 M)).run Try.prog w = _ := mk_bytes M (by omega) w
  rw [hmk]
  go_wp2_with fail
  have A0 : Ar (w.alloc (.cells (us M fun _ => 0).toArray 5)) w.heap.size 0 M (fun _ => 0) := Ar.new w M (fun _ => 0) 5
  have B0 : Below w.heap.size w (w.alloc (.cells (us M fun _ => 0).toArray 5)) := (Below.refl _ _).alloc (Nat.le_refl _) _
  generalize w.alloc (.cells (us M fun _ => 0).toArray 5) = w0 at A0 B0 ⊢
  have HA := hide A0
  have HB := hide B0
  clear A0 B0 hmk
  go_loopw [11] (fun iv wr => ∃ i : Nat, i ≤ M ∧ iv = .int .i64 i ∧ Ar wr w.heap.size 0 M (stp r (fun _ => 0) i) ∧ Below w.heap.size w wr) (fun iv _ => M - (intOf iv).toNat)
  case atStart => exact ⟨0, by omega, rfl, (unhide HA).stepNone, unhide HB⟩
  case round =>
    obtain ⟨i, hi, rfl, a1, b1⟩ := hrel
    have HA1 := hide a1
    have HB1 := hide b1
    by_cases hlt : i < M
    · have c0 := a1.c0 i hlt
      have f0 := a1.f0 i hlt
      obtain ⟨k, hk⟩ : ∃ k : Nat, k = M - 1 - i := ⟨_, rfl⟩
      have hkI : (M : Int) - 1 - (i : Int) = (k : Int) := by omega
      have hk8 : k < 8 := by omega
      have e2 := hide (unhide HE i)
      rw [← hk] at e2
      have eI := hide (nB_int n k)
      clear a1 b1 hk
      generalize stp r (fun _ => 0) i i = z at *
      have n1 : (0 : Int) ≤ (i : Int) ∧ (i : Int) < M := by omega
      go_wp2
      rw [← unhide eI]
      exact ⟨⟨i + 1, by omega, by go_num, (unhide HA1).step hlt (unhide e2), (unhide HB1).setCell (by simp) _⟩, by simp [intOf]; omega⟩
    · have e : i = M := by omega
      subst e
      have hst := ar_string (a1.stepEnd) (unhide HL) i
      clear a1 b1
      go_wp2
      go_ret
      exact ⟨rfl, unhide HB1⟩
end Go.Proofs.Ytkpodgeinanceaa
