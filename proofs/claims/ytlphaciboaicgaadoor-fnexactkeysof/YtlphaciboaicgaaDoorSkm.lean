/-
  Contracts: a key's block, the program's.
-/
import Derived.Test.YtlphaciboaicgaaDoorSbk
import Derived.Lib.LazyBuf
import Derived.Deep.Cut
namespace Go.Proofs.YtlphaciboaicgaaDoor
open Go.ChangeShapes Go.WideShapes Go.ChangeAt Go.RowKit
set_option linter.unusedVariables false

theorem zer64b : (#[Value.int .u8 0, Value.int .u8 0, Value.int .u8 0, Value.int .u8 0, Value.int .u8 0, Value.int .u8 0, Value.int .u8 0, Value.int .u8 0, Value.int .u8 0, Value.int .u8 0, Value.int .u8 0, Value.int .u8 0, Value.int .u8 0, Value.int .u8 0, Value.int .u8 0, Value.int .u8 0, Value.int .u8 0, Value.int .u8 0, Value.int .u8 0, Value.int .u8 0, Value.int .u8 0, Value.int .u8 0, Value.int .u8 0, Value.int .u8 0, Value.int .u8 0, Value.int .u8 0, Value.int .u8 0, Value.int .u8 0, Value.int .u8 0, Value.int .u8 0, Value.int .u8 0, Value.int .u8 0, Value.int .u8 0, Value.int .u8 0, Value.int .u8 0, Value.int .u8 0, Value.int .u8 0, Value.int .u8 0, Value.int .u8 0, Value.int .u8 0, Value.int .u8 0, Value.int .u8 0, Value.int .u8 0, Value.int .u8 0, Value.int .u8 0, Value.int .u8 0, Value.int .u8 0, Value.int .u8 0, Value.int .u8 0, Value.int .u8 0, Value.int .u8 0, Value.int .u8 0, Value.int .u8 0, Value.int .u8 0, Value.int .u8 0, Value.int .u8 0, Value.int .u8 0, Value.int .u8 0, Value.int .u8 0, Value.int .u8 0, Value.int .u8 0, Value.int .u8 0, Value.int .u8 0, Value.int .u8 0] : Array Value) = (us 64 fun _ => 0).toArray := by rw [us_def]; rfl
theorem us_at8 (s : ByteArray) : (s.data.toList.map fun x => Value.int .u8 (x.toNat : Int)) = us s.size (at8 s) := by
  apply List.ext_getElem
  · simp [us_def]
  · intro i h1 h2
    have h3 : i < s.size := by simpa [us_def] using h2
    simp [us_def, at8_in s i h3]
    rfl
theorem at8_out (s : ByteArray) (i : Nat) (h : s.size ≤ i) : at8 s i = 0 := by unfold at8; rw [dif_neg (by omega)]
theorem size_u8 (w : World) : (Go.sizeOf 5).run Tryd.prog w = .ok 1 w := by
  obtain ⟨i0, hi, hz0, hz1, hz2⟩ := info_parts info_u8
  simp [sizeOf, typeInfo, hi, hz1]
theorem xorI (a b : Nat) (ha : a < 256) (hb : b < 256) : bits .xor .u8 (a : Int) (b : Int) = ((a ^^^ b : Nat) : Int) := u8_xor_nat a b ha hb
theorem xor_lt (a b : Nat) (ha : a < 256) (hb : b < 256) : a ^^^ b < 256 := Nat.xor_lt_two_pow (n := 8) ha hb
set_option maxRecDepth 100000 in
set_option maxHeartbeats 1000000 in
theorem implMarked (key : ByteArray) (x : Nat) (hk : key.size ≤ 64) (hx : x < 256) (w : World) :
    Calls Tryd.prog 32 #[.string key, .int .u8 x] w fun e w' => e = .returned (.string (kyW key x)) ∧ Below w.heap.size w w' := by
  go_enter Tryd.func32, Tryd.ntmps32
  go_wp2_with fail
  rw [zer64b]
  have h0 := Ar.new w 64 (fun _ => 0) 69
  have hB := (Below.refl w.heap.size w).alloc (Nat.le_refl _) (.cells (us 64 (fun _ => 0)).toArray 69)
  generalize w.alloc (.cells (us 64 (fun _ => 0)).toArray 69) = W at h0 hB ⊢
  rw [Go.run_copy_string W 46 9 3 5 w.heap.size 0 64 64 key Tryd.underlying46 size_u8 hk (fun j hj => by rw [h0.c j (by omega)]; rfl) (fun j hj => h0.fz j (by omega)), us_at8]
  have h1 : Ar (W.setCells w.heap.size (0 + 0) (us key.size (at8 key))) w.heap.size 0 64 (at8 key) := h0.putPart (p := 0) (m := key.size) (g := at8 key) (G := at8 key) (by omega) (fun i hi => by rw [Nat.zero_add]) (fun i hi h => by
    rcases h with h | h
    · omega
    · exact at8_out key i (by omega))
  have hC := Go.Proofs.YtlphaciboaicgaaDoor.below_setCells (b := w.heap.size) (Nat.le_refl _) (us key.size (at8 key)) 0 _ hB
  generalize W.setCells w.heap.size 0 (us key.size (at8 key)) = W2 at h1 hC ⊢
  clear h0 hB
  have H1 := hide h1
  have HC := hide hC
  clear h1 hC
  go_wp2_with fail
  go_loopw [10] (fun iv wr => ∃ k : Nat, k ≤ 64 ∧ iv = .int .i64 k ∧ Ar wr w.heap.size 0 64 (stp (fun i => at8 key i ^^^ x) (at8 key) k) ∧ Below w.heap.size w wr) (fun iv _ => 64 - (intOf iv).toNat)
  case atStart => exact ⟨0, by omega, rfl, (unhide H1).stepNone, unhide HC⟩
  case round =>
    obtain ⟨k, hk64, rfl, h0, hB⟩ := hrel
    by_cases hlt : k < 64
    · have hc := h0.c0 k hlt
      rw [show stp (fun i => at8 key i ^^^ x) (at8 key) k k = at8 key k by simp [stp]] at hc
      have hf := h0.f0 k hlt
      have hx8 := xorI (at8 key k) x (at8_lt key k) hx
      have R1 := hide (h0.step hlt (x := at8 key k ^^^ x) rfl)
      have R2 := hide (hB.setCell (p := ⟨w.heap.size, k, none⟩) (Nat.le_refl _) (.int .u8 ((at8 key k ^^^ x : Nat) : Int)))
      have hv := at8_lt key k
      clear h0 hB H1 HC
      generalize hy : at8 key k ^^^ x = y at *
      clear hy
      generalize at8 key k = v at *
      go_wp2
      exact ⟨⟨k + 1, by omega, by go_num, unhide R1, unhide R2⟩, by simp [intOf]; omega⟩
    · obtain rfl : k = 64 := by omega
      have hst := ar_string h0.stepEnd (fun i _ => xor_lt _ _ (at8_lt key i) hx) 64
      have HB := hide hB
      clear h0 hB H1 HC
      go_wp2
      go_ret
      exact ⟨rfl, unhide HB⟩
end Go.Proofs.YtlphaciboaicgaaDoor
