/-
  Contracts: blocks of sixteen bytes: xored, put through a table, shifted.
-/
import Derived.Test.YtkpodgeinanceaaGmx
import Derived.Test.YtkpodgeinanceaaAbo
namespace Go.Proofs.Ytkpodgeinanceaa
open Go.ChangeShapes Go.WideShapes Go.ChangeAt Go.RowKit
set_option linter.unusedVariables false
set_option maxRecDepth 100000

set_option maxHeartbeats 1000000 in
theorem implXored (f g : Nat → Nat) (hf : ∀ i, f i < 256) (hg : ∀ i, g i < 256) (w : World) :
    Calls Try.prog 71 #[.agg (us 16 f).toArray, .agg (us 16 g).toArray] w fun e w' => e = .returned (.agg (us 16 (fun i => f i ^^^ g i)).toArray) ∧ Below w.heap.size w w' := by
  have HF := hide hf
  have HG := hide hg
  clear hf hg
  have E : ∀ i, (fun i => f i ^^^ g i) i = f i ^^^ g i := fun i => rfl
  generalize (fun i => f i ^^^ g i) = r at E ⊢
  have HE := hide E
  clear E
  go_enter Try.func71, Try.ntmps71
  go_wp2_with fail
  go_loopw [6] (fun iv wr => ∃ k : Nat, k ≤ 16 ∧ iv = .int .i64 k ∧ Ar wr w.heap.size 0 16 (stp r f k) ∧ Ar wr (w.heap.size + 1) 0 16 g ∧ Ar wr (w.heap.size + 1 + 1) 0 16 (fun _ => 0) ∧ Below w.heap.size w wr) (fun iv _ => 16 - (intOf iv).toNat)
  case atStart =>
    refine ⟨0, by omega, rfl, ?_, ?_, ?_, ?_⟩
    · exact (((Ar.new w 16 f _).alloc _).alloc _).stepNone
    · have := (Ar.new (w.alloc (.cells (us 16 f).toArray 84)) 16 g 84)
      rw [World.size_alloc] at this
      exact this.alloc _
    · have := z16_new ((w.alloc (.cells (us 16 f).toArray 84)).alloc (.cells (us 16 g).toArray 84)) 84
      rw [World.size_alloc, World.size_alloc] at this
      exact this
    · repeat (first | exact Below.refl _ _ | refine Below.alloc ?_ (by simp <;> omega) _)
  case round =>
    obtain ⟨k, hk, rfl, h1, h2, h3, hbw⟩ := hrel
    have H1 := hide h1
    have H2 := hide h2
    have H3 := hide h3
    have HB := hide hbw
    by_cases hlt : k < 16
    · have s0 := h1.c0 k hlt
      have f0 := h1.f0 k hlt
      have s1 := h2.c0 k hlt
      have e0 : stp r f k k = f k := by simp [stp]
      rw [e0] at s0
      have e1 := hide (xorI (f k) (g k) (unhide HF _) (unhide HG _))
      have e2 := hide (unhide HE k)
      clear h1 h2 h3 hbw e0
      generalize f k = x at *
      generalize g k = y at *
      go_wp2_with fail
      go_region
      go_wp2
      rw [unhide e1]
      refine ⟨⟨k + 1, by omega, by go_num, ?_, ?_, ?_, ?_⟩, by simp [intOf]; omega⟩
      · exact ((unhide H1).step hlt (unhide e2)).drew
      · exact ((unhide H2).other (by simp)).drew
      · exact ((unhide H3).other (by simp <;> omega)).drew
      · exact ((unhide HB).setCell (by simp) _).drew
    · have e : k = 16 := by omega
      subst e
      have h4 := h1.stepEnd
      have h5 := h3.puts (g := r)
      go_upto_region 6 with fail
      refine wp_region_list ?_
      refine wpList_load_mid rfl 84 (.tmp 2) rfl w.heap.size 0 rfl (us 16 r) _ h4.range Try.underlying84 rfl (by rw [us_length]; exact info_bl) ?_
      refine wpList_store_mid rfl 84 (.tmp 4) (.tmp 18) rfl (w.heap.size + 1 + 1) 0 (us 16 r).toArray rfl rfl (by rw [us_size]; exact h3.there) (by rw [us_size]; exact info_bl) (us_one _ _) ?_
      refine wpList_nil ?_
      clear h1 h2 h3 h4 hbw
      have HH := hide h5
      clear h5
      go_wp2
      refine ret_arr 4 (w.heap.size + 1 + 1) 16 84 _ r ?r1 ?r2 ?r3 (unhide HH) Try.underlying84 rfl info_bl ?_
      case r1 => rfl
      case r2 => rfl
      case r3 => rfl
      exact ⟨rfl, below_setCells (by omega) _ _ _ (unhide HB)⟩

set_option maxHeartbeats 1000000 in
theorem implPut (f T : Nat → Nat) (hf : ∀ i, f i < 256) (tb to : Nat) (w : World) (hT : Ar w tb to 256 T) :
    Calls Try.prog 89 #[.agg (us 16 f).toArray, .pointer (some ⟨tb, to, none⟩)] w fun e w' => e = .returned (.agg (us 16 (fun i => T (f i))).toArray) ∧ Below w.heap.size w w' := by
  have HF := hide hf
  have HT := hide hT
  have E : ∀ i, (fun i => T (f i)) i = T (f i) := fun i => rfl
  generalize (fun i => T (f i)) = r at E ⊢
  have HE := hide E
  clear E hf hT
  go_enter Try.func89, Try.ntmps89
  go_wp2_with fail
  go_loopw [6] (fun iv wr => ∃ k : Nat, k ≤ 16 ∧ iv = .int .i64 k ∧ Ar wr w.heap.size 0 16 (stp r f k) ∧ Ar wr (w.heap.size + 1) 0 16 (fun _ => 0) ∧ Below w.heap.size w wr) (fun iv _ => 16 - (intOf iv).toNat)
  case atStart =>
    refine ⟨0, by omega, rfl, ?_, ?_, ?_⟩
    · exact ((Ar.new w 16 f _).alloc _).stepNone
    · have := z16_new (w.alloc (.cells (us 16 f).toArray 84)) 84
      rw [World.size_alloc] at this
      exact this
    · repeat (first | exact Below.refl _ _ | refine Below.alloc ?_ (by simp <;> omega) _)
  case round =>
    obtain ⟨k, hk, rfl, h1, h3, hbw⟩ := hrel
    have H1 := hide h1
    have H3 := hide h3
    have HB := hide hbw
    by_cases hlt : k < 16
    · have s0 := h1.c0 k hlt
      have f0 := h1.f0 k hlt
      have e0 : stp r f k k = f k := by simp [stp]
      rw [e0] at s0
      have e2 := hide (unhide HE k)
      have hx := unhide HF k
      have s1 := ((unhide HT).below hbw (unhide HT).lt).c (f k) hx
      clear h1 h3 hbw e0
      generalize f k = x at *
      generalize T x = y at *
      have i1 : (0 : Int) ≤ (x : Int) ∧ (x : Int) < 256 := by omega
      go_wp2_with fail
      go_region
      go_wp2
      refine ⟨⟨k + 1, by omega, by go_num, ?_, ?_, ?_⟩, by simp [intOf]; omega⟩
      · exact ((unhide H1).step hlt (unhide e2)).drew
      · exact ((unhide H3).other (by simp)).drew
      · exact ((unhide HB).setCell (by simp) _).drew
    · have e : k = 16 := by omega
      subst e
      have h4 := h1.stepEnd
      have h5 := h3.puts (g := r)
      go_upto_region 6 with fail
      refine wp_region_list ?_
      refine wpList_load_mid rfl 84 (.tmp 2) rfl (w.heap.size) 0 rfl (us 16 r) _ h4.range Try.underlying84 rfl (by rw [us_length]; exact info_bl) ?_
      refine wpList_store_mid rfl 84 (.tmp 4) (.tmp 19) rfl (w.heap.size + 1) 0 (us 16 r).toArray rfl rfl (by rw [us_size]; exact h3.there) (by rw [us_size]; exact info_bl) (us_one _ _) ?_
      refine wpList_nil ?_
      clear h1 h3 h4 hbw
      have HH := hide h5
      clear h5
      go_wp2
      refine ret_arr 4 (w.heap.size + 1) 16 84 _ r ?r1 ?r2 ?r3 (unhide HH) Try.underlying84 rfl info_bl ?_
      case r1 => rfl
      case r2 => rfl
      case r3 => rfl
      exact ⟨rfl, below_setCells (by omega) _ _ _ (unhide HB)⟩

set_option maxHeartbeats 1000000 in
theorem implShifted1 (f : Nat → Nat) (w : World) :
    Calls Try.prog 90 #[.agg (us 16 f).toArray, .int .i64 1] w fun e w' => e = .returned (.agg (us 16 (fun i => f ((i + 4 * (i % 4)) % 16))).toArray) ∧ Below w.heap.size w w' := by
  have E : ∀ i, (fun i => f ((i + 4 * (i % 4)) % 16)) i = f ((i + 4 * (i % 4)) % 16) := fun i => rfl
  generalize (fun i => f ((i + 4 * (i % 4)) % 16)) = r at E ⊢
  have HE := hide E
  clear E
  go_enter Try.func90, Try.ntmps90
  go_wp2_with fail
  go_loopw [8] (fun iv wr => ∃ k : Nat, k ≤ 16 ∧ iv = .int .i64 k ∧ Ar wr w.heap.size 0 16 f ∧ Ar wr (w.heap.size + 1) 0 16 (fun _ => 0) ∧ Ar wr (w.heap.size + 1 + 1) 0 16 (stp r (fun _ => 0) k) ∧ Below w.heap.size w wr) (fun iv _ => 16 - (intOf iv).toNat)
  case atStart =>
    refine ⟨0, by omega, rfl, ?_, ?_, ?_, ?_⟩
    · exact ((Ar.new w 16 f _).alloc _).alloc _
    · have := z16_new (w.alloc (.cells (us 16 f).toArray 84)) 84
      rw [World.size_alloc] at this
      exact this.alloc _
    · have := z16_new ((w.alloc (.cells (us 16 f).toArray 84)).alloc (.cells #[.int .u8 0, .int .u8 0, .int .u8 0, .int .u8 0, .int .u8 0, .int .u8 0, .int .u8 0, .int .u8 0, .int .u8 0, .int .u8 0, .int .u8 0, .int .u8 0, .int .u8 0, .int .u8 0, .int .u8 0, .int .u8 0] 84)) 84
      rw [World.size_alloc, World.size_alloc] at this
      exact this.stepNone
    · repeat (first | exact Below.refl _ _ | refine Below.alloc ?_ (by simp <;> omega) _)
  case round =>
    obtain ⟨k, hk, rfl, h1, h3, h2, hbw⟩ := hrel
    have H1 := hide h1
    have H2 := hide h2
    have H3 := hide h3
    have HB := hide hbw
    by_cases hlt : k < 16
    · have s0 := h1.c0 ((k + 4 * (k % 4)) % 16) (by omega)
      have s1 := h2.c0 k hlt
      have f1 := h2.f0 k hlt
      have e2 := hide (unhide HE k)
      clear h1 h3 h2 hbw
      generalize f ((k + 4 * (k % 4)) % 16) = x at *
      go_wp2
      refine ⟨⟨k + 1, by omega, by go_num, ?_, ?_, ?_, ?_⟩, by simp [intOf]; omega⟩
      · exact (unhide H1).other (by simp <;> omega)
      · exact (unhide H3).other (by simp)
      · exact (unhide H2).step hlt (unhide e2)
      · exact (unhide HB).setCell (by simp <;> omega) _
    · have e : k = 16 := by omega
      subst e
      have h4 := h2.stepEnd
      have h5 := h3.puts (g := r)
      go_upto_region 8 with fail
      refine wp_region_list ?_
      refine wpList_load_mid rfl 84 (.tmp 5) rfl (w.heap.size + 1 + 1) 0 rfl (us 16 r) _ h4.range Try.underlying84 rfl (by rw [us_length]; exact info_bl) ?_
      refine wpList_store_mid rfl 84 (.tmp 4) (.tmp 25) rfl (w.heap.size + 1) 0 (us 16 r).toArray rfl rfl (by rw [us_size]; exact h3.there) (by rw [us_size]; exact info_bl) (us_one _ _) ?_
      refine wpList_nil ?_
      clear h1 h2 h3 h4 hbw
      have HH := hide h5
      clear h5
      go_wp2
      refine ret_arr 4 (w.heap.size + 1) 16 84 _ r ?r1 ?r2 ?r3 (unhide HH) Try.underlying84 rfl info_bl ?_
      case r1 => rfl
      case r2 => rfl
      case r3 => rfl
      exact ⟨rfl, below_setCells (by omega) _ _ _ (unhide HB)⟩

set_option maxHeartbeats 1000000 in
theorem implShifted3 (f : Nat → Nat) (w : World) :
    Calls Try.prog 90 #[.agg (us 16 f).toArray, .int .i64 3] w fun e w' => e = .returned (.agg (us 16 (fun i => f ((i + 4 * (i % 4) * 3) % 16))).toArray) ∧ Below w.heap.size w w' := by
  have E : ∀ i, (fun i => f ((i + 4 * (i % 4) * 3) % 16)) i = f ((i + 4 * (i % 4) * 3) % 16) := fun i => rfl
  generalize (fun i => f ((i + 4 * (i % 4) * 3) % 16)) = r at E ⊢
  have HE := hide E
  clear E
  go_enter Try.func90, Try.ntmps90
  go_wp2_with fail
  go_loopw [8] (fun iv wr => ∃ k : Nat, k ≤ 16 ∧ iv = .int .i64 k ∧ Ar wr w.heap.size 0 16 f ∧ Ar wr (w.heap.size + 1) 0 16 (fun _ => 0) ∧ Ar wr (w.heap.size + 1 + 1) 0 16 (stp r (fun _ => 0) k) ∧ Below w.heap.size w wr) (fun iv _ => 16 - (intOf iv).toNat)
  case atStart =>
    refine ⟨0, by omega, rfl, ?_, ?_, ?_, ?_⟩
    · exact ((Ar.new w 16 f _).alloc _).alloc _
    · have := z16_new (w.alloc (.cells (us 16 f).toArray 84)) 84
      rw [World.size_alloc] at this
      exact this.alloc _
    · have := z16_new ((w.alloc (.cells (us 16 f).toArray 84)).alloc (.cells #[.int .u8 0, .int .u8 0, .int .u8 0, .int .u8 0, .int .u8 0, .int .u8 0, .int .u8 0, .int .u8 0, .int .u8 0, .int .u8 0, .int .u8 0, .int .u8 0, .int .u8 0, .int .u8 0, .int .u8 0, .int .u8 0] 84)) 84
      rw [World.size_alloc, World.size_alloc] at this
      exact this.stepNone
    · repeat (first | exact Below.refl _ _ | refine Below.alloc ?_ (by simp <;> omega) _)
  case round =>
    obtain ⟨k, hk, rfl, h1, h3, h2, hbw⟩ := hrel
    have H1 := hide h1
    have H2 := hide h2
    have H3 := hide h3
    have HB := hide hbw
    by_cases hlt : k < 16
    · have s0 := h1.c0 ((k + 4 * (k % 4) * 3) % 16) (by omega)
      have s1 := h2.c0 k hlt
      have f1 := h2.f0 k hlt
      have e2 := hide (unhide HE k)
      clear h1 h3 h2 hbw
      generalize f ((k + 4 * (k % 4) * 3) % 16) = x at *
      go_wp2
      refine ⟨⟨k + 1, by omega, by go_num, ?_, ?_, ?_, ?_⟩, by simp [intOf]; omega⟩
      · exact (unhide H1).other (by simp <;> omega)
      · exact (unhide H3).other (by simp)
      · exact (unhide H2).step hlt (unhide e2)
      · exact (unhide HB).setCell (by simp <;> omega) _
    · have e : k = 16 := by omega
      subst e
      have h4 := h2.stepEnd
      have h5 := h3.puts (g := r)
      go_upto_region 8 with fail
      refine wp_region_list ?_
      refine wpList_load_mid rfl 84 (.tmp 5) rfl (w.heap.size + 1 + 1) 0 rfl (us 16 r) _ h4.range Try.underlying84 rfl (by rw [us_length]; exact info_bl) ?_
      refine wpList_store_mid rfl 84 (.tmp 4) (.tmp 25) rfl (w.heap.size + 1) 0 (us 16 r).toArray rfl rfl (by rw [us_size]; exact h3.there) (by rw [us_size]; exact info_bl) (us_one _ _) ?_
      refine wpList_nil ?_
      clear h1 h2 h3 h4 hbw
      have HH := hide h5
      clear h5
      go_wp2
      refine ret_arr 4 (w.heap.size + 1) 16 84 _ r ?r1 ?r2 ?r3 (unhide HH) Try.underlying84 rfl info_bl ?_
      case r1 => rfl
      case r2 => rfl
      case r3 => rfl
      exact ⟨rfl, below_setCells (by omega) _ _ _ (unhide HB)⟩
end Go.Proofs.Ytkpodgeinanceaa
