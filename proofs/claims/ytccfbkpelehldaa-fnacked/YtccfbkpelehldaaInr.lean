/-
  Contract: whether a number is in ranges, by the program: inRanges, slices.ContainsFunc and slices.IndexFunc over it.
-/
import Derived.Test.YtccfbkpelehldaaIrt
import Derived.Test.YtccfbkpelehldaaRga
namespace Go.Proofs.Ytccfbkpelehldaa.Rc
open Go.ChangeShapes Go.WideShapes Go.ChangeAt Go.RowKit Go.Deep
set_option linter.unusedVariables false
set_option maxRecDepth 100000

theorem inr1 (x : RangeD) (n : Int) (p : Nat) (w : World) (h : w.cell? ⟨p, 0, none⟩ = some (.int .i64 n)) (hl : p < w.heap.size) :
    Calls Try.prog 43 #[rangeV x, .pointer (some ⟨p, 0, none⟩)] w fun e w' => e = .returned (.bool (decide (x.f0 ≤ n) && decide (n ≤ x.f1))) ∧ Below w.heap.size w w' := by
  have HB := hide (btw x.f0 n x.f1)
  have B0 := hide ((Below.refl w.heap.size w).alloc (Nat.le_refl _) (.cells (rangeC x).toArray 53))
  obtain ⟨x0, x1⟩ := x
  go_enter Try.func43, Try.ntmps43
  go_wp2_with fail
  refine (unhide HB _).mono ?_
  rintro e w1 ⟨rfl, h9⟩
  rw [h9]
  clear h9 w1
  go_wp2
  go_ret
  exact ⟨rfl, unhide B0⟩
/-- the first range that has it, or -1 -/
def ixI (L : List RangeD) (n : Int) (i : Int) : Prop := (0 ≤ i ∧ hasB L n = true) ∨ (i = -1 ∧ hasB L n = false)
set_option maxHeartbeats 1000000 in
theorem indexR (a : Option Addr) (cap : Nat) (L : List RangeD) (n : Int) (p : Nat) (w : World) (hn : L.length ≤ 1048576) (h : Rd rangeK w a L) (hp : Bx w p [.int .i64 n]) :
    Calls Try.prog 53 #[.slice a L.length cap, .func (.func 43) #[] #[.pointer (some ⟨p, 0, none⟩)]] w fun e w' => ∃ i, e = .returned (.int .i64 i) ∧ ixI L n i ∧ Below w.heap.size w w' := by
  have HR := hide h
  have HP := hide hp
  clear h hp
  go_enter Try.func53, Try.ntmps53
  go_wp2
  go_loopw [8] (fun i wr => ∃ k : Nat, k ≤ L.length ∧ i = .int .i64 k ∧ Hid (hasB L n = hasB (L.drop k) n) ∧ Below w.heap.size w wr) (fun i _ => L.length - (intOf i).toNat)
  case atStart => exact ⟨0, Nat.zero_le _, rfl, rfl, Below.refl _ _⟩
  case round =>
    obtain ⟨k, hk, rfl, hH, hB⟩ := hrel
    by_cases hlt : k < L.length
    · rcases (unhide HR).below hB with h0 | ⟨b, o, rfl, _, hel⟩
      · rw [h0] at hlt; exact absurd hlt (Nat.not_lt_zero _)
      have c0 := range_r0 hel hlt
      have c1 := range_r1 hel hlt
      have hD := hide (hasB_drop L n k hlt)
      have hp := (unhide HP).below hB
      have HI := hide (inr1 (gt rangeK L k) n p wr (hp.cv 0) hp.lt)
      have HB := hide hB
      have hnk : (k : Int) < (L.length : Int) := by omega
      have hk0 : (0 : Int) ≤ (k : Int) := by omega
      clear hel hB hp
      generalize (decide ((gt rangeK L k).f0 ≤ n) && decide (n ≤ (gt rangeK L k).f1)) = r at *
      generalize gt rangeK L k = x at *
      obtain ⟨x0, x1⟩ := x
      cases r with
      | true =>
        have HE : Hid (hasB L n = true) := by show _ = _; rw [unhide hH, unhide hD]; rfl
        go_wp2_with fail
        refine (unhide HI).mono ?_
        rintro e w9 ⟨rfl, b9⟩
        have HB9 := hide ((unhide HB).trans (b9.mono (unhide HB).size))
        clear b9
        go_wp2
        go_ret
        exact ⟨_, rfl, Or.inl ⟨hk0, unhide HE⟩, unhide HB9⟩
      | false =>
        have HE : Hid (hasB L n = hasB (L.drop (k + 1)) n) := by show _ = _; rw [unhide hH, unhide hD]; rfl
        go_wp2_with fail
        refine (unhide HI).mono ?_
        rintro e w9 ⟨rfl, b9⟩
        have HB9 := hide ((unhide HB).trans (b9.mono (unhide HB).size))
        clear b9
        go_wp2
        exact ⟨⟨k + 1, by omega, by go_num, HE, unhide HB9⟩, by simp [intOf]; omega⟩
    · obtain rfl : k = L.length := by omega
      have HE : Hid (hasB L n = false) := by show _ = _; rw [unhide hH, List.drop_length]; rfl
      have HB := hide hB
      clear hB hH
      go_wp2
      go_ret
      exact ⟨_, rfl, Or.inr ⟨rfl, unhide HE⟩, unhide HB⟩
set_option maxHeartbeats 1000000 in
theorem containsR (a : Option Addr) (cap : Nat) (L : List RangeD) (n : Int) (p : Nat) (w : World) (hn : L.length ≤ 1048576) (h : Rd rangeK w a L) (hp : Bx w p [.int .i64 n]) :
    Calls Try.prog 42 #[.slice a L.length cap, .func (.func 43) #[] #[.pointer (some ⟨p, 0, none⟩)]] w fun e w' => e = .returned (.bool (hasB L n)) ∧ Below w.heap.size w w' := by
  have HI := hide (indexR a cap L n p w hn h hp)
  clear h hp
  go_enter Try.func42, Try.ntmps42
  go_wp2_with fail
  refine (unhide HI).mono ?_
  rintro e w1 ⟨i, rfl, hi, b1⟩
  have HB := hide b1
  rcases hi with ⟨h0, h1⟩ | ⟨rfl, h1⟩
  · have H1 := hide h1
    clear h1 b1
    go_wp2
    go_ret
    exact ⟨by rw [unhide H1]; simp_all, unhide HB⟩
  · have H1 := hide h1
    clear h1 b1
    go_wp2
    go_ret
    exact ⟨by rw [unhide H1]; simp_all, unhide HB⟩
set_option maxHeartbeats 1000000 in
theorem implIn (a : Option Addr) (cap : Nat) (L : List RangeD) (n : Int) (w : World) (hn : L.length ≤ 1048576) (h : Rd rangeK w a L) :
    Calls Try.prog 19 #[.slice a L.length cap, .int .i64 n] w fun e w' => e = .returned (.bool (hasB L n)) ∧ Below w.heap.size w w' := by
  have hmf : ∀ (fn : Fn) (first cap : Array Value) (w : World), (Instr.makeFunc fn first cap).run Try.prog w = .ok (.func fn first cap) w := fun _ _ _ _ => rfl
  obtain ⟨V, hV⟩ : ∃ V, V = w.alloc (.cells #[.int .i64 n] 3) := ⟨_, rfl⟩
  have hA : Below w.heap.size w V := by rw [hV]; exact (Below.refl _ _).alloc (Nat.le_refl _) _
  have HX := hide (show Bx V w.heap.size [.int .i64 n] by rw [hV]; exact Bx.new w _ _)
  have HC := hide (containsR a cap L n w.heap.size V hn (h.below hA) (unhide HX))
  have HA := hide hA
  have HV := hide hV
  clear hA hV HX h
  go_enter Try.func19, Try.ntmps19
  go_upto_region 1 with fail
  rw [← unhide HV]
  clear HV
  go_wp2_with fail
  refine (unhide HC).mono ?_
  rintro e w1 ⟨rfl, b1⟩
  have HB := hide ((unhide HA).trans (b1.mono (unhide HA).size))
  clear b1
  go_wp2
  go_ret
  exact ⟨rfl, unhide HB⟩
end Go.Proofs.Ytccfbkpelehldaa.Rc
