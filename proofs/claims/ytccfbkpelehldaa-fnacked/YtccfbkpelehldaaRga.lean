/-
  Contracts: ranges as the model looks at them: whether they are good, whether a number is in one.
-/
import Derived.Test.YtccfbkpelehldaaRng
import Derived.Test.YtccfbkpelehldaaInb
import Derived.Test.YtccfbkpelehldaaOpRange
namespace Go.Proofs.Ytccfbkpelehldaa.Rc
open Go.ChangeShapes Go.WideShapes Go.ChangeAt Go.RowKit Go.Deep
set_option linter.unusedVariables false
set_option maxRecDepth 100000

/-- where the k-th range begins, and ends -/
def fF (L : List RangeD) (k : Nat) : Int := (gt rangeK L k).f0
def fT (L : List RangeD) (k : Nat) : Int := (gt rangeK L k).f1
/-- whether ranges are good -/
def grB (L : List RangeD) : Bool := decide (L.length ≤ 20) && allR (fF L) (fT L) L.length
/-- whether a number is in one -/
def hasB (L : List RangeD) (n : Int) : Bool := L.any fun r => decide (r.f0 ≤ n) && decide (n ≤ r.f1)
/-- all of them fit -/
def rgO (L : List RangeD) : Prop := ∀ i, i < L.length → okRange (gt rangeK L i)
theorem rd_rr {w : World} {b o : Nat} {L : List RangeD} (hb : b < w.heap.size) (h : ∀ q, q < L.length * rangeK.m → w.cell? ⟨b, o + q, none⟩ = some (cl rangeK L q)) (ho : rgO L) : Rr w b o L.length (fF L) (fT L) :=
  ⟨Or.inr hb, fun i hi => range_r0 h hi, fun i hi => range_r1 h hi, fun i hi => (ho i hi).1, fun i hi => (ho i hi).2⟩
set_option maxHeartbeats 1000000 in
theorem specGR (a : Option Addr) (cap : Nat) (L : List RangeD) (w : World) (hn : L.length ≤ 1048576) (ho : rgO L) (h : Rd rangeK w a L) :
    Calls Try.prog 25 #[.slice a L.length cap] w fun e w' => e = .returned (.bool (grB L)) ∧ Below w.heap.size w w' := by
  rcases h with rfl | ⟨b, o, rfl, hb, h⟩
  · go_enter Try.func25, Try.ntmps25
    go_wp2
    go_ret
    exact ⟨rfl, Below.refl _ _⟩
  · have H := hide (l1Ranges_any b o L.length cap (fF L) (fT L) w hn (rd_rr hb h ho))
    clear h
    by_cases h0 : L.length = 0
    · have HE : Hid (grB L = true) := by
        show _ = _
        unfold grB
        rw [h0]
        rfl
      rw [unhide HE]
      have h1 : ((L.length : Int) == 0) = true := beq_iff_eq.2 (by omega)
      clear HE h0 H
      generalize L.length = n at *
      go_enter Try.func25, Try.ntmps25
      go_wp2
      go_ret
      exact ⟨rfl, Below.refl _ _⟩
    · have h1 : ((L.length : Int) == 0) = false := beq_eq_false_iff_ne.2 (by omega)
      by_cases h2 : L.length ≤ 20
      · have HE : Hid (grB L = (allR (fF L) (fT L) L.length && (decide (1 ≤ L.length) && decide (L.length ≤ 20)))) := by
          show _ = _
          unfold grB
          rw [decide_eq_true h2, decide_eq_true (show 1 ≤ L.length by omega), Bool.true_and, Bool.true_and, Bool.and_true]
        rw [unhide HE]
        have h3 : (L.length : Int) ≤ 20 := by omega
        generalize (allR (fF L) (fT L) L.length && (decide (1 ≤ L.length) && decide (L.length ≤ 20))) = r at *
        clear HE h0 ho
        generalize L.length = n at *
        go_enter Try.func25, Try.ntmps25
        go_wp2_with fail
        refine (unhide H).mono ?_
        rintro e w1 ⟨rfl, b1⟩
        have B1 := hide b1
        clear b1
        go_wp2
        go_ret
        exact ⟨rfl, unhide B1⟩
      · have HE : Hid (grB L = false) := by
          show _ = _
          unfold grB
          rw [decide_eq_false h2]
          rfl
        rw [unhide HE]
        have h3 : ¬ (L.length : Int) ≤ 20 := by omega
        clear HE h0 ho H
        generalize L.length = n at *
        go_enter Try.func25, Try.ntmps25
        go_wp2
        go_ret
        exact ⟨rfl, Below.refl _ _⟩
theorem hasB_drop (L : List RangeD) (n : Int) (k : Nat) (h : k < L.length) : hasB (L.drop k) n = ((decide ((gt rangeK L k).f0 ≤ n) && decide (n ≤ (gt rangeK L k).f1)) || hasB (L.drop (k + 1)) n) := by
  rw [drop_gt rangeK L k h]
  rfl
set_option maxHeartbeats 1000000 in
theorem specHs (a : Option Addr) (cap : Nat) (L : List RangeD) (n : Int) (w : World) (hn : L.length ≤ 1048576) (h : Rd rangeK w a L) :
    Calls Try.prog 28 #[.slice a L.length cap, .int .i64 n] w fun e w' => e = .returned (.bool (hasB L n)) ∧ Below w.heap.size w w' := by
  have HR := hide h
  clear h
  go_enter Try.func28, Try.ntmps28
  go_wp2
  go_loopw [9] (fun i wr => ∃ k : Nat, k ≤ L.length ∧ i = .int .i64 k ∧ Hid (hasB L n = hasB (L.drop k) n) ∧ Below w.heap.size w wr) (fun i _ => L.length - (intOf i).toNat)
  case atStart => exact ⟨0, Nat.zero_le _, rfl, rfl, Below.refl _ _⟩
  case round =>
    obtain ⟨k, hk, rfl, hH, hB⟩ := hrel
    by_cases hlt : k < L.length
    · rcases (unhide HR).below hB with h0 | ⟨b, o, rfl, _, hel⟩
      · rw [h0] at hlt; exact absurd hlt (Nat.not_lt_zero _)
      have c0 := range_r0 hel hlt
      have c1 := range_r1 hel hlt
      have hD := hide (hasB_drop L n k hlt)
      have HI := hide (inB n (gt rangeK L k).f0 (gt rangeK L k).f1)
      have HB := hide (hB.alloc hB.size (.cells #[.int .i64 (gt rangeK L k).f0, .int .i64 (gt rangeK L k).f1] 53))
      clear hel hB
      generalize (decide ((gt rangeK L k).f0 ≤ n) && decide (n ≤ (gt rangeK L k).f1)) = r at *
      generalize (gt rangeK L k).f0 = x0 at *
      generalize (gt rangeK L k).f1 = x1 at *
      cases r with
      | true =>
        have HE : Hid (hasB L n = true) := by show _ = _; rw [unhide hH, unhide hD]; rfl
        go_wp2_with fail
        refine (unhide HI _).mono ?_
        rintro e w9 ⟨rfl, h9⟩
        rw [h9]
        clear h9 w9
        go_wp2
        go_ret
        exact ⟨by rw [unhide HE]; rfl, unhide HB⟩
      | false =>
        have HE : Hid (hasB L n = hasB (L.drop (k + 1)) n) := by show _ = _; rw [unhide hH, unhide hD]; rfl
        go_wp2_with fail
        refine (unhide HI _).mono ?_
        rintro e w9 ⟨rfl, h9⟩
        rw [h9]
        clear h9 w9
        go_wp2
        exact ⟨⟨k + 1, by omega, by go_num, HE, unhide HB⟩, by simp [intOf]; omega⟩
    · have HE : Hid (hasB L n = false) := by
        show _ = _
        rw [unhide hH, List.drop_eq_nil_of_le (by omega)]
        rfl
      go_wp2
      go_ret
      exact ⟨by rw [unhide HE]; rfl, hB⟩
end Go.Proofs.Ytccfbkpelehldaa.Rc
