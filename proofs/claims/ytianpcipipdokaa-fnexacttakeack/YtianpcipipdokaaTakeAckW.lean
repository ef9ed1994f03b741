/-
  The law on TakeAck, walked.
-/
import Derived.Test.YtianpcipipdokaaTakeAckG
import Derived.Test.YtianpcipipdokaaTakeAckI
import Derived.Test.YtianpcipipdokaaOpSpace
import Derived.Test.YtianpcipipdokaaOpRange
namespace Go.Proofs.Ytianpcipipdokaa.fnExactTakeAck
open Go.ChangeShapes Go.WideShapes Go.ChangeAt Go.RowKit Rc
set_option linter.unusedVariables false

theorem ta60 {D : SpaceD} {L : List RangeD} {now de : Int} (h : taB D L now de = true) : (akS L D.S).length ≤ 60 ∧ (lfS L D.S).length ≤ 60 := by
  have h60 := (gs_parts (ta_parts h).1).2.2.2.1
  have h1 := List.length_filter_le (fun x : SentD => hasB L x.f0) D.S
  have h2 := List.length_filter_le (fun x : SentD => !hasB L x.f0) D.S
  exact ⟨Nat.le_trans h1 h60, Nat.le_trans h2 h60⟩
theorem len0 (D : SpaceD) (L : List RangeD) (now de : Int) : (taD D L now de (taB D L now de)).S.length ≤ 1048576 := by
  cases h : taB D L now de with
  | false => exact Nat.zero_le _
  | true =>
    have h1 := List.length_filter_le (fun x : SentD => !loB (taG D L) now (taR D L now de) x) (lfS L D.S)
    have h2 := (ta60 h).2
    show ((lfS L D.S).filter fun x => !loB (taG D L) now (taR D L now de) x).length ≤ 1048576
    omega
theorem len1 (D : SpaceD) (L : List RangeD) (now de : Int) : (taA D L (taB D L now de)).length ≤ 1048576 := by
  cases h : taB D L now de with
  | false => exact Nat.zero_le _
  | true =>
    have h2 := (ta60 h).1
    show ((akS L D.S).map fun x => x.f0).length ≤ 1048576
    rw [List.length_map]
    omega
theorem len2 (D : SpaceD) (L : List RangeD) (now de : Int) : (taL D L now de (taB D L now de)).length ≤ 1048576 := by
  cases h : taB D L now de with
  | false => exact Nat.zero_le _
  | true =>
    have h1 := List.length_filter_le (fun x : SentD => loB (taG D L) now (taR D L now de) x) (lfS L D.S)
    have h2 := (ta60 h).2
    show (((lfS L D.S).filter fun x => loB (taG D L) now (taR D L now de) x).map fun x => x.f0).length ≤ 1048576
    rw [List.length_map]
    omega
theorem walk (D : SpaceD) (a : Option Addr) (c : Nat) (o : okSpace D) (a' : Option Addr) (c' : Nat) (L : List RangeD) (m' : L.length ≤ maxLen) (k' : L.length ≤ c') (o' : rgO L) (now : Int) (o2 : (Lit.int .i64 now).wf = true) (de : Int) (o3 : (Lit.int .i64 de).wf = true) (w : World) (h : RdSpace w a D) (h' : Rd rangeK w a' L) :
    Calls Try.prog 3 #[spaceV D a c, .slice a' L.length c', .int .i64 now, .int .i64 de] w fun e w' => e = .returned (.bool true) ∧ Below w.heap.size w w' :=
  takeAck_given D L now de (taD D L now de (taB D L now de)) (taA D L (taB D L now de)) (taL D L now de (taB D L now de)) (taB D L now de) w a c a' c' o.2.1 m' h h' (len0 D L now de) (len1 D L now de) (len2 D L now de)
    (fun hm hm' W a c a' c' h h' => specTA D L now de hm hm' o' W a c a' c' h h') (fun hm hm' W a c a' c' h h' hc => implTA D L now de hm hm' o' W a c hc a' c' h h')
end Go.Proofs.Ytianpcipipdokaa.fnExactTakeAck
