/-
  Contracts: GoodTable of both sides.
-/
import Derived.Test.YtbabipaipbjlbaaTcp
import Derived.Test.YtbabipaipbjlbaaBkd
import Derived.Deep.DeepCutAuto
import Derived.Laws.Cover1
namespace Go.Proofs.Ytbabipaipbjlbaa
open Go.ChangeShapes Go.WideShapes Go.ChangeAt Go.RowKit
set_option linter.unusedVariables false
set_option maxRecDepth 100000

/-- a text ahead of another -/
def ltT (x y : ByteArray) : Bool := Go.Op.bytesLess x.toList y.toList
/-- a backend among the first k allocs -/
def hasB (L : List AlD) (b : ByteArray) : Nat → Bool
  | 0 => false
  | k + 1 => hasB L b k || ((aA L k).b.toList == b.toList)
/-- its id -/
def idB (L : List AlD) (b : ByteArray) : Nat → ByteArray
  | 0 => ⟨#[]⟩
  | k + 1 => if hasB L b k = true then idB L b k else if ((aA L k).b.toList == b.toList) = true then (aA L k).i else ⟨#[]⟩
theorem idB_no (L : List AlD) (b : ByteArray) : ∀ k, hasB L b k = false → idB L b k = ⟨#[]⟩
  | 0, _ => rfl
  | k + 1, h => by
    rw [hasB, Bool.or_eq_false_iff] at h
    rw [idB, if_neg (by rw [h.1]; exact Bool.false_ne_true), if_neg (by rw [h.2]; exact Bool.false_ne_true)]
theorem hasB_at (L : List AlD) (b : ByteArray) : ∀ {k m : Nat}, k < m → hasB L b k = false → ((aA L k).b.toList == b.toList) = true → hasB L b m = true ∧ idB L b m = (aA L k).i
  | k, 0, h, _, _ => absurd h (by omega)
  | k, m + 1, h, h0, h1 => by
    by_cases e : k = m
    · subst e
      rw [hasB, idB, if_neg (by rw [h0]; exact Bool.false_ne_true), if_pos h1, h1, Bool.or_true]
      exact ⟨rfl, rfl⟩
    · have ih := hasB_at L b (show k < m by omega) h0 h1
      rw [hasB, idB, if_pos ih.1, ih.1, Bool.true_or]
      exact ⟨rfl, ih.2⟩
/-- alloc k is as it must be -/
def okA (L : List AlD) (sv : Int) (k : Nat) : Bool := decide (((aA L k).i.size : Int) = sv) && bkB (aA L k).b && (decide (k = 0) || ltT (aA L (k - 1)).i (aA L k).i) && !hasB L (aA L k).b k
def okS (L : List AlD) (sv : Int) : Nat → Bool
  | 0 => true
  | k + 1 => okS L sv k && okA L sv k
theorem okS_no (L : List AlD) (sv : Int) : ∀ {k m : Nat}, k < m → okA L sv k = false → okS L sv m = false
  | k, 0, h, _ => absurd h (by omega)
  | k, m + 1, h, e => by
    unfold okS
    by_cases hk : k = m
    · subst hk; rw [e, Bool.and_false]
    · rw [okS_no L sv (show k < m by omega) e, Bool.false_and]
/-- good servers -/
def gsB (L : List AlD) (sv : Int) : Bool := decide (L.length ≤ 12) && okS L sv L.length
/-- a good entry -/
def geB (D : EnD) : Bool := gcB D.sl D.sv D.nc D.k.size && decide (D.sl < 3) && gsB D.S D.sv && decide (0 ≤ D.nx) && decide (D.nx ≤ 1000000000)
def okT (L : List EnD) : Nat → Bool
  | 0 => true
  | k + 1 => okT L k && (geB (eA L k) && (decide (k = 0) || decide ((eA L (k - 1)).sl < (eA L k).sl)))
theorem okT_no (L : List EnD) : ∀ {k m : Nat}, k < m → (geB (eA L k) && (decide (k = 0) || decide ((eA L (k - 1)).sl < (eA L k).sl))) = false → okT L m = false
  | k, 0, h, _ => absurd h (by omega)
  | k, m + 1, h, e => by
    unfold okT
    by_cases hk : k = m
    · subst hk; rw [e, Bool.and_false]
    · rw [okT_no L (show k < m by omega) e, Bool.false_and]
/-- a good table -/
def gtB (L : List EnD) : Bool := decide (L.length ≤ 3) && okT L L.length

/-! ### the program's -/
set_option maxHeartbeats 1000000 in
theorem gdIn (sl sv nc : Int) (k : ByteArray) (t : Bool) (w : World) :
    Calls Try.prog 104 #[kv sl sv nc k t] w fun e w' => e = .returned (.bool (gcB sl sv nc k.size && decide (sl < 3))) ∧ Below w.heap.size w w' := by
  have HC := hide (implGC sl sv nc k t)
  generalize gcB sl sv nc k.size = r0 at *
  cases r0
  · go_enter Try.func104, Try.ntmps104
    go_wp2_with fail
    refine (unhide HC _).mono ?_
    rintro e w1 ⟨rfl, b1⟩
    go_wp2
    go_ret
    exact ⟨rfl, ((Below.refl _ _).alloc (Nat.le_refl _) _).trans (b1.mono (by simp))⟩
  · go_enter Try.func104, Try.ntmps104
    go_wp2_with fail
    refine (unhide HC _).mono ?_
    rintro e w1 ⟨rfl, b1⟩
    have X1 := (Bx.new w [.int .i64 sl, .int .i64 sv, .int .i64 nc, .string k, .bool t] 123).below b1
    have x1 := X1.cv
    clear X1
    go_wp2
    go_ret
    exact ⟨rfl, ((Below.refl _ _).alloc (Nat.le_refl _) _).trans (b1.mono (by simp))⟩
set_option maxHeartbeats 1000000 in
theorem srvOf (a : Option Addr) (n cap : Nat) (L : List AlD) (b : ByteArray) (w : World) (hn : n ≤ L.length) (hN : n ≤ 1048576) (h : Aa w a L) :
    Calls Try.prog 116 #[.slice a n cap, .string b] w fun e w' => e = .returned (.tuple #[.string (idB L b n), .bool (hasB L b n)]) ∧ Below w.heap.size w w' := by
  have HR := hide h
  clear h
  go_enter Try.func116, Try.ntmps116
  go_wp2
  go_loopw [10] (fun i wr => ∃ k : Nat, k ≤ n ∧ i = .int .i64 k ∧ hasB L b k = false ∧ Below w.heap.size w wr) (fun i _ => n - (intOf i).toNat)
  case atStart => exact ⟨0, Nat.zero_le _, rfl, rfl, Below.refl _ _⟩
  case round =>
    obtain ⟨k, hk, rfl, hA, hbel⟩ := hrel
    by_cases hlt : k < n
    · rcases (unhide HR).below hbel with h0 | ⟨bb, o, rfl, hel⟩
      · rw [h0] at hn; simp at hn; omega
      have c0 := hel.ci k (by omega)
      have c1 := hel.cb k (by omega)
      clear hel
      have hnk : (k : Int) < (n : Int) := by omega
      have hB := hide hbel
      clear hbel
      by_cases e : ((aA L k).b.toList == b.toList) = true
      · have hE := hide (hasB_at L b hlt hA e)
        have e' := eq_of_beq e
        clear hA e
        go_wp2
        go_ret2
        refine ⟨by rw [(unhide hE).1, (unhide hE).2]; rfl, ?_⟩
        exact (unhide hB).alloc (unhide hB).size _
      · have hE : Hid (hasB L b (k + 1) = false) := by show _ = _; rw [hasB, hA, Bool.eq_false_iff.2 e]; rfl
        have e' := Bool.eq_false_iff.2 e
        clear hA e
        go_wp2
        exact ⟨⟨k + 1, by omega, by go_num, unhide hE, (unhide hB).alloc (unhide hB).size _⟩, by simp [intOf]; omega⟩
    · obtain rfl : k = n := by omega
      have hE := hide (And.intro hA (idB_no L b k hA))
      have hB := hide hbel
      clear hA hbel
      go_wp2
      go_ret2
      exact ⟨by rw [(unhide hE).1, (unhide hE).2]; rfl, unhide hB⟩
theorem okA_0 (L : List AlD) (sv : Int) (k : Nat) (h : ¬ ((aA L k).i.size : Int) = sv) : okA L sv k = false := by unfold okA; rw [decide_eq_false h]; rfl
theorem okA_1 (L : List AlD) (sv : Int) (k : Nat) (h : bkB (aA L k).b = false) : okA L sv k = false := by unfold okA; rw [h, Bool.and_false]; rfl
theorem okA_2 (L : List AlD) (sv : Int) (k : Nat) (h : 0 < k) (h1 : ltT (aA L (k - 1)).i (aA L k).i = false) : okA L sv k = false := by unfold okA; rw [h1, decide_eq_false (show ¬ k = 0 by omega), Bool.or_false, Bool.and_false]; rfl
theorem okA_3 (L : List AlD) (sv : Int) (k : Nat) (h : hasB L (aA L k).b k = true) : okA L sv k = false := by unfold okA; rw [h]; exact Bool.and_false _
theorem okA_y (L : List AlD) (sv : Int) (k : Nat) (h0 : ((aA L k).i.size : Int) = sv) (h1 : bkB (aA L k).b = true) (h2 : k = 0 ∨ ltT (aA L (k - 1)).i (aA L k).i = true) (h3 : hasB L (aA L k).b k = false) : okA L sv k = true := by
  unfold okA
  rw [decide_eq_true h0, h1, h3]
  rcases h2 with h2 | h2
  · rw [decide_eq_true h2]; rfl
  · rw [h2, Bool.or_true]; rfl
set_option maxHeartbeats 4000000 in
theorem gdSrv (a : Option Addr) (cap : Nat) (L : List AlD) (sv : Int) (w : World) (hN : L.length ≤ 1048576) (hcp : L.length ≤ cap) (hi : ∀ i, i < L.length → (aA L i).b.size ≤ maxLen) (h : Aa w a L) :
    Calls Try.prog 105 #[.slice a L.length cap, .int .i64 sv] w fun e w' => e = .returned (.bool (gsB L sv)) ∧ Below w.heap.size w w' := by
  have HR := hide h
  have HI := hide hi
  clear h hi
  unfold gsB
  by_cases hl : L.length ≤ 12
  case neg =>
    rw [decide_eq_false hl, Bool.false_and]
    go_enter Try.func105, Try.ntmps105
    go_wp2
    go_ret
    exact ⟨rfl, Below.refl _ _⟩
  rw [decide_eq_true hl, Bool.true_and]
  go_enter Try.func105, Try.ntmps105
  go_wp2
  go_loopw [14] (fun i wr => ∃ k : Nat, k ≤ L.length ∧ i = .int .i64 k ∧ okS L sv k = true ∧ Below w.heap.size w wr) (fun i _ => L.length - (intOf i).toNat)
  case atStart => exact ⟨0, Nat.zero_le _, rfl, rfl, Below.refl _ _⟩
  case round =>
    obtain ⟨k, hk, rfl, hA, hbel⟩ := hrel
    by_cases hlt : k < L.length
    · rcases (unhide HR).below hbel with h0 | ⟨bb, o, rfl, hel⟩
      · rw [h0] at hlt; exact absurd hlt (Nat.not_lt_zero _)
      have c0 := hel.ci k hlt
      have c1 := hel.cb k hlt
      have hB := hide hbel
      have hnk : (k : Int) < (L.length : Int) := by omega
      have HB := hide (fun W => implGB (aA L k).b W (unhide HI k hlt))
      have hlb := hel.lt
      clear hbel
      by_cases e0 : ((aA L k).i.size : Int) = sv
      case neg =>
        have hE := hide (okS_no L sv hlt (okA_0 L sv k e0))
        have e1 : (((aA L k).i.size : Int) != sv) = true := bne_iff_ne.2 e0
        clear hA hel e0 HB
        generalize aA L k = D at *
        go_wp2_with fail
        go_quiet (fail)
        go_wp2
        go_ret
        exact ⟨by rw [unhide hE]; rfl, below_drewN ((unhide hB).alloc (unhide hB).size _) _⟩
      have e1 : (((aA L k).i.size : Int) != sv) = false := by rw [e0]; exact bne_self_eq_false' _
      by_cases f0 : bkB (aA L k).b = true
      case neg =>
        have f1 := Bool.eq_false_iff.2 f0
        have hE := hide (okS_no L sv hlt (okA_1 L sv k f1))
        rw [f1] at HB
        clear hA hel e0 f0 f1
        generalize aA L k = D at *
        go_wp2_with fail
        go_quiet (with_reducible exact Calls.quiet_of_same (unhide HB _))
        go_wp2
        go_ret
        exact ⟨by rw [unhide hE]; rfl, below_drewN ((unhide hB).alloc (unhide hB).size _) _⟩
      rw [f0] at HB
      have HS := hide (fun W (b : Below wr.heap.size wr W) => srvOf (some ⟨bb, o, none⟩) k cap L (aA L k).b W hk (by omega) (Or.inr ⟨bb, o, rfl, hel.below b⟩))
      by_cases g0 : 0 < k
      · obtain ⟨j, hj⟩ : ∃ j : Nat, k = j + 1 := ⟨k - 1, by omega⟩
        have d0 := hel.ci j (by omega)
        have hw : IntKind.i64.wrap ((k : Int) - 1) = (j : Int) := by rw [wraps_i64 _ (by omega) (by omega)]; omega
        have hj0 : (0 : Int) ≤ (j : Int) := by omega
        have hj1 : (j : Int) < (L.length : Int) := by omega
        have hk0 : (0 : Int) < (k : Int) := by omega
        by_cases t0 : ltT (aA L (k - 1)).i (aA L k).i = true
        case neg =>
          have t1 := Bool.eq_false_iff.2 t0
          have hE := hide (okS_no L sv hlt (okA_2 L sv k g0 t1))
          rw [show k - 1 = j by omega] at t1
          unfold ltT at t1
          clear hA hel e0 f0 t0 hj HS
          generalize aA L k = D at *
          generalize aA L j = D' at *
          go_wp2_with fail
          go_quiet (with_reducible exact Calls.quiet_of_same (unhide HB _))
          go_wp2
          go_ret
          exact ⟨by rw [unhide hE]; rfl, below_drewN ((unhide hB).alloc (unhide hB).size _) _⟩
        have t1 : Hid (ltT (aA L (k - 1)).i (aA L k).i = true) := t0
        rw [show k - 1 = j by omega] at t0
        unfold ltT at t0
        by_cases s0 : hasB L (aA L k).b k = true
        · have hE := hide (okS_no L sv hlt (okA_3 L sv k s0))
          have HS9 := unhide HS
          rw [s0] at HS9
          generalize idB L (aA L k).b k = id9 at HS9
          clear hA hel e0 f0 HS s0 hj t1
          have HS2 := hide HS9
          clear HS9
          generalize aA L k = D at *
          generalize aA L j = D' at *
          go_wp2_with fail
          go_quiet (with_reducible exact Calls.quiet_of_same (unhide HB _))
          have X1 : Bx ((wr.alloc (.cells #[.string D.i, .string D.b] 129)).drewN nq) wr.heap.size [.string D.i, .string D.b] := (Bx.new wr _ _).below (below_drewN (Below.refl _ _) _)
          have B1 : Below wr.heap.size wr ((wr.alloc (.cells #[.string D.i, .string D.b] 129)).drewN nq) := below_drewN ((Below.refl _ _).alloc (Nat.le_refl _) _) _
          have H1 := hide B1
          have x1 := X1.cv
          clear X1 B1 HB
          generalize (wr.alloc (.cells #[.string D.i, .string D.b] 129)).drewN nq = W1 at *
          go_wp2_with fail
          go_region_with (go_at_call 116; refine (unhide HS2 _ ((unhide H1).drew)).mono ?_; rintro e w2 ⟨rfl, b2⟩)
          all_goals
            have H2 := hide ((unhide hB).trans (((unhide H1).drew.trans (b2.mono (unhide H1).size)).mono (unhide hB).size))
            clear b2
            go_wp2
            go_ret
            exact ⟨by rw [unhide hE]; rfl, unhide H2⟩
        · have s1 := Bool.eq_false_iff.2 s0
          have hE : Hid (okS L sv (k + 1) = true) := by show _ = _; rw [okS, hA, okA_y L sv k e0 f0 (Or.inr (unhide t1)) s1]; rfl
          have HS9 := unhide HS
          rw [s1] at HS9
          generalize idB L (aA L k).b k = id9 at HS9
          clear hA hel e0 f0 HS s0 s1 hj t1
          have HS2 := hide HS9
          clear HS9
          generalize aA L k = D at *
          generalize aA L j = D' at *
          go_wp2_with fail
          go_quiet (with_reducible exact Calls.quiet_of_same (unhide HB _))
          have X1 : Bx ((wr.alloc (.cells #[.string D.i, .string D.b] 129)).drewN nq) wr.heap.size [.string D.i, .string D.b] := (Bx.new wr _ _).below (below_drewN (Below.refl _ _) _)
          have B1 : Below wr.heap.size wr ((wr.alloc (.cells #[.string D.i, .string D.b] 129)).drewN nq) := below_drewN ((Below.refl _ _).alloc (Nat.le_refl _) _) _
          have H1 := hide B1
          have x1 := X1.cv
          clear X1 B1 HB
          generalize (wr.alloc (.cells #[.string D.i, .string D.b] 129)).drewN nq = W1 at *
          go_wp2_with fail
          go_region_with (go_at_call 116; refine (unhide HS2 _ ((unhide H1).drew)).mono ?_; rintro e w2 ⟨rfl, b2⟩)
          all_goals
            have H2 := hide ((unhide hB).trans (((unhide H1).drew.trans (b2.mono (unhide H1).size)).mono (unhide hB).size))
            clear b2
            go_wp2
            exact ⟨⟨k + 1, by omega, by go_num, unhide hE, unhide H2⟩, by simp [intOf]; omega⟩
      · have k9 : decide (0 < k) = false := decide_eq_false (by omega)
        by_cases s0 : hasB L (aA L k).b k = true
        · have hE := hide (okS_no L sv hlt (okA_3 L sv k s0))
          have HS9 := unhide HS
          rw [s0] at HS9
          generalize idB L (aA L k).b k = id9 at HS9
          clear hA hel e0 f0 HS s0 g0
          have HS2 := hide HS9
          clear HS9
          generalize aA L k = D at *
          go_wp2_with fail
          go_quiet (with_reducible exact Calls.quiet_of_same (unhide HB _))
          have X1 : Bx ((wr.alloc (.cells #[.string D.i, .string D.b] 129)).drewN nq) wr.heap.size [.string D.i, .string D.b] := (Bx.new wr _ _).below (below_drewN (Below.refl _ _) _)
          have B1 : Below wr.heap.size wr ((wr.alloc (.cells #[.string D.i, .string D.b] 129)).drewN nq) := below_drewN ((Below.refl _ _).alloc (Nat.le_refl _) _) _
          have H1 := hide B1
          have x1 := X1.cv
          clear X1 B1 HB
          generalize (wr.alloc (.cells #[.string D.i, .string D.b] 129)).drewN nq = W1 at *
          go_wp2_with fail
          go_region_with (go_at_call 116; refine (unhide HS2 _ ((unhide H1).drew)).mono ?_; rintro e w2 ⟨rfl, b2⟩)
          all_goals
            have H2 := hide ((unhide hB).trans (((unhide H1).drew.trans (b2.mono (unhide H1).size)).mono (unhide hB).size))
            clear b2
            go_wp2
            go_ret
            exact ⟨by rw [unhide hE]; rfl, unhide H2⟩
        · have s1 := Bool.eq_false_iff.2 s0
          have hE : Hid (okS L sv (k + 1) = true) := by show _ = _; rw [okS, hA, okA_y L sv k e0 f0 (Or.inl (by omega)) s1]; rfl
          have HS9 := unhide HS
          rw [s1] at HS9
          generalize idB L (aA L k).b k = id9 at HS9
          clear hA hel e0 f0 HS s0 s1 g0
          have HS2 := hide HS9
          clear HS9
          generalize aA L k = D at *
          go_wp2_with fail
          go_quiet (with_reducible exact Calls.quiet_of_same (unhide HB _))
          have X1 : Bx ((wr.alloc (.cells #[.string D.i, .string D.b] 129)).drewN nq) wr.heap.size [.string D.i, .string D.b] := (Bx.new wr _ _).below (below_drewN (Below.refl _ _) _)
          have B1 : Below wr.heap.size wr ((wr.alloc (.cells #[.string D.i, .string D.b] 129)).drewN nq) := below_drewN ((Below.refl _ _).alloc (Nat.le_refl _) _) _
          have H1 := hide B1
          have x1 := X1.cv
          clear X1 B1 HB
          generalize (wr.alloc (.cells #[.string D.i, .string D.b] 129)).drewN nq = W1 at *
          go_wp2_with fail
          go_region_with (go_at_call 116; refine (unhide HS2 _ ((unhide H1).drew)).mono ?_; rintro e w2 ⟨rfl, b2⟩)
          all_goals
            have H2 := hide ((unhide hB).trans (((unhide H1).drew.trans (b2.mono (unhide H1).size)).mono (unhide hB).size))
            clear b2
            go_wp2
            exact ⟨⟨k + 1, by omega, by go_num, unhide hE, unhide H2⟩, by simp [intOf]; omega⟩
    · obtain rfl : k = L.length := by omega
      have hE := hide hA
      have hB := hide hbel
      clear hA hbel
      go_wp2
      go_ret
      exact ⟨by rw [unhide hE]; rfl, unhide hB⟩
end Go.Proofs.Ytbabipaipbjlbaa
