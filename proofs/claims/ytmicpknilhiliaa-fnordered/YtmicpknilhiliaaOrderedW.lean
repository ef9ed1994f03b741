/-
  The law FnOrdered, walked.
-/
import Derived.Test.YtmicpknilhiliaaDps
import Derived.Test.YtmicpknilhiliaaTgt4
import Derived.Test.YtmicpknilhiliaaSty
import Derived.Test.YtmicpknilhiliaaSto
import Derived.Deep.DeepCutAuto
namespace Go.Proofs.Ytmicpknilhiliaa.fnOrdered
open Go.ChangeShapes Go.WideShapes Go.ChangeAt Go.RowKit Go.Deep Rc
set_option linter.unusedVariables false
set_option maxRecDepth 100000

theorem tlO {s t : ByteArray} : (s.toList == t.toList) = decide (s = t) := by
  rw [Bool.eq_iff_iff, beq_iff_eq, decide_eq_true_eq, ByteArray.toList_eq, ByteArray.toList_eq]
  constructor
  · intro h
    exact ByteArray.ext (Array.toList_inj.1 h)
  · intro h
    rw [h]
/-- which places an order has named so far -/
def sn (o : List Int) (i : Nat) : Bool := o.contains (i : Int)
theorem sn_snoc (o : List Int) (n : Int) (i : Nat) : sn (o ++ [n]) i = (sn o i || decide ((i : Int) = n)) := by
  unfold sn
  rw [Bool.eq_iff_iff]
  simp
/-- whether an order names all of the first places -/
def allS (o : List Int) : Nat → Bool
  | 0 => true
  | k + 1 => allS o k && sn o k
theorem allS_iff (o : List Int) : ∀ k, allS o k = true ↔ ∀ j, j < k → (j : Int) ∈ o
  | 0 => ⟨fun _ j hj => absurd hj (Nat.not_lt_zero _), fun _ => rfl⟩
  | k + 1 => by
    unfold allS
    rw [Bool.and_eq_true, allS_iff o k]
    unfold sn
    rw [List.contains_iff_mem]
    constructor
    · rintro ⟨h1, h2⟩ j hj
      by_cases e : j = k
      · rw [e]; exact h2
      · exact h1 j (by omega)
    · intro h
      exact ⟨fun j hj => h j (by omega), h k (by omega)⟩
theorem Try.infoBool : (Try.prog.info? 4).map (fun i => (i.zero, i.size, i.bytes)) = some (some (.bool false), 1, 1) := by kernel_rfl
theorem rg_put {w : World} {g N : Nat} {f : Nat → Value} (h : Rg w g N f) {m : Nat} (hm : m < N) (u : Value) (f' : Nat → Value) (h1 : f' m = u) (h2 : ∀ i, i ≠ m → f' i = f i) : Rg (w.setCell ⟨g, m, none⟩ u) g N f' := by
  refine ⟨by simpa using h.lt, fun o ho => ?_, fun o => by simpa using h.fz o⟩
  by_cases e : o = m
  · subst e
    rw [World.cell?_setCell_same _ _ _ (h.c o ho), h1]
  · rw [World.cell?_setCell_other _ _ _ _ (by intro q; injection q with _ q _; exact e q.symm), h.c o ho, h2 o e]
theorem rg_cong {w : World} {g N : Nat} {f f' : Nat → Value} (h : Rg w g N f) (e : ∀ i, i < N → f' i = f i) : Rg w g N f' := ⟨h.lt, fun o ho => (h.c o ho).trans (by rw [e o ho]), h.fz⟩
set_option maxHeartbeats 8000000 in
theorem walk_small (a0 : Option Addr) (n0 c0 : Nat) (w : World) (h : n0 ≤ 1048576) (hC0 : Cd w a0 n0) :
    Calls Try.prog 3 #[.slice a0 n0 c0] w fun e w' => e = .returned (.bool true) ∧ Below w.heap.size w w' := by
  have g0 : ¬ (1048576 : Int) < (n0 : Int) := by omega
  have HC0 := hide hC0
  clear hC0
  go_enter Try.func3, Try.ntmps3
  go_wp2_with fail
  refine (drawPS_any a0 n0 c0 _ (by omega) (unhide HC0)).mono ?_
  rintro e w1 ⟨d, limit, cuts, order, aC, cC, aO, cO, rfl, hd, hlim, ⟨hc5, hpos⟩, hol, rC, rO, b1⟩
  have B1 := hide b1
  have RO := hide rO
  have RC := hide rC
  have HI := hide (fun W (b : Below w1.heap.size w1 W) => implPlS d limit cuts order W (by omega) (by omega) (by omega) aC cC aO cO (rC.below b) (rO.below b))
  have HS := hide (fun W (b : Below w1.heap.size w1 W) => specPS d limit cuts order W (by omega) (by omega) (by omega) aC cC aO cO (rC.below b) (rO.below b))
  have HB : Hid (∀ hB : psB d limit cuts order = true, (psO d limit cuts order = d.extract 0 (psO d limit cuts order).size ∧ (psO d limit cuts order).size ≤ d.size ∧ (psO d limit cuts order).size ≤ limit) ∧ (psD d limit cuts order = true → psO d limit cuts order = d) ∧ (limit < d.size → psD d limit cuts order = false) ∧ (d.size ≤ limit → psD d limit cuts order = allS order (cuts.length + 1))) := fun hB => by
    obtain ⟨h1, h2, h3, h4, h5, h6⟩ := ordered (by omega) hB (fun k L e => hpos k (by rw [e]; exact List.mem_cons_self))
    have hO : psO d limit cuts order = (psF (cutP d 0 cuts) limit order).2 := by unfold psO; rw [if_pos hB]
    have hD : psD d limit cuts order = decide ((psF (cutP d 0 cuts) limit order).1.fi = (psF (cutP d 0 cuts) limit order).1.re) := by unfold psD; rw [hB, Bool.true_and]
    rw [hO, hD]
    refine ⟨⟨h1, h2, by omega⟩, fun e => h4 (of_decide_eq_true e), fun hl => decide_eq_false (h5 (by omega)), fun hl => ?_⟩
    rw [Bool.eq_iff_iff, decide_eq_true_eq, allS_iff, h6 (by omega)]
    exact ⟨fun hh j hj => hh j (by omega), fun hh j hj => hh j (by omega)⟩
  have HN : Hid (psB d limit cuts order = false → psO d limit cuts order = ⟨#[]⟩) := fun hB => by unfold psO; rw [if_neg (by rw [hB]; decide)]
  generalize psO d limit cuts order = O at *
  generalize psD d limit cuts order = Dn at *
  generalize psB d limit cuts order = ok at *
  clear b1 rO rC hpos HC0
  have s1 := (unhide B1).size
  go_wp2_with fail
  refine (unhide HI _ (Below.refl _ _)).mono ?_
  rintro e w2 ⟨rfl, b2⟩
  have C2 := hide b2
  clear b2 HI
  go_wp2_with fail
  refine (unhide HS _ (unhide C2)).mono ?_
  rintro e w3 ⟨rfl, b3⟩
  have C3 := hide ((unhide C2).trans (b3.mono (unhide C2).size))
  have B3 := hide ((unhide B1).trans ((unhide C3).mono s1))
  have RO3 := hide ((unhide RO).below (unhide C3))
  clear b3 HS C2 C3 B1 RO RC
  cases ok with
  | false =>
    obtain rfl := unhide HN rfl
    clear HB HN
    go_wp2
    go_ret
    exact ⟨rfl, unhide B3⟩
  | true =>
    obtain ⟨⟨h1, h2, h3⟩, h4, h5, h6⟩ := unhide HB rfl
    have k1 : ¬ (d.size : Int) < (O.size : Int) := by omega
    have k2 : ¬ (limit : Int) < (O.size : Int) := by omega
    have k3 : d.extract 0 O.size = O := h1.symm
    have k4 : (0 : Int) ≤ (O.size : Int) := by omega
    have k5 : (O.size : Int) ≤ (d.size : Int) := by omega
    have k6 : ((O.size : Int)).toNat = O.size := by omega
    have k7 : IntKind.i64.wrap (O.size : Int) = (O.size : Int) := wraps_i64 _ (by omega) (by omega)
    have H4 := hide h4
    have H5 := hide h5
    have H6 := hide h6
    clear h1 h4 h5 h6 HB HN
    by_cases hl : (limit : Int) < (d.size : Int)
    · obtain rfl := unhide H5 (by omega)
      clear H4 H5 H6
      go_wp2
      go_ret
      exact ⟨rfl, unhide B3⟩
    · have E6 := hide (unhide H6 (by omega))
      obtain ⟨m, hm⟩ : ∃ m, cuts.length + 1 = m := ⟨_, rfl⟩
      rw [hm] at E6
      have m1 : IntKind.i64.wrap ((cuts.length : Int) + 1) = (m : Int) := by rw [wraps_i64 _ (by omega) (by omega)]; omega
      have hm6 : m ≤ 6 := by omega
      obtain ⟨i0, hi, hz0, hz1, hz2⟩ := info_parts Try.infoBool
      obtain ⟨w4, hmk, hown, hgr⟩ := run_make_full (P := Try.prog) w3 w3.heap.size 28 4 i0 _ 1 Try.underlying28 hi hz0 hz1 .i64 .i64 m (by rw [hz2]; omega) (by unfold maxLen; omega) (Nat.le_refl _)
      have hb4 : Below w3.heap.size w3 w4 := (Below.refl _ _).grown hgr (Nat.le_refl _) (fun k hk => by cases hk)
      have HG : Hid (Rg w4 w3.heap.size m (fun i => .bool (sn (order.take 0) i))) := by
        refine ⟨(hown.lt w3.heap.size rfl).2, fun i hi => ?_, fun o => hown.frozenAt o⟩
        rw [hown.cellAt i (by omega)]
        have e0 : (Value.bool false).cells[i % (Value.bool false).cells.size]! = Value.bool false := by
          show (#[Value.bool false] : Array Value)[i % 1]! = _
          rw [Nat.mod_one]
          rfl
        simp [madeCells, hi, e0, sn]
      have B4 := hide hb4
      clear hown hgr hi hz0 hz1 hz2 hb4 H5 H6 hm
      cases Dn with
      | true =>
        obtain rfl := unhide H4 rfl
        clear H4
        have hA := E6
        clear E6
        go_wp2_with fail
        go_loopw [103] (fun iv wr => ∃ k : Nat, k ≤ order.length ∧ iv = .int .i64 k ∧ Hid (Rg wr w3.heap.size m (fun i => .bool (sn (order.take k) i))) ∧ Hid (Below w3.heap.size w3 wr)) (fun iv _ => order.length - (intOf iv).toNat)
        case atStart => exact ⟨0, Nat.zero_le _, rfl, HG, B4⟩
        case round =>
          obtain ⟨k, hk, rfl, hR, hB⟩ := hrel
          clear HG B4 hmk
          by_cases hlt : k < order.length
          · rcases (unhide RO3).below (unhide hB) with h9 | ⟨b, o, rfl, _, hel⟩
            · rw [h9] at hlt; exact absurd hlt (Nat.not_lt_zero _)
            have x0 := int_r hel hlt
            have HT := hide (takeI hlt)
            have hnk : (k : Int) < (order.length : Int) := by omega
            have hk0 : (0 : Int) ≤ (k : Int) := by omega
            clear hel
            generalize gt intK order k = x at *
            by_cases hx0 : 0 ≤ x
            · by_cases hx1 : x < (m : Int)
              · obtain ⟨y, rfl⟩ := Int.eq_ofNat_of_zero_le hx0
                have cy := (unhide hR).c y (by omega)
                have fy := (unhide hR).fz y
                have ly := (unhide hR).lt
                have R2 := hide (rg_put (unhide hR) (m := y) (by omega) (.bool true) (fun i => .bool (sn (order.take (k + 1)) i)) (by show Value.bool _ = _; rw [unhide HT, sn_snoc, decide_eq_true rfl, Bool.or_true]) (fun i hi => by show Value.bool _ = Value.bool _; rw [unhide HT, sn_snoc, decide_eq_false (by omega), Bool.or_false]))
                have B2 := hide ((unhide hB).setCell (p := ⟨w3.heap.size, y, none⟩) (Nat.le_refl _) (.bool true))
                clear hR hB HT
                go_wp2
                exact ⟨⟨k + 1, by omega, by go_num, R2, B2⟩, by simp [intOf]; omega⟩
              · have R2 := hide (rg_cong (f' := fun i => .bool (sn (order.take (k + 1)) i)) (unhide hR) (fun i hi => by show Value.bool _ = Value.bool _; rw [unhide HT, sn_snoc, decide_eq_false (by omega), Bool.or_false]))
                clear hR HT
                go_wp2
                exact ⟨⟨k + 1, by omega, by go_num, R2, hB⟩, by simp [intOf]; omega⟩
            · have R2 := hide (rg_cong (f' := fun i => .bool (sn (order.take (k + 1)) i)) (unhide hR) (fun i hi => by show Value.bool _ = Value.bool _; rw [unhide HT, sn_snoc, decide_eq_false (by omega), Bool.or_false]))
              clear hR HT
              go_wp2
              exact ⟨⟨k + 1, by omega, by go_num, R2, hB⟩, by simp [intOf]; omega⟩
          · obtain rfl : k = order.length := by omega
            have R2 : Hid (Rg wr w3.heap.size m (fun i => .bool (sn order i))) := by have h9 := unhide hR; rw [List.take_length] at h9; exact h9
            clear hR hlt
            go_wp2_with fail
            go_loopw [16, 121] (fun av iv wr2 => ∃ q : Nat, q ≤ m ∧ iv = .int .i64 q ∧ av = .bool (allS order q) ∧ wr2 = wr) (fun _ iv _ => m - (intOf iv).toNat)
            case atStart => exact ⟨0, Nat.zero_le _, rfl, rfl, rfl⟩
            case round =>
              obtain ⟨q, hq, rfl, rfl, rfl⟩ := hrel
              by_cases hqm : q < m
              · have cq := (unhide R2).c q hqm
                have lq := (unhide R2).lt
                have hqi : (q : Int) < (m : Int) := by omega
                have hq0 : (0 : Int) ≤ (q : Int) := by omega
                have HS1 : Hid (allS order (q + 1) = (allS order q && sn order q)) := rfl
                generalize allS order q = p1 at *
                generalize sn order q = p2 at *
                cases p1 <;> cases p2
                all_goals
                  go_wp2
                  exact ⟨⟨q + 1, by omega, by go_num, by rw [unhide HS1]; rfl, by trivial⟩, by simp [intOf]; omega⟩
              · obtain rfl : q = m := by omega
                have B9 := hide ((unhide B3).trans ((unhide hB).mono (unhide B3).size))
                rw [← unhide hA]
                go_wp2
                go_ret
                exact ⟨rfl, unhide B9⟩
      | false =>
        clear H4
        have hA := E6
        clear E6
        go_wp2_with fail
        go_loopw [103] (fun iv wr => ∃ k : Nat, k ≤ order.length ∧ iv = .int .i64 k ∧ Hid (Rg wr w3.heap.size m (fun i => .bool (sn (order.take k) i))) ∧ Hid (Below w3.heap.size w3 wr)) (fun iv _ => order.length - (intOf iv).toNat)
        case atStart => exact ⟨0, Nat.zero_le _, rfl, HG, B4⟩
        case round =>
          obtain ⟨k, hk, rfl, hR, hB⟩ := hrel
          clear HG B4 hmk
          by_cases hlt : k < order.length
          · rcases (unhide RO3).below (unhide hB) with h9 | ⟨b, o, rfl, _, hel⟩
            · rw [h9] at hlt; exact absurd hlt (Nat.not_lt_zero _)
            have x0 := int_r hel hlt
            have HT := hide (takeI hlt)
            have hnk : (k : Int) < (order.length : Int) := by omega
            have hk0 : (0 : Int) ≤ (k : Int) := by omega
            clear hel
            generalize gt intK order k = x at *
            by_cases hx0 : 0 ≤ x
            · by_cases hx1 : x < (m : Int)
              · obtain ⟨y, rfl⟩ := Int.eq_ofNat_of_zero_le hx0
                have cy := (unhide hR).c y (by omega)
                have fy := (unhide hR).fz y
                have ly := (unhide hR).lt
                have R2 := hide (rg_put (unhide hR) (m := y) (by omega) (.bool true) (fun i => .bool (sn (order.take (k + 1)) i)) (by show Value.bool _ = _; rw [unhide HT, sn_snoc, decide_eq_true rfl, Bool.or_true]) (fun i hi => by show Value.bool _ = Value.bool _; rw [unhide HT, sn_snoc, decide_eq_false (by omega), Bool.or_false]))
                have B2 := hide ((unhide hB).setCell (p := ⟨w3.heap.size, y, none⟩) (Nat.le_refl _) (.bool true))
                clear hR hB HT
                go_wp2
                exact ⟨⟨k + 1, by omega, by go_num, R2, B2⟩, by simp [intOf]; omega⟩
              · have R2 := hide (rg_cong (f' := fun i => .bool (sn (order.take (k + 1)) i)) (unhide hR) (fun i hi => by show Value.bool _ = Value.bool _; rw [unhide HT, sn_snoc, decide_eq_false (by omega), Bool.or_false]))
                clear hR HT
                go_wp2
                exact ⟨⟨k + 1, by omega, by go_num, R2, hB⟩, by simp [intOf]; omega⟩
            · have R2 := hide (rg_cong (f' := fun i => .bool (sn (order.take (k + 1)) i)) (unhide hR) (fun i hi => by show Value.bool _ = Value.bool _; rw [unhide HT, sn_snoc, decide_eq_false (by omega), Bool.or_false]))
              clear hR HT
              go_wp2
              exact ⟨⟨k + 1, by omega, by go_num, R2, hB⟩, by simp [intOf]; omega⟩
          · obtain rfl : k = order.length := by omega
            have R2 : Hid (Rg wr w3.heap.size m (fun i => .bool (sn order i))) := by have h9 := unhide hR; rw [List.take_length] at h9; exact h9
            clear hR hlt
            go_wp2_with fail
            go_loopw [16, 121] (fun av iv wr2 => ∃ q : Nat, q ≤ m ∧ iv = .int .i64 q ∧ av = .bool (allS order q) ∧ wr2 = wr) (fun _ iv _ => m - (intOf iv).toNat)
            case atStart => exact ⟨0, Nat.zero_le _, rfl, rfl, rfl⟩
            case round =>
              obtain ⟨q, hq, rfl, rfl, rfl⟩ := hrel
              by_cases hqm : q < m
              · have cq := (unhide R2).c q hqm
                have lq := (unhide R2).lt
                have hqi : (q : Int) < (m : Int) := by omega
                have hq0 : (0 : Int) ≤ (q : Int) := by omega
                have HS1 : Hid (allS order (q + 1) = (allS order q && sn order q)) := rfl
                generalize allS order q = p1 at *
                generalize sn order q = p2 at *
                cases p1 <;> cases p2
                all_goals
                  go_wp2
                  exact ⟨⟨q + 1, by omega, by go_num, by rw [unhide HS1]; rfl, by trivial⟩, by simp [intOf]; omega⟩
              · obtain rfl : q = m := by omega
                have B9 := hide ((unhide B3).trans ((unhide hB).mono (unhide B3).size))
                rw [← unhide hA]
                go_wp2
                go_ret
                exact ⟨rfl, unhide B9⟩
theorem walk (a0 : Option Addr) (n0 c0 : Nat) (w : World) (hN0 : n0 ≤ 140737488355328) (hC0 : Cd w a0 n0) :
    Calls Try.prog 3 #[.slice a0 n0 c0] w fun e w' => e = .returned (.bool true) ∧ Below w.heap.size w w' := by
  by_cases h : (1048576 : Int) < (n0 : Int)
  · clear hC0
    go_enter Try.func3, Try.ntmps3
    go_wp2
    go_ret
    exact ⟨rfl, Below.refl _ _⟩
  · exact walk_small a0 n0 c0 w (by omega) hC0
end Go.Proofs.Ytmicpknilhiliaa.fnOrdered
