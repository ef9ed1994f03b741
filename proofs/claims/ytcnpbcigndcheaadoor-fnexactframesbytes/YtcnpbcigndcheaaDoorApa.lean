/-
  Contracts: an acknowledgement's and a stream's bytes, as the program puts them behind.
-/
import Derived.Test.YtcnpbcigndcheaaDoorApn
namespace Go.Proofs.YtcnpbcigndcheaaDoor
open Go.ChangeShapes Go.WideShapes Go.ChangeAt Go.RowKit
set_option linter.unusedVariables false

/-- what stands behind an acknowledgement's kind, q further ranges told -/
def ackL (a : Int) (n : Nat) (F T : Nat → Int) : Nat → List UInt8
  | 0 => vb (T 0) ++ vb a ++ vb ((n : Int) - 1) ++ vb (T 0 - F 0)
  | q + 1 => ackL a n F T q ++ (vb (F q - T (q + 1) - 2) ++ vb (T (q + 1) - F (q + 1)))
theorem vb_le (n : Int) : (vb n).length ≤ 8 := by have := vb_length n; have := vsz_le n; omega
theorem ackL_length (a : Int) (n : Nat) (F T : Nat → Int) : ∀ q, (ackL a n F T q).length ≤ 32 + 16 * q
  | 0 => by
    have h1 := vb_le (T 0); have h2 := vb_le a; have h3 := vb_le ((n : Int) - 1); have h4 := vb_le (T 0 - F 0)
    simp only [ackL, List.length_append]; omega
  | q + 1 => by
    have h0 := ackL_length a n F T q
    have h1 := vb_le (F q - T (q + 1) - 2); have h2 := vb_le (T (q + 1) - F (q + 1))
    simp only [ackL, List.length_append]; omega
theorem ackT_list (a : Int) (n : Nat) (F T : Nat → Int) : ∀ q, (ackT a n F T (q + 1)).data.toList = vb 2 ++ ackL a n F T q
  | 0 => by simp [ackT, ackL, VB_list, List.append_assoc]
  | q + 1 => by
    have h := ackT_list a n F T q
    show (ackT a n F T (q + 1) ++ (VB (F q - T (q + 1) - 2) ++ VB (T (q + 1) - F (q + 1)))).data.toList = _
    simp [h, ackL, VB_list, List.append_assoc]
/-- four numbers, two numbers -/
def n4 (x y z u : Int) (i : Nat) : Int := if i = 0 then x else if i = 1 then y else if i = 2 then z else u
theorem vbs4 (x y z u : Int) : vbs (n4 x y z u) 4 = vb x ++ vb y ++ vb z ++ vb u := by simp [vbs, n4]
theorem vbs3 (x y z u : Int) : vbs (n4 x y z u) 3 = vb x ++ vb y ++ vb z := by simp [vbs, n4]
theorem vbs2 (x y z u : Int) : vbs (n4 x y z u) 2 = vb x ++ vb y := by simp [vbs, n4]
theorem vbs1 (x y z u : Int) : vbs (n4 x y z u) 1 = vb x := by simp [vbs, n4]
theorem four (i : Nat) (h : i < 4) : i = 0 ∨ i = 1 ∨ i = 2 ∨ i = 3 := by omega
theorem heap_new (w : World) (o : Obj) : (w.alloc o).heap[w.heap.size]? = some o := by
  show (w.heap.push o)[w.heap.size]? = _
  simp

theorem heap_new3 (w : World) (o1 o2 o3 : Obj) : (((w.alloc o1).alloc o2).alloc o3).heap[w.heap.size + 1 + 1]? = some o3 := by
  have := heap_new ((w.alloc o1).alloc o2) o3; simpa using this
theorem heap_new2 (w : World) (o1 o2 : Obj) : ((w.alloc o1).alloc o2).heap[w.heap.size + 1]? = some o2 := by
  have := heap_new (w.alloc o1) o2; simpa using this
theorem heap_old (w : World) (o : Obj) (k : Nat) (x : Obj) (h : w.heap[k]? = some x) : (w.alloc o).heap[k]? = some x := by
  have hl : k < w.heap.size := by
    rcases Nat.lt_or_ge k w.heap.size with h' | h'
    · exact h'
    · rw [Array.getElem?_eq_none h'] at h; cases h
  rw [Below.heap_alloc w o k hl]; exact h
theorem cell_in {w : World} {p : Nat} {cur : Array Value} {t : TypeId} {fr : Nat × Nat} (h : w.heap[p]? = some (.cells cur t fr)) (i : Nat) : w.cell? ⟨p, i, none⟩ = cur[i]? := cell_of_row w p i cur t fr h
theorem Tz.below {w w' : World} (h : Tz w) (hb : Below w.heap.size w w') : Tz w' := h.kept hb (World.block_lt_of_cell? w _ h.c0)

set_option maxRecDepth 100000 in
set_option maxHeartbeats 2000000 in
theorem appendAck_ow (v : Value) (xs : List UInt8) (a : Int) (s : ByteArray) (g off n cap : Nat) (F T : Nat → Int) (w : World) (base : Nat) (h : Ow base w v xs) (hbase : base ≤ w.heap.size) (htz : Tz w) (hg1 : 1 < base) (hlen : xs.length ≤ 1000000)
    (hn1 : 1 ≤ n) (hn2 : n ≤ 20) (hR : Rr w g off n F T) (hgb : g < base) (hA : allR F T n = true) (ha0 : 0 ≤ a) (ha1 : a ≤ 4611686018427387903) (hcap : n ≤ cap) :
    Calls Tryd.prog 30 #[v, fv 2 a 0 0 false s g off n cap] w fun e w' => ∃ v', e = .returned v' ∧ Ow base w' v' (xs ++ ackL a n F T (n - 1)) ∧ Below base w w' := by
  have hok := okR_all hA
  have h00 := okR_num (hok 0 (by omega))
  have cf0 : w.cell? ⟨g, off, none⟩ = some (.int .i64 (F 0)) := by simpa using hR.cf 0 (by omega)
  have ct0 : w.cell? ⟨g, off + 1, none⟩ = some (.int .i64 (T 0)) := by simpa using hR.ct 0 (by omega)
  have hgw : g < w.heap.size := by omega
  have hn0 : (0 : Int) < (n : Int) := by omega
  have hnp : 0 < n := by omega
  have HO := hide h
  have HT := hide htz
  have HR := hide hR
  have HK := hide hok
  clear h htz hR hok hA
  go_enter Tryd.func30, Tryd.ntmps30
  go_wp2_with fail
  have A3 : Below w.heap.size w (((w.alloc (.cells #[.int .i64 2, .int .i64 a, .int .i64 0, .int .i64 0, .bool false, .string s, .slice (some ⟨g, off, none⟩) n cap] 36)).alloc (.cells #[.int .i64 (F 0), .int .i64 (T 0)] 51)).alloc (.cells #[.int .i64 (T 0), .int .i64 a, .int .i64 ((n : Int) - 1), .int .i64 (T 0 - F 0)] 3)) :=
    (((Below.refl _ _).alloc (Nat.le_refl _) _).alloc (by simp) _).alloc (by simp; omega) _
  have O3 : Ow base (((w.alloc (.cells #[.int .i64 2, .int .i64 a, .int .i64 0, .int .i64 0, .bool false, .string s, .slice (some ⟨g, off, none⟩) n cap] 36)).alloc (.cells #[.int .i64 (F 0), .int .i64 (T 0)] 51)).alloc (.cells #[.int .i64 (T 0), .int .i64 a, .int .i64 ((n : Int) - 1), .int .i64 (T 0 - F 0)] 3)) v xs := (((unhide HO).alloc _).alloc _).alloc _
  have P1 := heap_old _ (.cells #[.int .i64 (T 0), .int .i64 a, .int .i64 ((n : Int) - 1), .int .i64 (T 0 - F 0)] 3) _ _ (heap_new2 w (.cells #[.int .i64 2, .int .i64 a, .int .i64 0, .int .i64 0, .bool false, .string s, .slice (some ⟨g, off, none⟩) n cap] 36) (.cells #[.int .i64 (F 0), .int .i64 (T 0)] 51))
  have P0 := heap_old _ (.cells #[.int .i64 (T 0), .int .i64 a, .int .i64 ((n : Int) - 1), .int .i64 (T 0 - F 0)] 3) _ _ (heap_old _ (.cells #[.int .i64 (F 0), .int .i64 (T 0)] 51) _ _ (heap_new w (.cells #[.int .i64 2, .int .i64 a, .int .i64 0, .int .i64 0, .bool false, .string s, .slice (some ⟨g, off, none⟩) n cap] 36)))
  refine (appendNumbers_ow v xs (w.heap.size + 1 + 1) 4 (n4 (T 0) a ((n : Int) - 1) (T 0 - F 0)) #[.int .i64 (T 0), .int .i64 a, .int .i64 ((n : Int) - 1), .int .i64 (T 0 - F 0)] (0, 0) _ base O3 (Nat.le_trans hbase A3.size) ((unhide HT).below A3) hg1 (by omega) (by omega) (heap_new3 w _ _ _)
    (fun i hi => by rcases four i hi with rfl | rfl | rfl | rfl <;> rfl) (fun i hi => by rcases four i hi with rfl | rfl | rfl | rfl <;> simp [n4] <;> omega)).mono ?_
  rintro e w3 ⟨v3, rfl, o3, g3⟩
  rw [vbs4] at o3
  have Q1 := g3.keep P1 (O3.far P1 (by decide))
  have Q0 := g3.keep P0 (O3.far P0 (by decide))
  have B3 : Below base w w3 := (A3.mono hbase).trans (g3.below O3 (Nat.le_trans hbase A3.size))
  have c1 : w3.cell? ⟨w.heap.size + 1, 0, none⟩ = some (.int .i64 (F 0)) := cell_in Q1 0
  have c0 : w3.cell? ⟨w.heap.size, 6, none⟩ = some (.slice (some ⟨g, off, none⟩) n cap) := cell_in Q0 6
  have hw3 : w.heap.size + 1 < w3.heap.size := by have := g3.grown.size; simp at this; omega
  clear A3 O3 P1 P0 Q1 Q0 g3 cf0 ct0
  have O3' : Ow base w3 v3 (xs ++ ackL a n F T 0) := o3
  clear o3 hw3
  by_cases hc1 : cap = 1
  · subst hc1
    obtain rfl : n = 1 := by omega
    go_wp2
    refine wp_loop_rounds 1 ?_
    rw [rounds_succ]
    go_wp2
    go_ret
    exact ⟨_, rfl, O3', B3⟩
  · have hc2 : ¬ (cap : Int) = 1 := by omega
    go_wp2_with fail
    go_loopw [0, 6, 35] (fun u ah i wr => ∃ q : Nat, q ≤ n - 1 ∧ i = .int .i64 q ∧ ah = .int .i64 (F q) ∧ Ow base wr u (xs ++ ackL a n F T q) ∧ Below base w wr) (fun _ _ i _ => n - (intOf i).toNat)
    case atStart => exact ⟨0, Nat.zero_le _, rfl, rfl, O3', B3⟩
    case round =>
      obtain ⟨q, hq, rfl, rfl, how, hbl⟩ := hrel
      have hbs := hbl.size
      by_cases hlt : q < n - 1
      · have ee : off + (q + 1) * 2 = off + 2 + q * 2 := by omega
        have hcf : wr.cell? ⟨g, off + 2 + q * 2, none⟩ = some (.int .i64 (F (q + 1))) := by rw [← ee]; exact (hbl.cell (p := ⟨g, off + (q + 1) * 2, none⟩) hgb).trans ((unhide HR).cf (q + 1) (by omega))
        have hct : wr.cell? ⟨g, off + 2 + q * 2 + 1, none⟩ = some (.int .i64 (T (q + 1))) := by rw [← ee]; exact (hbl.cell (p := ⟨g, off + (q + 1) * 2 + 1, none⟩) hgb).trans ((unhide HR).ct (q + 1) (by omega))
        clear ee
        have hq1 := okR_num (unhide HK (q + 1) (by omega))
        have hq0 := okR_num (unhide HK q (by omega))
        have hgp := okR_gap (unhide HK (q + 1) (by omega))
        have A2 : Below wr.heap.size wr ((wr.alloc (.cells #[.int .i64 (F (q + 1)), .int .i64 (T (q + 1))] 51)).alloc (.cells #[.int .i64 (F q - T (q + 1) - 2), .int .i64 (T (q + 1) - F (q + 1))] 3)) := ((Below.refl _ _).alloc (Nat.le_refl _) _).alloc (by simp) _
        have O2 : Ow base ((wr.alloc (.cells #[.int .i64 (F (q + 1)), .int .i64 (T (q + 1))] 51)).alloc (.cells #[.int .i64 (F q - T (q + 1) - 2), .int .i64 (T (q + 1) - F (q + 1))] 3)) u0 (xs ++ ackL a n F T q) := (how.alloc _).alloc _
        have P2 := heap_old _ (.cells #[.int .i64 (F q - T (q + 1) - 2), .int .i64 (T (q + 1) - F (q + 1))] 3) _ _ (heap_new wr (.cells #[.int .i64 (F (q + 1)), .int .i64 (T (q + 1))] 51))
        have hll := ackL_length a n F T q
        have HN := hide (appendNumbers_ow u0 (xs ++ ackL a n F T q) (wr.heap.size + 1) 2 (n4 (F q - T (q + 1) - 2) (T (q + 1) - F (q + 1)) 0 0) #[.int .i64 (F q - T (q + 1) - 2), .int .i64 (T (q + 1) - F (q + 1))] (0, 0) _ base O2 (Nat.le_trans (Nat.le_trans hbase hbs) A2.size) (((unhide HT).kept hbl hg1).below A2) hg1 (by rw [List.length_append]; omega) (by omega) (heap_new2 wr _ _)
          (fun i hi => by rcases (show i = 0 ∨ i = 1 by omega) with rfl | rfl <;> rfl) (fun i hi => by rcases (show i = 0 ∨ i = 1 by omega) with rfl | rfl <;> simp [n4] <;> omega))
        have HO2 := hide O2
        have HP2 := hide P2
        have HA2 := hide A2
        clear O2 P2 A2 how
        go_wp2_with fail
        refine (unhide HN).mono ?_
        rintro e w5 ⟨v5, rfl, o5, g5⟩
        rw [vbs2] at o5
        have Q5 := g5.keep (unhide HP2) ((unhide HO2).far (unhide HP2) (by decide))
        have c5 : w5.cell? ⟨wr.heap.size, 0, none⟩ = some (.int .i64 (F (q + 1))) := cell_in Q5 0
        have B5 : Below base w w5 := (hbl.trans ((unhide HA2).mono (by omega))).trans (g5.below (unhide HO2) (Nat.le_trans (Nat.le_trans hbase hbs) (unhide HA2).size))
        have O5 : Ow base w5 v5 (xs ++ ackL a n F T (q + 1)) := by
          show Ow base w5 v5 (xs ++ (ackL a n F T q ++ (vb (F q - T (q + 1) - 2) ++ vb (T (q + 1) - F (q + 1)))))
          rw [← List.append_assoc]; exact o5
        clear g5 o5 Q5
        go_wp2
        exact ⟨⟨q + 1, by omega, by go_num, by go_num, O5, B5⟩, by simp [intOf]; omega⟩
      · obtain rfl : q = n - 1 := by omega
        go_wp2
        go_ret
        exact ⟨_, rfl, how, hbl⟩
end Go.Proofs.YtcnpbcigndcheaaDoor
