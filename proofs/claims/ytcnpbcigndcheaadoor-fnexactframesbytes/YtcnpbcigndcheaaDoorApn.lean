/-
  Contracts: numbers and texts put behind a slice that the call owns.
-/
import Derived.Test.YtcnpbcigndcheaaDoorApl
import Derived.Test.YtcnpbcigndcheaaDoorLba
import Derived.Lib.AppendStr
namespace Go.Proofs.YtcnpbcigndcheaaDoor
open Go.ChangeShapes Go.WideShapes Go.ChangeAt Go.RowKit
set_option linter.unusedVariables false

/-- v is the call's own slice of the bytes xs -/
def Ow (base : Nat) (w : World) (v : Value) (xs : List UInt8) : Prop := w.ownsRow base 5 1 v xs.length (bs xs)
theorem Ow.alloc {base : Nat} {w : World} {v : Value} {xs : List UInt8} (h : Ow base w v xs) (o : Obj) : Ow base (w.alloc o) v xs := World.ownsRow.alloc h o
theorem Ow.drew {base : Nat} {w : World} {v : Value} {xs : List UInt8} (h : Ow base w v xs) : Ow base w.drew v xs := h
/-- a row of whole numbers: not a row of bytes -/
theorem Ow.far {base : Nat} {w : World} {v : Value} {xs : List UInt8} (h : Ow base w v xs) {p : Nat} {cur : Array Value} {t : TypeId} {fr : Nat × Nat} (hp : w.heap[p]? = some (.cells cur t fr)) (ht : t ≠ 5) : v.ownBlock ≠ some p := by
  rcases h.2 with ⟨rfl, _⟩ | ⟨g, cap, cur', rfl, _, hg, _⟩
  · simp [Value.ownBlock]
  · intro e
    simp [Value.ownBlock] at e
    subst e
    rw [hp] at hg
    simp at hg
    exact ht hg.2.1
theorem Ow.shape {base : Nat} {w : World} {v : Value} {xs : List UInt8} (h : Ow base w v xs) : ∃ a c, v = .slice a xs.length c := by
  rcases h.2 with ⟨rfl, e⟩ | ⟨g, cap, cur, rfl, _⟩
  · exact ⟨none, 0, by rw [e]⟩
  · exact ⟨_, _, rfl⟩
theorem appendVarint_ow (v : Value) (xs : List UInt8) (n : Int) (w : World) (base : Nat) (h : Ow base w v xs) (hbase : base ≤ w.heap.size) (htz : Tz w) (hg1 : 1 < base) (hlen : xs.length ≤ 1099511627776) (h0 : 0 ≤ n) (h1 : n ≤ 4611686018427387903) :
    Calls Tryd.prog 28 #[v, .int .i64 n] w fun e w' => ∃ v', e = .returned v' ∧ Ow base w' v' (xs ++ vb n) ∧ Gr w w' v v' := by
  refine (appendVarint_any v xs n w base h hbase htz hg1 hlen h0 h1).mono ?_
  rintro e w' ⟨v', rfl, ho, hg⟩
  refine ⟨v', rfl, ?_, hg⟩
  unfold Ow
  rw [List.length_append, vb_length]
  exact ho

/-- the bytes of the first m of some numbers -/
def vbs (N : Nat → Int) : Nat → List UInt8
  | 0 => []
  | m + 1 => vbs N m ++ vb (N m)
theorem vbs_length (N : Nat → Int) : ∀ m, (vbs N m).length ≤ 8 * m
  | 0 => by simp [vbs]
  | m + 1 => by
    have h1 := vbs_length N m
    have h2 := vb_length (N m)
    have h3 := vsz_le (N m)
    simp only [vbs, List.length_append]; omega

set_option maxHeartbeats 1000000 in
theorem appendNumbers_ow (v : Value) (xs : List UInt8) (p m : Nat) (N : Nat → Int) (cur : Array Value) (fr : Nat × Nat) (w : World) (base : Nat) (h : Ow base w v xs) (hbase : base ≤ w.heap.size) (htz : Tz w) (hg1 : 1 < base) (hlen : xs.length ≤ 1048576) (hm : m ≤ 4)
    (hp : w.heap[p]? = some (.cells cur 3 fr)) (hc : ∀ i, i < m → cur[i]? = some (.int .i64 (N i))) (hN : ∀ i, i < m → 0 ≤ N i ∧ N i ≤ 4611686018427387903) :
    Calls Tryd.prog 31 #[v, .slice (some ⟨p, 0, none⟩) m m] w fun e w' => ∃ v', e = .returned v' ∧ Ow base w' v' (xs ++ vbs N m) ∧ Gr w w' v v' := by
  have HO := hide h
  have HP := hide hp
  have HC := hide hc
  have HN := hide hN
  have HT := hide htz
  clear h hp hc hN htz
  go_enter Tryd.func31, Tryd.ntmps31
  go_wp2
  go_loopw [0, 9] (fun u i wr => ∃ q : Nat, q ≤ m ∧ i = .int .i64 q ∧ Ow base wr u (xs ++ vbs N q) ∧ Gr w wr v u) (fun _ i _ => m - (intOf i).toNat)
  case atStart => exact ⟨0, Nat.zero_le _, rfl, by simpa [vbs] using unhide HO, Gr.refl _ _⟩
  case round =>
    obtain ⟨q, hq, rfl, how, hgr⟩ := hrel
    by_cases hlt : q < m
    · have hpr := hgr.keep (unhide HP) ((unhide HO).far (unhide HP) (by decide))
      have hcell : wr.cell? ⟨p, q, none⟩ = some (.int .i64 (N q)) := by
        rw [cell_of_row wr p q cur 3 fr hpr]; exact unhide HC q hlt
      have hlq := vbs_length N q
      have hb := hgr.below (unhide HO) hbase
      have HV := hide (appendVarint_ow u0 (xs ++ vbs N q) (N q) wr base how (Nat.le_trans hbase hb.size) ((unhide HT).kept hb hg1) hg1 (by rw [List.length_append]; omega) (unhide HN q hlt).1 (unhide HN q hlt).2)
      clear how hpr
      go_wp2_with (go_at_call 28; refine (unhide HV).mono ?_; rintro e w2 ⟨v2, rfl, how2, hgr2⟩)
      exact ⟨⟨q + 1, by omega, by go_num, by rw [vbs, ← List.append_assoc]; exact how2, hgr.trans hgr2⟩, by simp [intOf]; omega⟩
    · obtain rfl : q = m := by omega
      go_wp2
      go_ret
      exact ⟨_, rfl, how, hgr⟩

theorem strCells_bs (s : ByteArray) : Lib.strCells s = bs s.data.toList := by
  simp [Lib.strCells, bs]
theorem Ow.below {base : Nat} {w w' : World} {v : Value} {xs : List UInt8} (h : Ow base w v xs) (hg : w.grownBy w' v.ownBlock) (hb : base ≤ w.heap.size) : Below base w w' :=
  ⟨hg.os, hg.tape, hg.output, hg.size, fun k hk => hg.block k (by omega) (fun e => by have := (World.ownsRow.lt h k e.symm).1; omega)⟩

/-- what is no row of bytes is as it was -/
def Kn (w w' : World) : Prop := ∀ (k : Nat) (cur : Array Value) (t : TypeId) (fr : Nat × Nat), w.heap[k]? = some (.cells cur t fr) → t ≠ 5 → w'.heap[k]? = some (.cells cur t fr)
theorem Kn.trans {a b c : World} (h : Kn a b) (k : Kn b c) : Kn a c := fun i cur t fr hi ht => k i cur t fr (h i cur t fr hi ht) ht
theorem Ow.kn {base : Nat} {w w' : World} {v : Value} {xs : List UInt8} (h : Ow base w v xs) (hg : w.grownBy w' v.ownBlock) : Kn w w' := fun i cur t fr hi ht => by
  have hl : i < w.heap.size := by
    rcases Nat.lt_or_ge i w.heap.size with h' | h'
    · exact h'
    · rw [Array.getElem?_eq_none h'] at hi; cases hi
  rw [hg.block i hl (fun e => h.far hi ht e.symm), hi]

set_option maxHeartbeats 1000000 in
theorem appendSized_ow (v : Value) (xs : List UInt8) (s : ByteArray) (w : World) (base : Nat) (h : Ow base w v xs) (hbase : base ≤ w.heap.size) (htz : Tz w) (hg1 : 1 < base) (hlen : xs.length ≤ 1048576) (hs : s.size ≤ 1048576) :
    Calls Tryd.prog 32 #[v, .string s] w fun e w' => ∃ v', e = .returned v' ∧ Ow base w' v' (xs ++ (vb s.size ++ s.data.toList)) ∧ Below base w w' ∧ Kn w w' := by
  obtain ⟨i0, hi, hz0, hz1, hz2⟩ := info_parts Tryd.info5
  have HV := hide (appendVarint_ow v xs s.size w base h hbase htz hg1 (by omega) (by omega) (by omega))
  have HO := hide h
  have hvl := vb_length s.size
  have hvz := vsz_le s.size
  clear h htz
  go_enter Tryd.func32, Tryd.ntmps32
  go_wp2_with fail
  refine (unhide HV).mono ?_
  rintro e w2 ⟨v2, rfl, how2, hgr2⟩
  have hb2 := hgr2.below (unhide HO) hbase
  have hs2 := hb2.size
  go_wp2_with (at_builtin; refine Lib.wpList_append_own_string _ rfl _ _ 40 9 rfl base 5 i0 Tryd.underlying40 Tryd.underlying9 hi hz0 hz1 hz2 _ _ _ rfl how2 s rfl ?c1 ?c2 ?c3 ?_)
  case c1 => rw [List.length_append]; unfold maxLen; omega
  case c2 => rw [List.length_append]; omega
  case c3 => omega
  intro v3 w3 ho3 hg3 _
  have B3 : Below base w w3 := hb2.trans (how2.below hg3 (by omega))
  have O3 : Ow base w3 v3 (xs ++ (vb s.size ++ s.data.toList)) := by
    unfold Ow
    rw [strCells_bs, ← bs_append] at ho3
    have e : xs.length + vsz s.size + s.size = (xs ++ (vb s.size ++ s.data.toList)).length := by simp [List.length_append, hvl]; omega
    rw [e, List.append_assoc] at ho3
    exact ho3
  have K3 : Kn w w3 := ((unhide HO).kn hgr2.grown).trans (how2.kn hg3)
  clear ho3 hg3 how2 hgr2
  go_wp2
  go_ret
  exact ⟨_, rfl, O3, B3, K3⟩

theorem toldKind_any (k a b c kk : Int) (fin : Bool) (s : ByteArray) (g off n cap : Nat) (w : World)
    (h : (k = 48 ∧ kk = 49) ∨ (k = 8 ∧ b = 0 ∧ fin = false ∧ kk = 10) ∨ (k = 8 ∧ b = 0 ∧ fin = true ∧ kk = 11) ∨ (k = 8 ∧ b ≠ 0 ∧ fin = false ∧ kk = 14) ∨ (k = 8 ∧ b ≠ 0 ∧ fin = true ∧ kk = 15) ∨ (k ≠ 48 ∧ k ≠ 8 ∧ kk = k)) :
    Calls Tryd.prog 29 #[fv k a b c fin s g off n cap] w fun e w' => e = .returned (.int .i64 kk) ∧ Below w.heap.size w w' := by
  have o4 : bits BinOp.or IntKind.i64 10 4 = 14 := by decide +kernel
  have o1 : bits BinOp.or IntKind.i64 10 1 = 11 := by decide +kernel
  have o5 : bits BinOp.or IntKind.i64 14 1 = 15 := by decide +kernel
  rcases h with ⟨rfl, rfl⟩ | ⟨rfl, rfl, rfl, rfl⟩ | ⟨rfl, rfl, rfl, rfl⟩ | ⟨rfl, hb, rfl, rfl⟩ | ⟨rfl, hb, rfl, rfl⟩ | ⟨h48, h8, rfl⟩
  iterate 3
    · go_enter Tryd.func29, Tryd.ntmps29
      go_wp2
      go_ret
      exact ⟨rfl, (Below.refl _ _).alloc (Nat.le_refl _) _⟩
  iterate 2
    · have hb' : (b != 0) = true := by rw [bne_iff_ne]; exact hb
      clear hb
      go_enter Tryd.func29, Tryd.ntmps29
      go_wp2
      go_ret
      exact ⟨rfl, (Below.refl _ _).alloc (Nat.le_refl _) _⟩
  · have e48 : (kk == 48) = false := beq_eq_false_iff_ne.2 h48
    have e8 : (kk == 8) = false := beq_eq_false_iff_ne.2 h8
    clear h48 h8
    go_enter Tryd.func29, Tryd.ntmps29
    go_wp2
    go_ret
    exact ⟨rfl, (Below.refl _ _).alloc (Nat.le_refl _) _⟩
end Go.Proofs.YtcnpbcigndcheaaDoor
