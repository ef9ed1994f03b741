/-
  Contracts: a number's bytes put behind a slice that the call owns, as the program does it.
-/
import Derived.Test.YtgieglpjkjncfabDoorFix
import Derived.Deep.QuietTactic
import Derived.BigQuiet
import Derived.Deep.RegionWith
import Derived.Deep.AppendLies
namespace Go.Proofs.YtgieglpjkjncfabDoor
open Go.ChangeShapes Go.WideShapes Go.ChangeAt Go.RowKit
set_option linter.unusedVariables false
set_option maxRecDepth 100000

/-- What an append to v that gives v' leaves: all but v's own row is as it was; v' lies where v lay, or in a new row. -/
structure Gr (w w' : World) (v v' : Value) : Prop where
  grown : w.grownBy w' v.ownBlock
  lies : v'.ownBlock = v.ownBlock ∨ ∃ g, v'.ownBlock = some g ∧ w.heap.size ≤ g
theorem Gr.refl (w : World) (v : Value) : Gr w w v v := ⟨⟨rfl, rfl, rfl, Nat.le_refl _, fun _ _ _ => rfl⟩, Or.inl rfl⟩
theorem Gr.trans {a b c : World} {u v x : Value} (h : Gr a b u v) (k : Gr b c v x) : Gr a c u x := by
  refine ⟨⟨k.grown.os.trans h.grown.os, k.grown.tape.trans h.grown.tape, k.grown.output.trans h.grown.output, Nat.le_trans h.grown.size k.grown.size, fun i hi hc => ?_⟩, ?_⟩
  · have e := h.grown.block i hi hc
    rw [k.grown.block i (Nat.lt_of_lt_of_le hi h.grown.size) ?_, e]
    rcases h.lies with l | ⟨g, l, hg⟩
    · rw [l]; exact hc
    · rw [l]; intro e; simp at e; omega
  · rcases k.lies with l | ⟨g, l, hg⟩
    · rw [l]; exact h.lies
    · exact Or.inr ⟨g, l, Nat.le_trans h.grown.size hg⟩
theorem Gr.alloc {a w : World} {u v : Value} (h : Gr a w u v) (o : Obj) : Gr a (w.alloc o) u v :=
  h.trans ⟨⟨rfl, rfl, rfl, by simp, fun k hk _ => Below.heap_alloc _ _ _ hk⟩, Or.inl rfl⟩
theorem Gr.drew {a w : World} {u v : Value} (h : Gr a w u v) : Gr a w.drew u v :=
  h.trans ⟨⟨rfl, rfl, rfl, Nat.le_refl _, fun k hk _ => rfl⟩, Or.inl rfl⟩
/-- Below 'base' nothing has turned, where v is owned from 'base' on. -/
theorem Gr.below {base : Nat} {w w' : World} {v v' : Value} {e : TypeId} {n : Nat} {xs : List Value} (h : Gr w w' v v') (hown : w.ownsRow base e 1 v n xs) (hb : base ≤ w.heap.size) : Below base w w' :=
  ⟨h.grown.os, h.grown.tape, h.grown.output, h.grown.size, fun k hk => h.grown.block k (by omega) (fun e => by have := (hown.lt k e.symm).1; omega)⟩
/-- A block that is not v's own row is as it was. -/
theorem Gr.keep {w w' : World} {v v' : Value} (h : Gr w w' v v') {k : Nat} {o : Obj} (hk : w.heap[k]? = some o) (hne : v.ownBlock ≠ some k) : w'.heap[k]? = some o := by
  have hl : k < w.heap.size := by
    rcases Nat.lt_or_ge k w.heap.size with h' | h'
    · exact h'
    · rw [Array.getElem?_eq_none h'] at hk; cases hk
  rw [h.grown.block k hl (fun e => hne e.symm), hk]

/-- The four cells of the table that are asked for. -/
structure Tz (w : World) : Prop where
  c0 : w.cell? ⟨1, 0, none⟩ = some (.int .u8 0)
  c1 : w.cell? ⟨1, 1, none⟩ = some (.int .u8 1)
  c3 : w.cell? ⟨1, 3, none⟩ = some (.int .u8 2)
  c7 : w.cell? ⟨1, 7, none⟩ = some (.int .u8 3)
theorem Tz.kept {base : Nat} {w w' : World} (h : Tz w) (k : Below base w w') (h1 : 1 < base) : Tz w' :=
  ⟨(k.cell (p := ⟨1, 0, none⟩) h1).trans h.c0, (k.cell (p := ⟨1, 1, none⟩) h1).trans h.c1, (k.cell (p := ⟨1, 3, none⟩) h1).trans h.c3, (k.cell (p := ⟨1, 7, none⟩) h1).trans h.c7⟩

theorem Tz.drew {w : World} (h : Tz w) : Tz w.drew := ⟨h.c0, h.c1, h.c3, h.c7⟩
theorem tz1 (w : World) (h : Tz w) : Calls Tryd.prog 59 #[.int .u64 1] w fun e w' => e = .returned (.int .i64 0) ∧ w = w' := by
  have h0 := h.c0
  have e0 : IntKind.u64.wrap (bits BinOp.and IntKind.u64 1 (IntKind.u64.wrap (-1)) * 285870213051353865) / 288230376151711744 = 0 := by decide +kernel
  go_enter Tryd.func59, Tryd.ntmps59
  go_wp2
  go_ret
  exact ⟨rfl, rfl⟩
theorem tz2 (w : World) (h : Tz w) : Calls Tryd.prog 59 #[.int .u64 2] w fun e w' => e = .returned (.int .i64 1) ∧ w = w' := by
  have h0 := h.c1
  have e0 : IntKind.u64.wrap (bits BinOp.and IntKind.u64 2 (IntKind.u64.wrap (-2)) * 285870213051353865) / 288230376151711744 = 1 := by decide +kernel
  go_enter Tryd.func59, Tryd.ntmps59
  go_wp2
  go_ret
  exact ⟨rfl, rfl⟩
theorem tz4 (w : World) (h : Tz w) : Calls Tryd.prog 59 #[.int .u64 4] w fun e w' => e = .returned (.int .i64 2) ∧ w = w' := by
  have h0 := h.c3
  have e0 : IntKind.u64.wrap (bits BinOp.and IntKind.u64 4 (IntKind.u64.wrap (-4)) * 285870213051353865) / 288230376151711744 = 3 := by decide +kernel
  go_enter Tryd.func59, Tryd.ntmps59
  go_wp2
  go_ret
  exact ⟨rfl, rfl⟩
theorem tz8 (w : World) (h : Tz w) : Calls Tryd.prog 59 #[.int .u64 8] w fun e w' => e = .returned (.int .i64 3) ∧ w = w' := by
  have h0 := h.c7
  have e0 : IntKind.u64.wrap (bits BinOp.and IntKind.u64 8 (IntKind.u64.wrap (-8)) * 285870213051353865) / 288230376151711744 = 7 := by decide +kernel
  go_enter Tryd.func59, Tryd.ntmps59
  go_wp2
  go_ret
  exact ⟨rfl, rfl⟩

/-- the loop of appendVarint: M bytes behind xs -/
def ax (xs : List UInt8) (n : Int) (M i : Nat) : List UInt8 := xs ++ fx n M i
theorem ax_step (xs : List UInt8) (n : Int) (M i k : Nat) (x : Int) (h : (M : Int) - 1 - i = k) (hx : n / 2 ^ (8 * k) % 256 = x) : bs (ax xs n M (i + 1)) = bs (ax xs n M i) ++ [.int .u8 x] := by
  unfold ax
  rw [bs_append, bs_step n M i k x h hx, bs_append, List.append_assoc]

/-! ### the highest two bits of the first byte -/
theorem or8 (a c : Int) (h0 : 0 ≤ a) (h1 : a < 64) (h2 : 0 ≤ c) (h3 : c < 256) (h4 : c % 64 = 0) : bits .or .u8 a c = a + c := by
  have e : bits .or .u8 a c = bits .or .u8 c a := by simp only [bits, BitVec.or_comm]
  rw [e, bits_join .u8 8 (by decide) wraps_u8 6 c a h2 h4 (by omega) h0 (by omega) (by omega)]
  omega
theorem bt_eq (n m : Int) (k : Nat) (h : n / 2 ^ (8 * k) % 256 = m / 2 ^ (8 * k) % 256) : bt n k = bt m k := by unfold bt; rw [h]
theorem set_first (xs ys : List UInt8) (v : Value) : (bs (xs ++ ys)).set xs.length v = bs xs ++ (bs ys).set 0 v := by
  have h : (bs xs).length = xs.length := bs_length xs
  rw [bs_append, ← h, List.set_append_right _ _ (Nat.le_refl _), Nat.sub_self]
theorem first1 (n : Int) (h0 : 0 ≤ n) (h1 : n < 64) : (bs (fx n 1 1)).set 0 (.int .u8 (bits .or .u8 (bt n 0).toNat 0)) = bs (vb n) := by
  have e : vb n = fx n 1 1 := by unfold vb; rw [if_pos h1]
  have b := bt_toNat n 0
  have b' : n / 2 ^ (8 * 0) % 256 = n := by show n / 1 % 256 = n; omega
  rw [e, or8 _ _ (by omega) (by omega) (by omega) (by omega) (by omega), Int.add_zero]
  rfl
theorem first2 (n : Int) (h0 : 64 ≤ n) (h1 : n < 16384) : (bs (fx n 2 2)).set 0 (.int .u8 (bits .or .u8 (bt n 1).toNat 64)) = bs (vb n) := by
  have e : vb n = fx (n + 16384) 2 2 := by unfold vb; rw [if_neg (by omega), if_pos h1]
  have b : ((bt n 1).toNat : Int) = n / 256 % 256 := bt_toNat n 1
  have b2 : ((bt (n + 16384) 1).toNat : Int) = (n + 16384) / 256 % 256 := bt_toNat (n + 16384) 1
  have e0 : bt n 0 = bt (n + 16384) 0 := bt_eq n (n + 16384) 0 (by show n / 1 % 256 = (n + 16384) / 1 % 256; omega)
  rw [e, or8 _ _ (by omega) (by omega) (by omega) (by omega) (by omega)]
  have e1 : ((bt n 1).toNat : Int) + 64 = (bt (n + 16384) 1).toNat := by omega
  rw [e1]
  show [_, Value.int .u8 ((bt n 0).toNat : Int)] = [_, Value.int .u8 ((bt (n + 16384) 0).toNat : Int)]
  rw [e0]
theorem first4 (n : Int) (h0 : 16384 ≤ n) (h1 : n < 1073741824) : (bs (fx n 4 4)).set 0 (.int .u8 (bits .or .u8 (bt n 3).toNat 128)) = bs (vb n) := by
  have e : vb n = fx (n + 2147483648) 4 4 := by unfold vb; rw [if_neg (by omega), if_neg (by omega), if_pos h1]
  have b : ((bt n 3).toNat : Int) = n / 16777216 % 256 := bt_toNat n 3
  have b2 : ((bt (n + 2147483648) 3).toNat : Int) = (n + 2147483648) / 16777216 % 256 := bt_toNat (n + 2147483648) 3
  have e0 : bt n 0 = bt (n + 2147483648) 0 := bt_eq _ _ 0 (by show n / 1 % 256 = (n + 2147483648) / 1 % 256; omega)
  have e1 : bt n 1 = bt (n + 2147483648) 1 := bt_eq _ _ 1 (by show n / 256 % 256 = (n + 2147483648) / 256 % 256; omega)
  have e2 : bt n 2 = bt (n + 2147483648) 2 := bt_eq _ _ 2 (by show n / 65536 % 256 = (n + 2147483648) / 65536 % 256; omega)
  rw [e, or8 _ _ (by omega) (by omega) (by omega) (by omega) (by omega)]
  have e3 : ((bt n 3).toNat : Int) + 128 = (bt (n + 2147483648) 3).toNat := by omega
  rw [e3]
  show [_, Value.int .u8 ((bt n 2).toNat : Int), Value.int .u8 ((bt n 1).toNat : Int), Value.int .u8 ((bt n 0).toNat : Int)] = [_, Value.int .u8 ((bt (n + 2147483648) 2).toNat : Int), Value.int .u8 ((bt (n + 2147483648) 1).toNat : Int), Value.int .u8 ((bt (n + 2147483648) 0).toNat : Int)]
  rw [e0, e1, e2]
theorem first8 (n : Int) (h0 : 1073741824 ≤ n) (h1 : n ≤ 4611686018427387903) : (bs (fx n 8 8)).set 0 (.int .u8 (bits .or .u8 (bt n 7).toNat 192)) = bs (vb n) := by
  have e : vb n = fx (n - 4611686018427387904) 8 8 := by unfold vb; rw [if_neg (by omega), if_neg (by omega), if_neg (by omega)]
  have b : ((bt n 7).toNat : Int) = n / 72057594037927936 % 256 := bt_toNat n 7
  have b2 : ((bt (n - 4611686018427387904) 7).toNat : Int) = (n - 4611686018427387904) / 72057594037927936 % 256 := bt_toNat (n - 4611686018427387904) 7
  have e0 : bt n 0 = bt (n - 4611686018427387904) 0 := bt_eq _ _ 0 (by show n / 1 % 256 = (n - 4611686018427387904) / 1 % 256; omega)
  have e1 : bt n 1 = bt (n - 4611686018427387904) 1 := bt_eq _ _ 1 (by show n / 256 % 256 = (n - 4611686018427387904) / 256 % 256; omega)
  have e2 : bt n 2 = bt (n - 4611686018427387904) 2 := bt_eq _ _ 2 (by show n / 65536 % 256 = (n - 4611686018427387904) / 65536 % 256; omega)
  have e3 : bt n 3 = bt (n - 4611686018427387904) 3 := bt_eq _ _ 3 (by show n / 16777216 % 256 = (n - 4611686018427387904) / 16777216 % 256; omega)
  have e4 : bt n 4 = bt (n - 4611686018427387904) 4 := bt_eq _ _ 4 (by show n / 4294967296 % 256 = (n - 4611686018427387904) / 4294967296 % 256; omega)
  have e5 : bt n 5 = bt (n - 4611686018427387904) 5 := bt_eq _ _ 5 (by show n / 1099511627776 % 256 = (n - 4611686018427387904) / 1099511627776 % 256; omega)
  have e6 : bt n 6 = bt (n - 4611686018427387904) 6 := bt_eq _ _ 6 (by show n / 281474976710656 % 256 = (n - 4611686018427387904) / 281474976710656 % 256; omega)
  rw [e, or8 _ _ (by omega) (by omega) (by omega) (by omega) (by omega)]
  have e7 : ((bt n 7).toNat : Int) + 192 = (bt (n - 4611686018427387904) 7).toNat := by omega
  rw [e7]
  show [_, Value.int .u8 ((bt n 6).toNat : Int), Value.int .u8 ((bt n 5).toNat : Int), Value.int .u8 ((bt n 4).toNat : Int), Value.int .u8 ((bt n 3).toNat : Int), Value.int .u8 ((bt n 2).toNat : Int), Value.int .u8 ((bt n 1).toNat : Int), Value.int .u8 ((bt n 0).toNat : Int)] = [_, Value.int .u8 ((bt (n - 4611686018427387904) 6).toNat : Int), Value.int .u8 ((bt (n - 4611686018427387904) 5).toNat : Int), Value.int .u8 ((bt (n - 4611686018427387904) 4).toNat : Int), Value.int .u8 ((bt (n - 4611686018427387904) 3).toNat : Int), Value.int .u8 ((bt (n - 4611686018427387904) 2).toNat : Int), Value.int .u8 ((bt (n - 4611686018427387904) 1).toNat : Int), Value.int .u8 ((bt (n - 4611686018427387904) 0).toNat : Int)]
  rw [e0, e1, e2, e3, e4, e5, e6]
theorem fin (w wr : World) (base g cap : Nat) (xs : List UInt8) (n : Int) (M : Nat) (x : Int) (v : Value) (hown : wr.ownsRow base 5 1 (.slice (some ⟨g, 0, none⟩) (xs.length + M) cap) (xs.length + M) (bs (ax xs n M M))) (hbel : Gr w wr v (.slice (some ⟨g, 0, none⟩) (xs.length + M) cap))
    (hx : (bs (fx n M M)).set 0 (.int .u8 x) = bs (vb n)) :
    ((wr.setCell ⟨g, xs.length, none⟩ (.int .u8 x)).drew).ownsRow base 5 1 (.slice (some ⟨g, 0, none⟩) (xs.length + M) cap) (xs.length + M) (bs (xs ++ vb n)) ∧ Gr w (wr.setCell ⟨g, xs.length, none⟩ (.int .u8 x)).drew v (.slice (some ⟨g, 0, none⟩) (xs.length + M) cap) := by
  have h := hown.stored xs.length (.int .u8 x)
  have e : (bs (ax xs n M M)).set xs.length (.int .u8 x) = bs (xs ++ vb n) := by
    unfold ax; rw [set_first, hx, bs_append]
  rw [e] at h
  exact ⟨h.1, (hbel.trans ⟨h.2, Or.inl rfl⟩).drew⟩

set_option maxHeartbeats 2000000 in
theorem appendVarint_any (v : Value) (xs : List UInt8) (n : Int) (w : World) (base : Nat) (hown0 : w.ownsRow base 5 1 v xs.length (bs xs)) (hbase : base ≤ w.heap.size) (htz : Tz w) (hg1 : 1 < base)
    (hlen : xs.length ≤ 1099511627776) (h0 : 0 ≤ n) (h1 : n ≤ 4611686018427387903) :
    Calls Tryd.prog 41 #[v, .int .i64 n] w fun e w' => ∃ v', e = .returned v' ∧ w'.ownsRow base 5 1 v' (xs.length + vsz n) (bs (xs ++ vb n)) ∧ Gr w w' v v' := by
  obtain ⟨i0, hi, hz0, hz1, hz2⟩ := info_parts Tryd.info5
  have HZ := hide (fun w => implSize_yes n w h0 h1)
  have hM := vsz_le n
  have HV : Hid (n < 64 ∧ vsz n = 1 ∨ 64 ≤ n ∧ n < 16384 ∧ vsz n = 2 ∨ 16384 ≤ n ∧ n < 1073741824 ∧ vsz n = 4 ∨ 1073741824 ≤ n ∧ vsz n = 8) := vsz_cases n
  generalize vsz n = M at *
  obtain ⟨hM1, hM8⟩ := hM
  have hlv : ∃ a c, v = .slice a xs.length c := by
    rcases hown0.2 with ⟨rfl, e⟩ | ⟨g, cap, cur, rfl, _⟩
    · exact ⟨none, 0, by rw [e]⟩
    · exact ⟨_, _, rfl⟩
  obtain ⟨a0, c0, rfl⟩ := hlv
  have HT := hide htz
  have H0 := hide hown0
  clear htz
  go_enter Tryd.func41, Tryd.ntmps41
  go_wp2_with (go_at_call 58; refine (unhide HZ _).mono ?_; rintro e w' ⟨rfl, rfl⟩)
  go_loopw [0, 8] (fun v k wr => ∃ i : Nat, i ≤ M ∧ k = .int .i64 ((M : Int) - 1 - i) ∧ wr.ownsRow base 5 1 v (xs.length + i) (bs (ax xs n M i)) ∧ Gr w wr (.slice a0 xs.length c0) v) (fun _ k _ => (intOf k + 1).toNat)
  case atStart => exact ⟨0, Nat.zero_le _, by go_num, by simpa [ax, fx] using hown0, Gr.refl _ _⟩
  case round =>
    obtain ⟨i, hi2, rfl, hown, hbel⟩ := hrel
    have hsz := hbel.grown.size
    have hblw := hbel.below (unhide H0) hbase
    by_cases hlt : i < M
    · have h8 : (M : Int) - 1 - i = 0 ∨ (M : Int) - 1 - i = 1 ∨ (M : Int) - 1 - i = 2 ∨ (M : Int) - 1 - i = 3 ∨ (M : Int) - 1 - i = 4 ∨ (M : Int) - 1 - i = 5 ∨ (M : Int) - 1 - i = 6 ∨ (M : Int) - 1 - i = 7 := by omega
      rcases h8 with h | h | h | h | h | h | h | h
      all_goals
        rw [h]
        have HK := hide h
        clear h
      · go_wp2_with (at_builtin; refine wpList_append_lies _ rfl _ _ 22 rfl base 5 i0 (.int .u8 0) 1 1 Tryd.underlying22 hi hz0 hz1 hz2 rfl (by decide) _ _ _ rfl (hown.alloc _) ⟨wr.heap.size, 0, none⟩ 1 1 [.int .u8 (n % 256)] rfl rfl ?c1 ?c2 (by omega) ?c3 ?c4 ?c5 (wr.heap.size + 1) (by simp) ?_)
        case c1 =>
          intro j u hj
          match j, hj with
          | 0, hj => simp at hj; subst hj; simp [Addr.add]
        case c2 => intro u hu; simp at hu; subst hu; rfl
        case c3 => unfold maxLen; omega
        case c4 => omega
        case c5 => simp; omega
        intro g' cap' w1 hown' hgrow hat hlt'
        have R1 : Gr w w1 (.slice a0 xs.length c0) (.slice (some ⟨g', 0, none⟩) (xs.length + i + 1) cap') := (hbel.alloc _).trans ⟨hgrow, by rcases hat with e | e; exact Or.inl e.symm; exact Or.inr ⟨g', rfl, by simp; omega⟩⟩
        have R2 : w1.ownsRow base 5 1 (.slice (some ⟨g', 0, none⟩) (xs.length + i + 1) cap') (xs.length + (i + 1)) (bs (ax xs n M (i + 1))) := by rw [ax_step xs n M i 0 (n % 256) (unhide HK) (by simp)]; exact hown'
        clear hown' hgrow hown hat
        go_wp2
        go_roundw
        case rel => exact ⟨i + 1, by omega, by have := unhide HK; go_num, R2, R1⟩
        case measure => simp [intOf]
      · go_wp2_with (at_builtin; refine wpList_append_lies _ rfl _ _ 22 rfl base 5 i0 (.int .u8 0) 1 1 Tryd.underlying22 hi hz0 hz1 hz2 rfl (by decide) _ _ _ rfl (hown.alloc _) ⟨wr.heap.size, 0, none⟩ 1 1 [.int .u8 (n / 256 % 256)] rfl rfl ?c1 ?c2 (by omega) ?c3 ?c4 ?c5 (wr.heap.size + 1) (by simp) ?_)
        case c1 =>
          intro j u hj
          match j, hj with
          | 0, hj => simp at hj; subst hj; simp [Addr.add]
        case c2 => intro u hu; simp at hu; subst hu; rfl
        case c3 => unfold maxLen; omega
        case c4 => omega
        case c5 => simp; omega
        intro g' cap' w1 hown' hgrow hat hlt'
        have R1 : Gr w w1 (.slice a0 xs.length c0) (.slice (some ⟨g', 0, none⟩) (xs.length + i + 1) cap') := (hbel.alloc _).trans ⟨hgrow, by rcases hat with e | e; exact Or.inl e.symm; exact Or.inr ⟨g', rfl, by simp; omega⟩⟩
        have R2 : w1.ownsRow base 5 1 (.slice (some ⟨g', 0, none⟩) (xs.length + i + 1) cap') (xs.length + (i + 1)) (bs (ax xs n M (i + 1))) := by rw [ax_step xs n M i 1 (n / 256 % 256) (unhide HK) (by simp)]; exact hown'
        clear hown' hgrow hown hat
        go_wp2
        go_roundw
        case rel => exact ⟨i + 1, by omega, by have := unhide HK; go_num, R2, R1⟩
        case measure => simp [intOf]
      · go_wp2_with (at_builtin; refine wpList_append_lies _ rfl _ _ 22 rfl base 5 i0 (.int .u8 0) 1 1 Tryd.underlying22 hi hz0 hz1 hz2 rfl (by decide) _ _ _ rfl (hown.alloc _) ⟨wr.heap.size, 0, none⟩ 1 1 [.int .u8 (n / 65536 % 256)] rfl rfl ?c1 ?c2 (by omega) ?c3 ?c4 ?c5 (wr.heap.size + 1) (by simp) ?_)
        case c1 =>
          intro j u hj
          match j, hj with
          | 0, hj => simp at hj; subst hj; simp [Addr.add]
        case c2 => intro u hu; simp at hu; subst hu; rfl
        case c3 => unfold maxLen; omega
        case c4 => omega
        case c5 => simp; omega
        intro g' cap' w1 hown' hgrow hat hlt'
        have R1 : Gr w w1 (.slice a0 xs.length c0) (.slice (some ⟨g', 0, none⟩) (xs.length + i + 1) cap') := (hbel.alloc _).trans ⟨hgrow, by rcases hat with e | e; exact Or.inl e.symm; exact Or.inr ⟨g', rfl, by simp; omega⟩⟩
        have R2 : w1.ownsRow base 5 1 (.slice (some ⟨g', 0, none⟩) (xs.length + i + 1) cap') (xs.length + (i + 1)) (bs (ax xs n M (i + 1))) := by rw [ax_step xs n M i 2 (n / 65536 % 256) (unhide HK) (by simp)]; exact hown'
        clear hown' hgrow hown hat
        go_wp2
        go_roundw
        case rel => exact ⟨i + 1, by omega, by have := unhide HK; go_num, R2, R1⟩
        case measure => simp [intOf]
      · go_wp2_with (at_builtin; refine wpList_append_lies _ rfl _ _ 22 rfl base 5 i0 (.int .u8 0) 1 1 Tryd.underlying22 hi hz0 hz1 hz2 rfl (by decide) _ _ _ rfl (hown.alloc _) ⟨wr.heap.size, 0, none⟩ 1 1 [.int .u8 (n / 16777216 % 256)] rfl rfl ?c1 ?c2 (by omega) ?c3 ?c4 ?c5 (wr.heap.size + 1) (by simp) ?_)
        case c1 =>
          intro j u hj
          match j, hj with
          | 0, hj => simp at hj; subst hj; simp [Addr.add]
        case c2 => intro u hu; simp at hu; subst hu; rfl
        case c3 => unfold maxLen; omega
        case c4 => omega
        case c5 => simp; omega
        intro g' cap' w1 hown' hgrow hat hlt'
        have R1 : Gr w w1 (.slice a0 xs.length c0) (.slice (some ⟨g', 0, none⟩) (xs.length + i + 1) cap') := (hbel.alloc _).trans ⟨hgrow, by rcases hat with e | e; exact Or.inl e.symm; exact Or.inr ⟨g', rfl, by simp; omega⟩⟩
        have R2 : w1.ownsRow base 5 1 (.slice (some ⟨g', 0, none⟩) (xs.length + i + 1) cap') (xs.length + (i + 1)) (bs (ax xs n M (i + 1))) := by rw [ax_step xs n M i 3 (n / 16777216 % 256) (unhide HK) (by simp)]; exact hown'
        clear hown' hgrow hown hat
        go_wp2
        go_roundw
        case rel => exact ⟨i + 1, by omega, by have := unhide HK; go_num, R2, R1⟩
        case measure => simp [intOf]
      · go_wp2_with (at_builtin; refine wpList_append_lies _ rfl _ _ 22 rfl base 5 i0 (.int .u8 0) 1 1 Tryd.underlying22 hi hz0 hz1 hz2 rfl (by decide) _ _ _ rfl (hown.alloc _) ⟨wr.heap.size, 0, none⟩ 1 1 [.int .u8 (n / 4294967296 % 256)] rfl rfl ?c1 ?c2 (by omega) ?c3 ?c4 ?c5 (wr.heap.size + 1) (by simp) ?_)
        case c1 =>
          intro j u hj
          match j, hj with
          | 0, hj => simp at hj; subst hj; simp [Addr.add]
        case c2 => intro u hu; simp at hu; subst hu; rfl
        case c3 => unfold maxLen; omega
        case c4 => omega
        case c5 => simp; omega
        intro g' cap' w1 hown' hgrow hat hlt'
        have R1 : Gr w w1 (.slice a0 xs.length c0) (.slice (some ⟨g', 0, none⟩) (xs.length + i + 1) cap') := (hbel.alloc _).trans ⟨hgrow, by rcases hat with e | e; exact Or.inl e.symm; exact Or.inr ⟨g', rfl, by simp; omega⟩⟩
        have R2 : w1.ownsRow base 5 1 (.slice (some ⟨g', 0, none⟩) (xs.length + i + 1) cap') (xs.length + (i + 1)) (bs (ax xs n M (i + 1))) := by rw [ax_step xs n M i 4 (n / 4294967296 % 256) (unhide HK) (by simp)]; exact hown'
        clear hown' hgrow hown hat
        go_wp2
        go_roundw
        case rel => exact ⟨i + 1, by omega, by have := unhide HK; go_num, R2, R1⟩
        case measure => simp [intOf]
      · go_wp2_with (at_builtin; refine wpList_append_lies _ rfl _ _ 22 rfl base 5 i0 (.int .u8 0) 1 1 Tryd.underlying22 hi hz0 hz1 hz2 rfl (by decide) _ _ _ rfl (hown.alloc _) ⟨wr.heap.size, 0, none⟩ 1 1 [.int .u8 (n / 1099511627776 % 256)] rfl rfl ?c1 ?c2 (by omega) ?c3 ?c4 ?c5 (wr.heap.size + 1) (by simp) ?_)
        case c1 =>
          intro j u hj
          match j, hj with
          | 0, hj => simp at hj; subst hj; simp [Addr.add]
        case c2 => intro u hu; simp at hu; subst hu; rfl
        case c3 => unfold maxLen; omega
        case c4 => omega
        case c5 => simp; omega
        intro g' cap' w1 hown' hgrow hat hlt'
        have R1 : Gr w w1 (.slice a0 xs.length c0) (.slice (some ⟨g', 0, none⟩) (xs.length + i + 1) cap') := (hbel.alloc _).trans ⟨hgrow, by rcases hat with e | e; exact Or.inl e.symm; exact Or.inr ⟨g', rfl, by simp; omega⟩⟩
        have R2 : w1.ownsRow base 5 1 (.slice (some ⟨g', 0, none⟩) (xs.length + i + 1) cap') (xs.length + (i + 1)) (bs (ax xs n M (i + 1))) := by rw [ax_step xs n M i 5 (n / 1099511627776 % 256) (unhide HK) (by simp)]; exact hown'
        clear hown' hgrow hown hat
        go_wp2
        go_roundw
        case rel => exact ⟨i + 1, by omega, by have := unhide HK; go_num, R2, R1⟩
        case measure => simp [intOf]
      · go_wp2_with (at_builtin; refine wpList_append_lies _ rfl _ _ 22 rfl base 5 i0 (.int .u8 0) 1 1 Tryd.underlying22 hi hz0 hz1 hz2 rfl (by decide) _ _ _ rfl (hown.alloc _) ⟨wr.heap.size, 0, none⟩ 1 1 [.int .u8 (n / 281474976710656 % 256)] rfl rfl ?c1 ?c2 (by omega) ?c3 ?c4 ?c5 (wr.heap.size + 1) (by simp) ?_)
        case c1 =>
          intro j u hj
          match j, hj with
          | 0, hj => simp at hj; subst hj; simp [Addr.add]
        case c2 => intro u hu; simp at hu; subst hu; rfl
        case c3 => unfold maxLen; omega
        case c4 => omega
        case c5 => simp; omega
        intro g' cap' w1 hown' hgrow hat hlt'
        have R1 : Gr w w1 (.slice a0 xs.length c0) (.slice (some ⟨g', 0, none⟩) (xs.length + i + 1) cap') := (hbel.alloc _).trans ⟨hgrow, by rcases hat with e | e; exact Or.inl e.symm; exact Or.inr ⟨g', rfl, by simp; omega⟩⟩
        have R2 : w1.ownsRow base 5 1 (.slice (some ⟨g', 0, none⟩) (xs.length + i + 1) cap') (xs.length + (i + 1)) (bs (ax xs n M (i + 1))) := by rw [ax_step xs n M i 6 (n / 281474976710656 % 256) (unhide HK) (by simp)]; exact hown'
        clear hown' hgrow hown hat
        go_wp2
        go_roundw
        case rel => exact ⟨i + 1, by omega, by have := unhide HK; go_num, R2, R1⟩
        case measure => simp [intOf]
      · go_wp2_with (at_builtin; refine wpList_append_lies _ rfl _ _ 22 rfl base 5 i0 (.int .u8 0) 1 1 Tryd.underlying22 hi hz0 hz1 hz2 rfl (by decide) _ _ _ rfl (hown.alloc _) ⟨wr.heap.size, 0, none⟩ 1 1 [.int .u8 (n / 72057594037927936)] rfl rfl ?c1 ?c2 (by omega) ?c3 ?c4 ?c5 (wr.heap.size + 1) (by simp) ?_)
        case c1 =>
          intro j u hj
          match j, hj with
          | 0, hj => simp at hj; subst hj; simp [Addr.add]
        case c2 => intro u hu; simp at hu; subst hu; rfl
        case c3 => unfold maxLen; omega
        case c4 => omega
        case c5 => simp; omega
        intro g' cap' w1 hown' hgrow hat hlt'
        have R1 : Gr w w1 (.slice a0 xs.length c0) (.slice (some ⟨g', 0, none⟩) (xs.length + i + 1) cap') := (hbel.alloc _).trans ⟨hgrow, by rcases hat with e | e; exact Or.inl e.symm; exact Or.inr ⟨g', rfl, by simp; omega⟩⟩
        have R2 : w1.ownsRow base 5 1 (.slice (some ⟨g', 0, none⟩) (xs.length + i + 1) cap') (xs.length + (i + 1)) (bs (ax xs n M (i + 1))) := by rw [ax_step xs n M i 7 (n / 72057594037927936) (unhide HK) (by show n / 72057594037927936 % 256 = _; omega)]; exact hown'
        clear hown' hgrow hown hat
        go_wp2
        go_roundw
        case rel => exact ⟨i + 1, by omega, by have := unhide HK; go_num, R2, R1⟩
        case measure => simp [intOf]
    · obtain rfl : i = M := by omega
      have hz := unhide HT
      have hz2 := hz.kept hblw hg1
      obtain ⟨g, cap, rfl⟩ : ∃ g cap, u0 = .slice (some ⟨g, 0, none⟩) (xs.length + i) cap := by
        rcases hown.2 with ⟨_, e⟩ | ⟨g, cap, cur, e, _⟩
        · omega
        · exact ⟨g, cap, e⟩
      have hc : wr.cell? ⟨g, xs.length, none⟩ = some (.int .u8 ((bt n (i - 1)).toNat : Int)) := by
        rw [hown.cellAt xs.length (by omega)]
        have hl : xs.length < (bs (ax xs n i i)).length := by simp [bs, ax, fx]; omega
        rw [List.getElem?_eq_getElem hl]
        simp [bs, ax, fx]
      have hf := hown.frozenAt xs.length
      have hix : (xs.length : Int) < ((xs.length + i : Nat) : Int) := by omega
      rcases unhide HV with ⟨hn, rfl⟩ | ⟨hn, hn2, rfl⟩ | ⟨hn, hn2, rfl⟩ | ⟨hn, rfl⟩
      · have hz3 := hz2.drew
        have F := hide (fin w wr base g cap xs n 1 (bits .or .u8 (bt n 0).toNat 0) _ hown hbel (first1 n h0 hn))
        clear hown hbel
        go_wp2_with fail
        go_region_with (go_at_call 59; refine (tz1 _ hz3).mono ?_; rintro e w' ⟨rfl, rfl⟩)
        all_goals
          go_wp2
          go_ret
          exact ⟨_, rfl, unhide F⟩
      · have hz3 := hz2.drew
        have F := hide (fin w wr base g cap xs n 2 (bits .or .u8 (bt n 1).toNat 64) _ hown hbel (first2 n hn hn2))
        clear hown hbel
        go_wp2_with fail
        go_region_with (go_at_call 59; refine (tz2 _ hz3).mono ?_; rintro e w' ⟨rfl, rfl⟩)
        all_goals
          go_wp2
          go_ret
          exact ⟨_, rfl, unhide F⟩
      · have hz3 := hz2.drew
        have F := hide (fin w wr base g cap xs n 4 (bits .or .u8 (bt n 3).toNat 128) _ hown hbel (first4 n hn hn2))
        clear hown hbel
        go_wp2_with fail
        go_region_with (go_at_call 59; refine (tz4 _ hz3).mono ?_; rintro e w' ⟨rfl, rfl⟩)
        all_goals
          go_wp2
          go_ret
          exact ⟨_, rfl, unhide F⟩
      · have hz3 := hz2.drew
        have F := hide (fin w wr base g cap xs n 8 (bits .or .u8 (bt n 7).toNat 192) _ hown hbel (first8 n hn h1))
        clear hown hbel
        go_wp2_with fail
        go_region_with (go_at_call 59; refine (tz8 _ hz3).mono ?_; rintro e w' ⟨rfl, rfl⟩)
        all_goals
          go_wp2
          go_ret
          exact ⟨_, rfl, unhide F⟩
end Go.Proofs.YtgieglpjkjncfabDoor
