/-
  Contracts: a header's address and its payload put behind a slice that the call owns. Contracts: a header's bytes, as the model writes them. Contracts: what follows a header's first byte, as the program puts it behind a slice that the call owns, form by form. Contract: the bytes of a header of versions, as the model writes them. Contracts: HeaderBytes as the program makes it, form by form. Contracts: HeaderBytes as the program makes it, form by form.
-/
import Derived.Test.YtgjohakjknmngaaDoorFixX
import Derived.Test.YtgjohakjknmngaaDoorIntsX
import Derived.Deep.RegionHeld3
import Derived.Deep.AppendLies
import Derived.Test.YtgjohakjknmngaaDoorGhiX
import Derived.Laws.OwnMore
namespace Go.Proofs.YtgjohakjknmngaaDoor
open Go.ChangeShapes Go.WideShapes Go.ChangeAt Go.RowKit
set_option linter.unusedVariables false
set_option maxRecDepth 100000

theorem heap_drew' {w : World} {k : Nat} {x : Option Obj} (h : w.heap[k]? = x) : w.drew.heap[k]? = x := h
theorem own_lt {base : Nat} {w : World} {v : Value} {xs : List UInt8} (h : Ow base w v xs) : v.ownBlock ≠ some w.heap.size := fun e => by have := (World.ownsRow.lt h _ e).2; omega
theorem own_lt1 {base : Nat} {w : World} {v : Value} {xs : List UInt8} (h : Ow base w v xs) : v.ownBlock ≠ some (w.heap.size + 1) := fun e => by have := (World.ownsRow.lt h _ e).2; omega
theorem ow_byte {base : Nat} {w' : World} {v' : Value} {xs : List UInt8} {k : Int} {m : Nat} (ho : w'.ownsRow base 5 1 v' m (bs xs ++ [.int .u8 k])) (hm : m = xs.length + 1) (h0 : 0 ≤ k) (h1 : k ≤ 255) : Ow base w' v' (xs ++ fx k 1 1) := by
  subst hm
  unfold Ow
  have e := bs_step k 1 0 0 k (by omega) (by omega)
  rw [bs_append, List.length_append, fx_length]
  rw [show fx k 1 (0 + 1) = fx k 1 1 from rfl] at e
  rw [e]
  simpa [fx, bs] using ho
/-- a text put behind what the call owns, at a step of a drawn order -/
theorem step_append_string {P : Program} (w : World) {ops : Array Oper} {o : Oper} {a : Act} {K : Act → World → Prop} {Q : Exit → Act → World → Prop} {E : Prop} (hgd : o.guard = none) (sl x : Operand) (t u : TypeId)
    (ho : o.op = .call { callee := .builtin .append, args := #[sl, x], argTypes := #[t, u] })
    (base : Nat) (e : TypeId) (i : TypeInfo) (ht : P.underlying t = some (.slice e)) (hu : P.underlying u = some .string) (hi : P.info? e = some i) (hz : i.zero = some (.int .u8 0))
    (hsize : i.size = 1) (hby : i.bytes = 1)
    (v : Value) (n : Nat) (xs : List Value) (hs : a.eval sl = v) (hown : w.ownsRow base e 1 v n xs) (s : ByteArray) (hx : a.eval x = .string s)
    (h63 : n + s.size ≤ maxLen) (hbytes : n + s.size ≤ 140737488355328) (hbase : base ≤ w.heap.size)
    (h : ∀ v' w', w'.ownsRow base e 1 v' (n + s.size) (xs ++ Lib.strCells s) → w.grownBy w' v.ownBlock → K (a.put o.dst v') w') :
    if Region.wanted o (yielded ops a.tmps) = true then Oper.wp P o a w K Q else E := by
  have hw : Region.wanted o (yielded ops a.tmps) = true := by simp [Region.wanted, hgd]
  rw [if_pos hw]
  obtain ⟨v', w', hr, h2, h3, h4⟩ := Lib.run_append_own_string (P := P) w base t u o.type e i ht hu hi hz hsize hby v n xs hown s h63 hbytes hbase
  unfold Oper.wp execOp
  simp only [ho, resolve, invoke, builtin, Sem.run_bind, Sem.run_pure, Result.andThen_ok, List.map_toArray, List.map_cons, List.map_nil, hs, hx, hr]
  exact h v' w' h2 h3

theorem bs_fx1 (n : Int) (h0 : 0 ≤ n) (h1 : n ≤ 255) : bs (fx n 1 1) = [.int .u8 n] := by
  have h : ((bt n 0).toNat : Int) = n := by have := bt_toNat n 0; simp at this; omega
  show [Value.int .u8 ((bt n 0).toNat : Int)] = _
  rw [h]
theorem bs_fx2 (n : Int) (h0 : 0 ≤ n) (h1 : n ≤ 65535) : bs (fx n 2 2) = [.int .u8 (n / 256), .int .u8 (n % 256)] := by
  have h : ((bt n 0).toNat : Int) = n % 256 := by have := bt_toNat n 0; simpa using this
  have h1 : ((bt n 1).toNat : Int) = n / 256 % 256 := bt_toNat n 1
  have h2 : n / 256 % 256 = n / 256 := by omega
  show [Value.int .u8 ((bt n 1).toNat : Int), .int .u8 ((bt n 0).toNat : Int)] = _
  rw [h, h1, h2]
theorem or_told (n : Nat) (h : n ≤ 1200) : bits .or .i64 16384 (n : Int) = (n : Int) + 16384 := by rw [or_swap, or_two _ (by omega) (by omega)]
/-- a row that was put behind: what is owned now, and what is as it was -/
theorem put_some {base : Nat} {w w' : World} {v : Value} {xs ys : List UInt8} {g cap m : Nat} {o : Obj} {news : List Value} (h : Ow base w v xs) (ho : w'.ownsRow base 5 1 (.slice (some ⟨g, 0, none⟩) m cap) m (bs xs ++ news)) (hg : (w.alloc o).grownBy w' v.ownBlock) (hm : m = xs.length + ys.length) (hn : news = bs ys) (hb : base ≤ w.heap.size) :
    Ow base w' (.slice (some ⟨g, 0, none⟩) m cap) (xs ++ ys) ∧ Below base w w' ∧ Kn w w' := by
  subst hn
  refine ⟨ow_news ho hm, ((Below.refl _ _).alloc hb _).trans ((h.alloc o).below hg (by simp; omega)), ?_⟩
  exact fun i cur t fr hi ht => (h.alloc o).kn hg i cur t fr (heap_old w o i _ hi) ht
theorem put_text {base : Nat} {w w' : World} {v v' : Value} {xs : List UInt8} {s : ByteArray} {m : Nat} (h : Ow base w v xs) (ho : w'.ownsRow base 5 1 v' m (bs xs ++ Lib.strCells s)) (hg : w.grownBy w' v.ownBlock) (hm : m = xs.length + s.size) (hb : base ≤ w.heap.size) :
    Ow base w' v' (xs ++ s.data.toList) ∧ Below base w w' ∧ Kn w w' := ⟨ow_text h ho hm, h.below hg hb, h.kn hg⟩

set_option maxHeartbeats 2000000 in
theorem appendPayload_ow (v : Value) (xs : List UInt8) (p : ByteArray) (w : World) (base : Nat) (h : Ow base w v xs) (hbase : base ≤ w.heap.size) (hlen : xs.length ≤ 1048576) (hp : p.size ≤ 1200) :
    Calls Tryd.prog 39 #[v, .string p] w fun e w' => ∃ v', e = .returned v' ∧ Ow base w' v' (xs ++ (fx ((p.size : Int) + 16384) 2 2 ++ p.data.toList)) ∧ Below base w w' ∧ Kn w w' := by
  obtain ⟨i0, hi, hz0, hz1, hz2⟩ := info_parts Tryd.info5
  have et := or_told p.size hp
  have HO := hide h
  clear h
  go_enter Tryd.func39, Tryd.ntmps39
  go_wp2_with (at_builtin; refine wpList_append_lies _ rfl _ _ 22 rfl base 5 i0 (.int .u8 0) 1 1 Tryd.underlying22 hi hz0 hz1 hz2 rfl (by decide) _ _ _ rfl ((unhide HO).alloc _) ⟨w.heap.size, 0, none⟩ 2 2 [.int .u8 (((p.size : Int) + 16384) / 256), .int .u8 (((p.size : Int) + 16384) % 256)] rfl rfl ?c1 ?c2 (by omega) ?c3 ?c4 ?c5 (w.heap.size + 1) (by simp) ?_)
  case c1 =>
    intro j u hj
    match j, hj with
    | 0, hj => simp at hj; subst hj; simp [Addr.add]
    | 1, hj => simp at hj; subst hj; simp [Addr.add]
  case c2 => intro u hu; simp at hu; rcases hu with rfl | rfl <;> rfl
  case c3 => unfold maxLen; omega
  case c4 => omega
  case c5 => simp; omega
  intro g1 cap1 w1 ho1 hg1 hat1 hlt1
  obtain ⟨O1, B1, K1⟩ := put_some (ys := fx ((p.size : Int) + 16384) 2 2) (unhide HO) ho1 hg1 (by rw [fx_length]) (bs_fx2 _ (by omega) (by omega)).symm hbase
  have s1 := B1.size
  clear ho1 hg1 hat1
  have hl1 := fx_length ((p.size : Int) + 16384) 2 2
  go_wp2_with (at_builtin; refine Lib.wpList_append_own_string _ rfl _ _ 22 9 rfl base 5 i0 Tryd.underlying22 Tryd.underlying9 hi hz0 hz1 hz2 _ _ _ rfl O1 p rfl ?d1 ?d2 ?d3 ?_)
  case d1 => rw [List.length_append]; unfold maxLen; omega
  case d2 => rw [List.length_append]; omega
  case d3 => omega
  intro v2 w2 ho2 hg2 _
  obtain ⟨O2, B2, K2⟩ := put_text O1 ho2 hg2 (by rw [List.length_append, hl1]) (by omega)
  rw [List.append_assoc] at O2
  clear ho2 hg2 O1
  go_wp2
  go_ret
  exact ⟨_, rfl, O2, B1.trans B2, K1.trans K2⟩

/-- block q holds the header -/
abbrev Hb (q : Nat) (f bi ve : Int) (d s t p : ByteArray) (ra : Option Addr) (n cap : Nat) (W : World) : Prop :=
  W.heap[q]? = some (.cells #[.int .i64 f, .int .i64 bi, .int .i64 ve, .string d, .string s, .string t, .string p, .slice ra n cap] 25 (0, 0))
/-- .. and so do its cells -/
abbrev Sh (q : Nat) (f bi ve : Int) (d s t p : ByteArray) (ra : Option Addr) (n cap : Nat) (W : World) : Prop :=
  W.cell? ⟨q, 0, none⟩ = some (.int .i64 f) ∧ W.cell? ⟨q, 1, none⟩ = some (.int .i64 bi) ∧ W.cell? ⟨q, 2, none⟩ = some (.int .i64 ve) ∧ W.cell? ⟨q, 3, none⟩ = some (.string d) ∧
  W.cell? ⟨q, 4, none⟩ = some (.string s) ∧ W.cell? ⟨q, 5, none⟩ = some (.string t) ∧ W.cell? ⟨q, 6, none⟩ = some (.string p) ∧ W.cell? ⟨q, 7, none⟩ = some (.slice ra n cap) ∧ q < W.heap.size
section
variable {q : Nat} {f bi ve : Int} {d s t p : ByteArray} {ra : Option Addr} {n cap : Nat} {W : World}
theorem sh_mk (h : Hb q f bi ve d s t p ra n cap W) : Sh q f bi ve d s t p ra n cap W :=
  ⟨cell_in h 0, cell_in h 1, cell_in h 2, cell_in h 3, cell_in h 4, cell_in h 5, cell_in h 6, cell_in h 7, World.block_lt_of_cell? W ⟨q, 0, none⟩ (cell_in h 0)⟩
theorem sh_alloc (o : Obj) (h : Sh q f bi ve d s t p ra n cap W) : Sh q f bi ve d s t p ra n cap (W.alloc o) := by
  obtain ⟨h0, h1, h2, h3, h4, h5, h6, h7, hl⟩ := h
  have k := (Below.refl W.heap.size W).alloc (Nat.le_refl _) o
  exact ⟨(k.cell (p := ⟨q, 0, none⟩) hl).trans h0, (k.cell (p := ⟨q, 1, none⟩) hl).trans h1, (k.cell (p := ⟨q, 2, none⟩) hl).trans h2, (k.cell (p := ⟨q, 3, none⟩) hl).trans h3, (k.cell (p := ⟨q, 4, none⟩) hl).trans h4, (k.cell (p := ⟨q, 5, none⟩) hl).trans h5, (k.cell (p := ⟨q, 6, none⟩) hl).trans h6, (k.cell (p := ⟨q, 7, none⟩) hl).trans h7, Nat.lt_of_lt_of_le hl k.size⟩
end

set_option maxRecDepth 100000 in
set_option maxHeartbeats 2000000 in
theorem appendAddress_ow (v : Value) (xs : List UInt8) (f bi ve : Int) (d s t p : ByteArray) (ra : Option Addr) (n cap : Nat) (w : World) (base : Nat) (h : Ow base w v xs) (hbase : base ≤ w.heap.size) (hlen : xs.length ≤ 1000000) (hd : d.size ≤ 20) (hs : s.size ≤ 20) (hv0 : 0 ≤ ve) (hv1 : ve ≤ 4294967295) :
    Calls Tryd.prog 38 #[v, hv f bi ve d s t p ra n cap] w fun e w' => ∃ v', e = .returned v' ∧ Ow base w' v' (xs ++ (fx ve 4 4 ++ (fx (d.size : Int) 1 1 ++ (d.data.toList ++ (fx (s.size : Int) 1 1 ++ s.data.toList))))) ∧ Below base w w' ∧ Kn w w' := by
  obtain ⟨i0, hi, hz0, hz1, hz2⟩ := info_parts Tryd.info5
  have wd : IntKind.u8.wrap (d.size : Int) = d.size := by rw [IntKind.wrap_u8]; omega
  have ws : IntKind.u8.wrap (s.size : Int) = s.size := by rw [IntKind.wrap_u8]; omega
  have HO := hide h
  clear h
  go_enter Tryd.func38, Tryd.ntmps38
  go_wp2_with fail
  have O0 := ((unhide HO).alloc (.cells #[.int .i64 f, .int .i64 bi, .int .i64 ve, .string d, .string s, .string t, .string p, .slice ra n cap] 25)).alloc (.cells #[.int .i64 ve] 3)
  have P0 := heap_new (w.alloc (.cells #[.int .i64 f, .int .i64 bi, .int .i64 ve, .string d, .string s, .string t, .string p, .slice ra n cap] 25)) (.cells #[.int .i64 ve] 3)
  rw [World.size_alloc] at P0
  have Q0 := heap_old _ (.cells #[.int .i64 ve] 3) _ _ (heap_new w (.cells #[.int .i64 f, .int .i64 bi, .int .i64 ve, .string d, .string s, .string t, .string p, .slice ra n cap] 25))
  refine (appendWords_ow v xs (w.heap.size + 1) 0 1 1 (fun _ => ve) _ base O0 (by simp; omega) (by omega) (by omega) (fun W u hg i hi => by
    obtain rfl : i = 0 := by omega
    exact cell_in (hg.keep P0 (O0.far P0 (by decide))) 0) (fun i hi => ⟨hv0, hv1⟩)).mono ?_
  rintro e w1 ⟨v1, rfl, o1, g1⟩
  have F1 : Hb w.heap.size f bi ve d s t p ra n cap w1 := g1.keep Q0 (O0.far Q0 (by decide))
  have B1 : Below base w w1 := (((Below.refl _ _).alloc hbase _).alloc (by simp; omega) _).trans (g1.below O0 (by simp; omega))
  have K1 : Kn w w1 := fun i cur t fr hi ht => O0.kn g1.grown i cur t fr (heap_old _ _ i _ (heap_old w _ i _ hi)) ht
  have o1' : Ow base w1 v1 (xs ++ fx ve 4 4) := o1
  have N1 : base ≤ w1.heap.size := Nat.le_trans hbase B1.size
  clear O0 P0 Q0 g1 o1
  have L1 : (xs ++ fx ve 4 4).length = xs.length + 4 := by rw [List.length_append, fx_length]
  have HO1 := hide o1'
  have HF1 := hide F1
  have HOb := hide (Ow.drew (Ow.alloc o1' (.cells #[.int .u8 (d.size : Int)] 5)))
  have HKb := hide (heap_drew' (heap_new w1 (.cells #[.int .u8 (d.size : Int)] 5)))
  have HFb := hide (heap_drew' (heap_old w1 (.cells #[.int .u8 (d.size : Int)] 5) _ _ F1))
  have HBb := hide ((B1.alloc N1 (.cells #[.int .u8 (d.size : Int)] 5)).drew)
  have HKn := hide (fun i cur t fr hi ht => heap_drew' (heap_old w1 (.cells #[.int .u8 (d.size : Int)] 5) i _ (K1 i cur t fr hi ht)))
  clear K1
  obtain ⟨c0, c1, c2, c3, c4, c5, c6, c7, c8⟩ := sh_mk F1
  clear F1 o1'
  go_wp2_with fail
  go_region_held3 (fun W => Sh w.heap.size f bi ve d s t p ra n cap W) (first | assumption | exact sh_mk F3 | exact sh_mk F2 | exact sh_alloc _ (by assumption) | exact sh_mk (unhide HF1)) (first | (refine step_append_lies _ rfl _ _ 22 rfl base 5 i0 (.int .u8 0) 1 1 Tryd.underlying22 hi hz0 hz1 hz2 rfl (by decide) _ _ _ rfl (unhide HOb) ⟨w1.heap.size, 0, none⟩ 1 1 [.int .u8 (d.size : Int)] rfl rfl (World.news_of_block (unhide HKb)) (by intro u hu; simp at hu; subst hu; rfl) (by omega) (by unfold maxLen; omega) (by omega) (by simp; omega) _ rfl ?_; intro g2 cap2 w2 ho2 hg2 hat2 hlt2; have F2 := Ow.kn (unhide HOb) hg2 _ _ _ _ (unhide HFb) (by decide); have o2 := ow_byte ho2 rfl (by omega) (by omega); have B2 : Below base w w2 := (unhide HBb).trans (Ow.below (unhide HOb) hg2 (by simp; omega)); have K2 : Kn w w2 := (fun i cur t fr hi ht => Ow.kn (unhide HOb) hg2 i cur t fr (unhide HKn i cur t fr hi ht) ht)) | (refine step_append_string _ rfl _ _ 22 9 rfl base 5 i0 Tryd.underlying22 Tryd.underlying9 hi hz0 hz1 hz2 _ _ _ rfl o2 d rfl (by rw [List.length_append, L1, fx_length]; unfold maxLen; omega) (by rw [List.length_append, L1, fx_length]; omega) (Nat.le_trans hbase B2.size) ?_; intro v3 w3 ho3 hg3; have o3 := ow_text o2 ho3 rfl; have F3 := Ow.kn o2 hg3 _ _ _ _ F2 (by decide); have B3 : Below base w w3 := B2.trans (Ow.below o2 hg3 (Nat.le_trans hbase B2.size)); have K3 : Kn w w3 := K2.trans (Ow.kn o2 hg3)))
  all_goals
    have N3 : base ≤ w3.heap.size := Nat.le_trans hbase B3.size
    have L3 : (xs ++ fx ve 4 4 ++ fx (d.size : Int) 1 1 ++ d.data.toList).length = xs.length + 5 + d.size := by rw [List.length_append, List.length_append, L1, fx_length, show d.data.toList.length = d.size by simp]
    have HF3 := hide F3
    have HOc := hide (Ow.drew (Ow.alloc o3 (.cells #[.int .u8 (s.size : Int)] 5)))
    have HKc := hide (heap_drew' (heap_new w3 (.cells #[.int .u8 (s.size : Int)] 5)))
    have HFc := hide (heap_drew' (heap_old w3 (.cells #[.int .u8 (s.size : Int)] 5) _ _ F3))
    have HBc := hide ((B3.alloc N3 (.cells #[.int .u8 (s.size : Int)] 5)).drew)
    have HKm := hide (fun i cur t fr hi ht => heap_drew' (heap_old w3 (.cells #[.int .u8 (s.size : Int)] 5) i _ (K3 i cur t fr hi ht)))
    obtain ⟨d0, d1, d2, d3, d4, d5, d6, d7, d8⟩ := sh_mk F3
    clear HO1 HF1 HOb HKb HFb HBb HKn ho2 hg2 hat2 hlt2 F2 o2 B2 K2 ho3 hg3 o3 F3 K3
    go_wp2_with fail
    go_region_held3 (fun W => Sh w.heap.size f bi ve d s t p ra n cap W) (first | assumption | exact sh_mk F5 | exact sh_mk F4 | exact sh_alloc _ (by assumption) | exact sh_mk (unhide HF3)) (first | (refine step_append_lies _ rfl _ _ 22 rfl base 5 i0 (.int .u8 0) 1 1 Tryd.underlying22 hi hz0 hz1 hz2 rfl (by decide) _ _ _ rfl (unhide HOc) ⟨w3.heap.size, 0, none⟩ 1 1 [.int .u8 (s.size : Int)] rfl rfl (World.news_of_block (unhide HKc)) (by intro u hu; simp at hu; subst hu; rfl) (by omega) (by unfold maxLen; omega) (by omega) (by simp; omega) _ rfl ?_; intro g4 cap4 w4 ho4 hg4 hat4 hlt4; have F4 := Ow.kn (unhide HOc) hg4 _ _ _ _ (unhide HFc) (by decide); have o4 := ow_byte ho4 rfl (by omega) (by omega); have B4 : Below base w w4 := (unhide HBc).trans (Ow.below (unhide HOc) hg4 (by simp; omega)); have K4 : Kn w w4 := (fun i cur t fr hi ht => Ow.kn (unhide HOc) hg4 i cur t fr (unhide HKm i cur t fr hi ht) ht)) | (refine step_append_string _ rfl _ _ 22 9 rfl base 5 i0 Tryd.underlying22 Tryd.underlying9 hi hz0 hz1 hz2 _ _ _ rfl o4 s rfl (by rw [List.length_append, L3, fx_length]; unfold maxLen; omega) (by rw [List.length_append, L3, fx_length]; omega) (Nat.le_trans hbase B4.size) ?_; intro v5 w5 ho5 hg5; have o5 := ow_text o4 ho5 rfl; have F5 := Ow.kn o4 hg5 _ _ _ _ F4 (by decide); have B5 : Below base w w5 := B4.trans (Ow.below o4 hg5 (Nat.le_trans hbase B4.size)); have K5 : Kn w w5 := K4.trans (Ow.kn o4 hg5)))
    all_goals
      have O5 : Ow base w5 v5 (xs ++ (fx ve 4 4 ++ (fx (d.size : Int) 1 1 ++ (d.data.toList ++ (fx (s.size : Int) 1 1 ++ s.data.toList))))) := by simpa [List.append_assoc] using o5
      clear o5 ho5 hg5 ho4 hg4 o4
      go_wp2
      go_ret
      exact ⟨_, rfl, O5, B5, K5⟩
end Go.Proofs.YtgjohakjknmngaaDoor
namespace Go.Proofs.YtgjohakjknmngaaDoor
open Go.ChangeShapes Go.WideShapes Go.ChangeAt Go.RowKit
set_option linter.unusedVariables false
set_option maxRecDepth 100000

/-- a number's bytes, as a text -/
def VB (n : Int) : ByteArray := ⟨(vb n).toArray⟩
theorem VB_le (n : Int) : (VB n).size ≤ 8 := by
  have h1 := vb_length n
  have h2 := vsz_le n
  have : (VB n).size = (vb n).length := by simp [VB, ByteArray.size]
  omega
theorem VB_list (n : Int) : (VB n).data.toList = vb n := rfl
theorem var_VB (n : Int) (w : World) (h0 : 0 ≤ n) (h1 : n ≤ 4611686018427387903) :
    Calls Tryd.prog 36 #[.int .i64 n] w fun e w' => e = .returned (.string (VB n)) ∧ Below w.heap.size w w' := l1Var_any n w h0 h1
/-- M bytes of a number, as a text -/
def FX (n : Int) (M : Nat) : ByteArray := ⟨(fx n M M).toArray⟩
theorem FX_size (n : Int) (M : Nat) : (FX n M).size = M := by simp [FX, ByteArray.size, fx_length]
theorem FX_list (n : Int) (M : Nat) : (FX n M).data.toList = fx n M M := rfl
theorem fix1 (n : Int) (w : World) (hn : -9223372036854775808 ≤ n ∧ n ≤ 9223372036854775807) :
    Calls Tryd.prog 35 #[.int .i64 n, .int .i64 1] w fun e w' => e = .returned (.string (FX n 1)) ∧ Below w.heap.size w w' := l1Fixed_any n 1 w (by omega) hn
theorem fix2 (n : Int) (w : World) (hn : -9223372036854775808 ≤ n ∧ n ≤ 9223372036854775807) :
    Calls Tryd.prog 35 #[.int .i64 n, .int .i64 2] w fun e w' => e = .returned (.string (FX n 2)) ∧ Below w.heap.size w w' := l1Fixed_any n 2 w (by omega) hn
theorem fix4 (n : Int) (w : World) (hn : -9223372036854775808 ≤ n ∧ n ≤ 9223372036854775807) :
    Calls Tryd.prog 35 #[.int .i64 n, .int .i64 4] w fun e w' => e = .returned (.string (FX n 4)) ∧ Below w.heap.size w w' := l1Fixed_any n 4 w (by omega) hn
theorem id_any (s : ByteArray) (w : World) (hs : s.size ≤ 1048576) :
    Calls Tryd.prog 34 #[.string s] w fun e w' => e = .returned (.string (FX s.size 1 ++ s)) ∧ Below w.heap.size w w' := by
  have z := FX_size s.size 1
  have ad := fun W : World => run_string_add_sum (P := Tryd.prog) (w := W) (FX s.size 1) s (by omega)
  go_enter Tryd.func34, Tryd.ntmps34
  go_wp2_with (go_at_call 35; refine (fix1 _ _ (by omega)).mono ?_; rintro e w1 ⟨rfl, hb1⟩)
  go_ret
  exact ⟨rfl, hb1⟩

/-- What holds of the world as long as the header's own copy (the first new block) stands. -/
abbrev Bh (w : World) (f bi ve : Int) (d s t p : ByteArray) (ra : Option Addr) (n cap : Nat) (W : World) : Prop :=
  W.cell? ⟨w.heap.size, 0, none⟩ = some (.int .i64 f) ∧ W.cell? ⟨w.heap.size, 1, none⟩ = some (.int .i64 bi) ∧ W.cell? ⟨w.heap.size, 2, none⟩ = some (.int .i64 ve) ∧ W.cell? ⟨w.heap.size, 3, none⟩ = some (.string d) ∧
  W.cell? ⟨w.heap.size, 4, none⟩ = some (.string s) ∧ W.cell? ⟨w.heap.size, 5, none⟩ = some (.string t) ∧ W.cell? ⟨w.heap.size, 6, none⟩ = some (.string p) ∧ W.cell? ⟨w.heap.size, 7, none⟩ = some (.slice ra n cap) ∧ w.heap.size < W.heap.size ∧ Below w.heap.size w W
section
variable {w : World} {f bi ve : Int} {d s t p : ByteArray} {ra : Option Addr} {n cap : Nat} {W W' : World}
theorem bh_step (hb : Below W.heap.size W W') (h : Bh w f bi ve d s t p ra n cap W) : Bh w f bi ve d s t p ra n cap W' := by
  obtain ⟨h0, h1, h2, h3, h4, h5, h6, h7, hl, h8⟩ := h
  exact ⟨(hb.cell (p := ⟨w.heap.size, 0, none⟩) hl).trans h0, (hb.cell (p := ⟨w.heap.size, 1, none⟩) hl).trans h1, (hb.cell (p := ⟨w.heap.size, 2, none⟩) hl).trans h2, (hb.cell (p := ⟨w.heap.size, 3, none⟩) hl).trans h3, (hb.cell (p := ⟨w.heap.size, 4, none⟩) hl).trans h4, (hb.cell (p := ⟨w.heap.size, 5, none⟩) hl).trans h5, (hb.cell (p := ⟨w.heap.size, 6, none⟩) hl).trans h6, (hb.cell (p := ⟨w.heap.size, 7, none⟩) hl).trans h7, Nat.lt_of_lt_of_le hl hb.size, h8.trans (hb.mono (Nat.le_of_lt hl))⟩
theorem bh_drew (h : Bh w f bi ve d s t p ra n cap W) : Bh w f bi ve d s t p ra n cap W.drew := by
  obtain ⟨h0, h1, h2, h3, h4, h5, h6, h7, hl, h8⟩ := h
  exact ⟨h0, h1, h2, h3, h4, h5, h6, h7, hl, h8.drew⟩
theorem bh_first (ty : TypeId) : Bh w f bi ve d s t p ra n cap (w.alloc (.cells #[.int .i64 f, .int .i64 bi, .int .i64 ve, .string d, .string s, .string t, .string p, .slice ra n cap] ty)) := by
  refine ⟨?_, ?_, ?_, ?_, ?_, ?_, ?_, ?_, ?_, (Below.refl _ _).alloc (Nat.le_refl _) _⟩ <;> simp
end
theorem or64 (bi : Int) (h0 : 0 ≤ bi) (h1 : bi ≤ 15) : bits .or .i64 64 bi = 64 + bi := or_pow 6 64 bi (by omega) (by decide) (by omega) h0 (by omega) (by omega)
theorem or_m (m bi : Int) (h0 : 0 ≤ bi) (h1 : bi ≤ 15) (hm : 0 ≤ m) (hm1 : m ≤ 255) (hm2 : m % 16 = 0) : bits .or .i64 m bi = m + bi := or_pow 4 m bi hm (by omega) (by omega) h0 (by omega) (by omega)

set_option maxRecDepth 100000 in
set_option maxHeartbeats 4000000 in
theorem l2Bytes_5 (bi ve : Int) (d s t p : ByteArray) (ra : Option Addr) (n cap : Nat) (w : World) (hd : d.size ≤ 20) (hs : s.size ≤ 20) (ht : t.size ≤ 200) (hp : p.size ≤ 1200) (b0 : 0 ≤ bi) (b1 : bi ≤ 15) :
    Calls Tryd.prog 20 #[hv 5 bi ve d s t p ra n cap] w fun e w' => e = .returned (.string (FX (64 + bi) 1 ++ d ++ p)) ∧ Below w.heap.size w w' := by
  have ad0 := fun W : World => run_string_add_sum (P := Tryd.prog) (w := W) (FX (64 + bi) 1) (d) (by simp only [FX_size]; omega)
  have ad1 := fun W : World => run_string_add_sum (P := Tryd.prog) (w := W) (FX (64 + bi) 1 ++ d) (p) (by simp only [ByteArray.size_append, FX_size]; omega)
  have e1 := or64 bi b0 b1
  have HA := hide (fun W => fix1 (64 + bi) W (by omega))
  have HD := hide (fun W => id_any d W (by omega))
  have HE := hide (fun W => id_any s W (by omega))
  have X0 := hide (bh_first (w := w) (f := 5) (bi := bi) (ve := ve) (d := d) (s := s) (t := t) (p := p) (ra := ra) (n := n) (cap := cap) 25)
  obtain ⟨c0, c1, c2, c3, c4, c5, c6, c7, c8, c9⟩ := unhide X0
  clear c9
  go_enter Tryd.func20, Tryd.ntmps20
  go_wp2_with fail
  go_region_held3 (fun W => Bh w 5 bi ve d s t p ra n cap W) (first | assumption | exact bh_step hb1 (by assumption) | exact bh_drew (unhide X0) | exact unhide X0) (first | (go_at_call 35; with_reducible refine (unhide HA _).mono ?_; rintro e w1 ⟨rfl, hb1⟩) | (go_at_call 34; with_reducible refine (unhide HD _).mono ?_; rintro e w1 ⟨rfl, hb1⟩) | (go_at_call 34; with_reducible refine (unhide HE _).mono ?_; rintro e w1 ⟨rfl, hb1⟩))
  all_goals
    rename_i hHeld
    clear X0
    go_wp2
    go_ret
    exact ⟨rfl, hHeld.2.2.2.2.2.2.2.2.2⟩
set_option maxRecDepth 100000 in
set_option maxHeartbeats 4000000 in
theorem l2Bytes_3 (bi ve : Int) (d s t p : ByteArray) (ra : Option Addr) (n cap : Nat) (w : World) (hd : d.size ≤ 20) (hs : s.size ≤ 20) (ht : t.size ≤ 200) (hp : p.size ≤ 1200) (b0 : 0 ≤ bi) (b1 : bi ≤ 15) (v0 : 0 ≤ ve) (v1 : ve ≤ 4294967295) :
    Calls Tryd.prog 20 #[hv 3 bi ve d s t p ra n cap] w fun e w' => e = .returned (.string (FX (240 + bi) 1 ++ FX ve 4 ++ (FX d.size 1 ++ d) ++ (FX s.size 1 ++ s) ++ p)) ∧ Below w.heap.size w w' := by
  have ad0 := fun W : World => run_string_add_sum (P := Tryd.prog) (w := W) (FX (240 + bi) 1) (FX ve 4) (by simp only [FX_size]; omega)
  have ad1 := fun W : World => run_string_add_sum (P := Tryd.prog) (w := W) (FX (240 + bi) 1 ++ FX ve 4) (FX d.size 1 ++ d) (by simp only [ByteArray.size_append, FX_size]; omega)
  have ad2 := fun W : World => run_string_add_sum (P := Tryd.prog) (w := W) (FX (240 + bi) 1 ++ FX ve 4 ++ (FX d.size 1 ++ d)) (FX s.size 1 ++ s) (by simp only [ByteArray.size_append, FX_size]; omega)
  have ad3 := fun W : World => run_string_add_sum (P := Tryd.prog) (w := W) (FX (240 + bi) 1 ++ FX ve 4 ++ (FX d.size 1 ++ d) ++ (FX s.size 1 ++ s)) (p) (by simp only [ByteArray.size_append, FX_size]; omega)
  have e0 : bits .or .i64 192 (IntKind.i64.wrap 48) = 240 := by decide +kernel
  have e1 := or_m 240 bi b0 b1 (by omega) (by omega) (by omega)
  have e2 : bits .or .i64 (p.size : Int) 16384 = (p.size : Int) + 16384 := or_two _ (by omega) (by omega)
  have HA := hide (fun W => fix1 (240 + bi) W (by omega))
  have HD := hide (fun W => id_any d W (by omega))
  have HE := hide (fun W => id_any s W (by omega))
  have HV := hide (fun W => fix4 ve W (by omega))
  have X0 := hide (bh_first (w := w) (f := 3) (bi := bi) (ve := ve) (d := d) (s := s) (t := t) (p := p) (ra := ra) (n := n) (cap := cap) 25)
  obtain ⟨c0, c1, c2, c3, c4, c5, c6, c7, c8, c9⟩ := unhide X0
  clear c9
  go_enter Tryd.func20, Tryd.ntmps20
  go_wp2_with fail
  go_region_held3 (fun W => Bh w 3 bi ve d s t p ra n cap W) (first | assumption | exact bh_step hb1 (by assumption) | exact bh_drew (unhide X0) | exact unhide X0) (first | (go_at_call 35; with_reducible refine (unhide HA _).mono ?_; rintro e w1 ⟨rfl, hb1⟩) | (go_at_call 34; with_reducible refine (unhide HD _).mono ?_; rintro e w1 ⟨rfl, hb1⟩) | (go_at_call 34; with_reducible refine (unhide HE _).mono ?_; rintro e w1 ⟨rfl, hb1⟩) | (go_at_call 35; with_reducible refine (unhide HV _).mono ?_; rintro e w1 ⟨rfl, hb1⟩))
  all_goals
    rename_i hHeld
    have X1 := hide hHeld
    obtain ⟨d0, d1, d2, d3, d4, d5, d6, d7, d8, d9⟩ := hHeld
    clear X0 d9
    clear c0 c1 c2 c3 c4 c5 c6 c7 c8
    go_wp2
    go_ret
    exact ⟨rfl, (unhide X1).2.2.2.2.2.2.2.2.2⟩

set_option maxRecDepth 100000 in
set_option maxHeartbeats 4000000 in
theorem l2Bytes_1 (bi ve : Int) (d s t p : ByteArray) (ra : Option Addr) (n cap : Nat) (w : World) (hd : d.size ≤ 20) (hs : s.size ≤ 20) (ht : t.size ≤ 200) (hp : p.size ≤ 1200) (b0 : 0 ≤ bi) (b1 : bi ≤ 15) (v0 : 0 ≤ ve) (v1 : ve ≤ 4294967295) :
    Calls Tryd.prog 20 #[hv 1 bi ve d s t p ra n cap] w fun e w' => e = .returned (.string (FX (208 + bi) 1 ++ FX ve 4 ++ (FX d.size 1 ++ d) ++ (FX s.size 1 ++ s) ++ FX ((p.size : Int) + 16384) 2 ++ p)) ∧ Below w.heap.size w w' := by
  have ad0 := fun W : World => run_string_add_sum (P := Tryd.prog) (w := W) (FX (208 + bi) 1) (FX ve 4) (by simp only [FX_size]; omega)
  have ad1 := fun W : World => run_string_add_sum (P := Tryd.prog) (w := W) (FX (208 + bi) 1 ++ FX ve 4) (FX d.size 1 ++ d) (by simp only [ByteArray.size_append, FX_size]; omega)
  have ad2 := fun W : World => run_string_add_sum (P := Tryd.prog) (w := W) (FX (208 + bi) 1 ++ FX ve 4 ++ (FX d.size 1 ++ d)) (FX s.size 1 ++ s) (by simp only [ByteArray.size_append, FX_size]; omega)
  have ad3 := fun W : World => run_string_add_sum (P := Tryd.prog) (w := W) (FX (208 + bi) 1 ++ FX ve 4 ++ (FX d.size 1 ++ d) ++ (FX s.size 1 ++ s)) (FX ((p.size : Int) + 16384) 2) (by simp only [ByteArray.size_append, FX_size]; omega)
  have ad4 := fun W : World => run_string_add_sum (P := Tryd.prog) (w := W) (FX (208 + bi) 1 ++ FX ve 4 ++ (FX d.size 1 ++ d) ++ (FX s.size 1 ++ s) ++ FX ((p.size : Int) + 16384) 2) (p) (by simp only [ByteArray.size_append, FX_size]; omega)
  have e0 : bits .or .i64 192 (IntKind.i64.wrap 16) = 208 := by decide +kernel
  have e1 := or_m 208 bi b0 b1 (by omega) (by omega) (by omega)
  have e2 : bits .or .i64 (p.size : Int) 16384 = (p.size : Int) + 16384 := or_two _ (by omega) (by omega)
  have HA := hide (fun W => fix1 (208 + bi) W (by omega))
  have HD := hide (fun W => id_any d W (by omega))
  have HE := hide (fun W => id_any s W (by omega))
  have HV := hide (fun W => fix4 ve W (by omega))
  have HP := hide (fun W => fix2 ((p.size : Int) + 16384) W (by omega))
  have X0 := hide (bh_first (w := w) (f := 1) (bi := bi) (ve := ve) (d := d) (s := s) (t := t) (p := p) (ra := ra) (n := n) (cap := cap) 25)
  obtain ⟨c0, c1, c2, c3, c4, c5, c6, c7, c8, c9⟩ := unhide X0
  clear c9
  go_enter Tryd.func20, Tryd.ntmps20
  go_wp2_with fail
  go_region_held3 (fun W => Bh w 1 bi ve d s t p ra n cap W) (first | assumption | exact bh_step hb1 (by assumption) | exact bh_drew (unhide X0) | exact unhide X0) (first | (go_at_call 35; with_reducible refine (unhide HA _).mono ?_; rintro e w1 ⟨rfl, hb1⟩) | (go_at_call 34; with_reducible refine (unhide HD _).mono ?_; rintro e w1 ⟨rfl, hb1⟩) | (go_at_call 34; with_reducible refine (unhide HE _).mono ?_; rintro e w1 ⟨rfl, hb1⟩) | (go_at_call 35; with_reducible refine (unhide HV _).mono ?_; rintro e w1 ⟨rfl, hb1⟩) | (go_at_call 35; with_reducible refine (unhide HP _).mono ?_; rintro e w1 ⟨rfl, hb1⟩))
  all_goals
    rename_i hHeld
    have X1 := hide hHeld
    obtain ⟨d0, d1, d2, d3, d4, d5, d6, d7, d8, d9⟩ := hHeld
    clear X0 d9
    clear c0 c1 c2 c3 c4 c5 c6 c7 c8
    go_wp2_with (go_at_call 35; with_reducible refine (unhide HP _).mono ?_; rintro e w2 ⟨rfl, hb2⟩; have X3 := hide (bh_step hb2 (unhide X1)); obtain ⟨g0, g1, g2, g3, g4, g5, g6, g7, g8, g9⟩ := unhide X3; clear g9)
    go_ret
    exact ⟨rfl, (unhide X3).2.2.2.2.2.2.2.2.2⟩

set_option maxRecDepth 100000 in
set_option maxHeartbeats 4000000 in
theorem l2Bytes_2 (bi ve : Int) (d s t p : ByteArray) (ra : Option Addr) (n cap : Nat) (w : World) (hd : d.size ≤ 20) (hs : s.size ≤ 20) (ht : t.size ≤ 200) (hp : p.size ≤ 1200) (b0 : 0 ≤ bi) (b1 : bi ≤ 15) (v0 : 0 ≤ ve) (v1 : ve ≤ 4294967295) :
    Calls Tryd.prog 20 #[hv 2 bi ve d s t p ra n cap] w fun e w' => e = .returned (.string (FX (224 + bi) 1 ++ FX ve 4 ++ (FX d.size 1 ++ d) ++ (FX s.size 1 ++ s) ++ FX ((p.size : Int) + 16384) 2 ++ p)) ∧ Below w.heap.size w w' := by
  have ad0 := fun W : World => run_string_add_sum (P := Tryd.prog) (w := W) (FX (224 + bi) 1) (FX ve 4) (by simp only [FX_size]; omega)
  have ad1 := fun W : World => run_string_add_sum (P := Tryd.prog) (w := W) (FX (224 + bi) 1 ++ FX ve 4) (FX d.size 1 ++ d) (by simp only [ByteArray.size_append, FX_size]; omega)
  have ad2 := fun W : World => run_string_add_sum (P := Tryd.prog) (w := W) (FX (224 + bi) 1 ++ FX ve 4 ++ (FX d.size 1 ++ d)) (FX s.size 1 ++ s) (by simp only [ByteArray.size_append, FX_size]; omega)
  have ad3 := fun W : World => run_string_add_sum (P := Tryd.prog) (w := W) (FX (224 + bi) 1 ++ FX ve 4 ++ (FX d.size 1 ++ d) ++ (FX s.size 1 ++ s)) (FX ((p.size : Int) + 16384) 2) (by simp only [ByteArray.size_append, FX_size]; omega)
  have ad4 := fun W : World => run_string_add_sum (P := Tryd.prog) (w := W) (FX (224 + bi) 1 ++ FX ve 4 ++ (FX d.size 1 ++ d) ++ (FX s.size 1 ++ s) ++ FX ((p.size : Int) + 16384) 2) (p) (by simp only [ByteArray.size_append, FX_size]; omega)
  have e0 : bits .or .i64 192 (IntKind.i64.wrap 32) = 224 := by decide +kernel
  have e1 := or_m 224 bi b0 b1 (by omega) (by omega) (by omega)
  have e2 : bits .or .i64 (p.size : Int) 16384 = (p.size : Int) + 16384 := or_two _ (by omega) (by omega)
  have HA := hide (fun W => fix1 (224 + bi) W (by omega))
  have HD := hide (fun W => id_any d W (by omega))
  have HE := hide (fun W => id_any s W (by omega))
  have HV := hide (fun W => fix4 ve W (by omega))
  have HP := hide (fun W => fix2 ((p.size : Int) + 16384) W (by omega))
  have X0 := hide (bh_first (w := w) (f := 2) (bi := bi) (ve := ve) (d := d) (s := s) (t := t) (p := p) (ra := ra) (n := n) (cap := cap) 25)
  obtain ⟨c0, c1, c2, c3, c4, c5, c6, c7, c8, c9⟩ := unhide X0
  clear c9
  go_enter Tryd.func20, Tryd.ntmps20
  go_wp2_with fail
  go_region_held3 (fun W => Bh w 2 bi ve d s t p ra n cap W) (first | assumption | exact bh_step hb1 (by assumption) | exact bh_drew (unhide X0) | exact unhide X0) (first | (go_at_call 35; with_reducible refine (unhide HA _).mono ?_; rintro e w1 ⟨rfl, hb1⟩) | (go_at_call 34; with_reducible refine (unhide HD _).mono ?_; rintro e w1 ⟨rfl, hb1⟩) | (go_at_call 34; with_reducible refine (unhide HE _).mono ?_; rintro e w1 ⟨rfl, hb1⟩) | (go_at_call 35; with_reducible refine (unhide HV _).mono ?_; rintro e w1 ⟨rfl, hb1⟩) | (go_at_call 35; with_reducible refine (unhide HP _).mono ?_; rintro e w1 ⟨rfl, hb1⟩))
  all_goals
    rename_i hHeld
    have X1 := hide hHeld
    obtain ⟨d0, d1, d2, d3, d4, d5, d6, d7, d8, d9⟩ := hHeld
    clear X0 d9
    clear c0 c1 c2 c3 c4 c5 c6 c7 c8
    go_wp2_with (go_at_call 35; with_reducible refine (unhide HP _).mono ?_; rintro e w2 ⟨rfl, hb2⟩; have X3 := hide (bh_step hb2 (unhide X1)); obtain ⟨g0, g1, g2, g3, g4, g5, g6, g7, g8, g9⟩ := unhide X3; clear g9)
    go_ret
    exact ⟨rfl, (unhide X3).2.2.2.2.2.2.2.2.2⟩

set_option maxRecDepth 100000 in
set_option maxHeartbeats 4000000 in
theorem l2Bytes_0 (bi ve : Int) (d s t p : ByteArray) (ra : Option Addr) (n cap : Nat) (w : World) (hd : d.size ≤ 20) (hs : s.size ≤ 20) (ht : t.size ≤ 200) (hp : p.size ≤ 1200) (b0 : 0 ≤ bi) (b1 : bi ≤ 15) (v0 : 0 ≤ ve) (v1 : ve ≤ 4294967295) :
    Calls Tryd.prog 20 #[hv 0 bi ve d s t p ra n cap] w fun e w' => e = .returned (.string (FX (192 + bi) 1 ++ FX ve 4 ++ (FX d.size 1 ++ d) ++ (FX s.size 1 ++ s) ++ (VB t.size ++ t) ++ FX ((p.size : Int) + 16384) 2 ++ p)) ∧ Below w.heap.size w w' := by
  have zt := VB_le (t.size : Int)
  have ad0 := fun W : World => run_string_add_sum (P := Tryd.prog) (w := W) (FX (192 + bi) 1) (FX ve 4) (by simp only [FX_size]; omega)
  have ad1 := fun W : World => run_string_add_sum (P := Tryd.prog) (w := W) (FX (192 + bi) 1 ++ FX ve 4) (FX d.size 1 ++ d) (by simp only [ByteArray.size_append, FX_size]; omega)
  have ad2 := fun W : World => run_string_add_sum (P := Tryd.prog) (w := W) (FX (192 + bi) 1 ++ FX ve 4 ++ (FX d.size 1 ++ d)) (FX s.size 1 ++ s) (by simp only [ByteArray.size_append, FX_size]; omega)
  have ad3 := fun W : World => run_string_add_sum (P := Tryd.prog) (w := W) (VB t.size) (t) (by omega)
  have ad4 := fun W : World => run_string_add_sum (P := Tryd.prog) (w := W) (FX (192 + bi) 1 ++ FX ve 4 ++ (FX d.size 1 ++ d) ++ (FX s.size 1 ++ s)) (VB t.size ++ t) (by simp only [ByteArray.size_append, FX_size]; omega)
  have ad5 := fun W : World => run_string_add_sum (P := Tryd.prog) (w := W) (FX (192 + bi) 1 ++ FX ve 4 ++ (FX d.size 1 ++ d) ++ (FX s.size 1 ++ s) ++ (VB t.size ++ t)) (FX ((p.size : Int) + 16384) 2) (by simp only [ByteArray.size_append, FX_size]; omega)
  have ad6 := fun W : World => run_string_add_sum (P := Tryd.prog) (w := W) (FX (192 + bi) 1 ++ FX ve 4 ++ (FX d.size 1 ++ d) ++ (FX s.size 1 ++ s) ++ (VB t.size ++ t) ++ FX ((p.size : Int) + 16384) 2) (p) (by simp only [ByteArray.size_append, FX_size]; omega)
  have e0 : bits .or .i64 192 (IntKind.i64.wrap 0) = 192 := by decide +kernel
  have e1 := or_m 192 bi b0 b1 (by omega) (by omega) (by omega)
  have e2 : bits .or .i64 (p.size : Int) 16384 = (p.size : Int) + 16384 := or_two _ (by omega) (by omega)
  have HA := hide (fun W => fix1 (192 + bi) W (by omega))
  have HD := hide (fun W => id_any d W (by omega))
  have HE := hide (fun W => id_any s W (by omega))
  have HV := hide (fun W => fix4 ve W (by omega))
  have HP := hide (fun W => fix2 ((p.size : Int) + 16384) W (by omega))
  have HT := hide (fun W => var_VB (t.size : Int) W (by omega) (by omega))
  have X0 := hide (bh_first (w := w) (f := 0) (bi := bi) (ve := ve) (d := d) (s := s) (t := t) (p := p) (ra := ra) (n := n) (cap := cap) 25)
  obtain ⟨c0, c1, c2, c3, c4, c5, c6, c7, c8, c9⟩ := unhide X0
  clear c9
  go_enter Tryd.func20, Tryd.ntmps20
  go_wp2_with fail
  go_region_held3 (fun W => Bh w 0 bi ve d s t p ra n cap W) (first | assumption | exact bh_step hb1 (by assumption) | exact bh_drew (unhide X0) | exact unhide X0) (first | (go_at_call 35; with_reducible refine (unhide HA _).mono ?_; rintro e w1 ⟨rfl, hb1⟩) | (go_at_call 34; with_reducible refine (unhide HD _).mono ?_; rintro e w1 ⟨rfl, hb1⟩) | (go_at_call 34; with_reducible refine (unhide HE _).mono ?_; rintro e w1 ⟨rfl, hb1⟩) | (go_at_call 35; with_reducible refine (unhide HV _).mono ?_; rintro e w1 ⟨rfl, hb1⟩) | (go_at_call 35; with_reducible refine (unhide HP _).mono ?_; rintro e w1 ⟨rfl, hb1⟩) | (go_at_call 36; with_reducible refine (unhide HT _).mono ?_; rintro e w1 ⟨rfl, hb1⟩))
  all_goals
    rename_i hHeld
    have X1 := hide hHeld
    obtain ⟨d0, d1, d2, d3, d4, d5, d6, d7, d8, d9⟩ := hHeld
    clear X0 d9
    clear c0 c1 c2 c3 c4 c5 c6 c7 c8
    go_wp2_with fail
    go_region_held3 (fun W => Bh w 0 bi ve d s t p ra n cap W) (first | assumption | exact bh_step hb1 (by assumption) | exact bh_drew (unhide X1) | exact unhide X1) (first | (go_at_call 35; with_reducible refine (unhide HA _).mono ?_; rintro e w1 ⟨rfl, hb1⟩) | (go_at_call 34; with_reducible refine (unhide HD _).mono ?_; rintro e w1 ⟨rfl, hb1⟩) | (go_at_call 34; with_reducible refine (unhide HE _).mono ?_; rintro e w1 ⟨rfl, hb1⟩) | (go_at_call 35; with_reducible refine (unhide HV _).mono ?_; rintro e w1 ⟨rfl, hb1⟩) | (go_at_call 35; with_reducible refine (unhide HP _).mono ?_; rintro e w1 ⟨rfl, hb1⟩) | (go_at_call 36; with_reducible refine (unhide HT _).mono ?_; rintro e w1 ⟨rfl, hb1⟩))
    all_goals
      rename_i hHeld
      have X2 := hide hHeld
      obtain ⟨f0, f1, f2, f3, f4, f5, f6, f7, f8, f9⟩ := hHeld
      clear X1 f9
      clear d0 d1 d2 d3 d4 d5 d6 d7 d8
      go_wp2_with (go_at_call 35; with_reducible refine (unhide HP _).mono ?_; rintro e w2 ⟨rfl, hb2⟩; have X3 := hide (bh_step hb2 (unhide X2)); obtain ⟨g0, g1, g2, g3, g4, g5, g6, g7, g8, g9⟩ := unhide X3; clear g9)
      go_ret
      exact ⟨rfl, (unhide X3).2.2.2.2.2.2.2.2.2⟩

end Go.Proofs.YtgjohakjknmngaaDoor
namespace Go.Proofs.YtgjohakjknmngaaDoor
open Go.ChangeShapes Go.WideShapes Go.ChangeAt Go.RowKit
set_option linter.unusedVariables false
set_option maxRecDepth 100000

/-- Version and both ids -/
def AD (ve : Int) (d s : ByteArray) : List UInt8 := fx ve 4 4 ++ (fx (d.size : Int) 1 1 ++ (d.data.toList ++ (fx (s.size : Int) 1 1 ++ s.data.toList)))
theorem AD_length (ve : Int) (d s : ByteArray) : (AD ve d s).length = 6 + d.size + s.size := by
  have h1 : d.data.toList.length = d.size := by simp
  have h2 : s.data.toList.length = s.size := by simp
  unfold AD
  simp only [List.length_append, fx_length, h1, h2]; omega
theorem str_len (s : ByteArray) : s.data.toList.length = s.size := by simp

set_option maxRecDepth 100000 in
set_option maxHeartbeats 2000000 in
theorem ap_0 (v : Value) (xs : List UInt8) (bi ve : Int) (d s t p : ByteArray) (ra : Option Addr) (n cap : Nat) (w : World) (base : Nat) (h : Ow base w v xs) (hbase : base ≤ w.heap.size) (htz : Tz w) (hg1 : 1 < base) (hlen : xs.length ≤ 100000) (hd : d.size ≤ 20) (hs : s.size ≤ 20) (ht : t.size ≤ 200) (hp : p.size ≤ 1200) (hv0 : 0 ≤ ve) (hv1 : ve ≤ 4294967295) :
    Calls Tryd.prog 23 #[v, .iface 68 (.agg #[]), hv 0 bi ve d s t p ra n cap] w fun e w' => ∃ v', e = .returned v' ∧ Ow base w' v' (xs ++ (AD ve d s ++ ((vb t.size ++ t.data.toList) ++ (fx ((p.size : Int) + 16384) 2 2 ++ p.data.toList)))) ∧ Below base w w' := by
  have lAD := AD_length ve d s
  have lt := str_len t
  have lv := vb_le (t.size : Int)
  have t0 := ta_00
  have t1 := ta_01
  have t2 := ta_02
  have t3 := ta_03
  have t4 := ta_04
  have O0 : Ow base (w.alloc (.cells #[.int .i64 0, .int .i64 bi, .int .i64 ve, .string d, .string s, .string t, .string p, .slice ra n cap] 25)).drew v xs := (h.alloc _).drew
  have F0 : Hb w.heap.size 0 bi ve d s t p ra n cap (w.alloc (.cells #[.int .i64 0, .int .i64 bi, .int .i64 ve, .string d, .string s, .string t, .string p, .slice ra n cap] 25)).drew := heap_drew' (heap_new w _)
  have B0 : Below base w (w.alloc (.cells #[.int .i64 0, .int .i64 bi, .int .i64 ve, .string d, .string s, .string t, .string p, .slice ra n cap] 25)).drew := ((Below.refl _ _).alloc hbase _).drew
  have F00 : Hb w.heap.size 0 bi ve d s t p ra n cap (w.alloc (.cells #[.int .i64 0, .int .i64 bi, .int .i64 ve, .string d, .string s, .string t, .string p, .slice ra n cap] 25)) := heap_new w _
  have HT := hide htz
  have HF0 := hide F00
  have HA := hide (appendAddress_ow v xs 0 bi ve d s t p ra n cap _ base O0 (by simp; omega) (by omega) hd hs hv0 hv1)
  have HJ := hide (fun (w1 : World) (b1 : Below base (w.alloc (.cells #[.int .i64 0, .int .i64 bi, .int .i64 ve, .string d, .string s, .string t, .string p, .slice ra n cap] 25)).drew w1) (k1 : Kn (w.alloc (.cells #[.int .i64 0, .int .i64 bi, .int .i64 ve, .string d, .string s, .string t, .string p, .slice ra n cap] 25)).drew w1) => And.intro (k1 _ _ _ _ F0 (by decide)) (B0.trans b1))
  obtain ⟨c0, c1, c2, c3, c4, c5, c6, c7, c8⟩ := sh_mk F00
  clear h htz O0 F0 F00 B0
  go_enter Tryd.func23, Tryd.ntmps23
  go_wp2_with fail
  go_region_held3 (fun W => Sh w.heap.size 0 bi ve d s t p ra n cap W) (first | assumption | exact sh_mk F2 | exact sh_mk F1 | exact sh_alloc _ (by assumption) | exact sh_mk (unhide HF0)) (first | (go_at_call 38; refine (unhide HA).mono ?_; rintro e w1 ⟨v1, rfl, o1, b1, k1⟩; obtain ⟨F1, B1⟩ := unhide HJ _ b1 k1) | (go_at_call 37; refine (appendSized_ow v1 (xs ++ AD ve d s) t w1 base o1 (Nat.le_trans hbase B1.size) ((unhide HT).kept B1 hg1) hg1 (by rw [List.length_append, lAD]; omega) (by omega)).mono ?_; rintro e w2 ⟨v2, rfl, o2, b2, k2⟩; have F2 := k2 _ _ _ _ F1 (by decide); have B2 := B1.trans b2))
  all_goals
    obtain ⟨d0, d1, d2, d3, d4, d5, d6, d7, d8⟩ := sh_mk F2
    have HP := hide (appendPayload_ow v2 _ p w2 base o2 (Nat.le_trans hbase B2.size) (by simp only [List.length_append, lAD, lt]; omega) hp)
    clear HA HJ HF0 o1 b1 k1 F1 o2 b2 k2 F2
    go_wp2_with (go_at_call 39; refine (unhide HP).mono ?_; rintro e w3 ⟨v3, rfl, o3, b3, k3⟩)
    go_ret
    exact ⟨_, rfl, by simpa [List.append_assoc] using o3, B2.trans b3⟩
set_option maxRecDepth 100000 in
set_option maxHeartbeats 2000000 in
theorem ap_1 (v : Value) (xs : List UInt8) (bi ve : Int) (d s t p : ByteArray) (ra : Option Addr) (n cap : Nat) (w : World) (base : Nat) (h : Ow base w v xs) (hbase : base ≤ w.heap.size) (htz : Tz w) (hg1 : 1 < base) (hlen : xs.length ≤ 100000) (hd : d.size ≤ 20) (hs : s.size ≤ 20) (ht : t.size ≤ 200) (hp : p.size ≤ 1200) (hv0 : 0 ≤ ve) (hv1 : ve ≤ 4294967295) :
    Calls Tryd.prog 23 #[v, .iface 70 (.agg #[.int .i64 1]), hv 1 bi ve d s t p ra n cap] w fun e w' => ∃ v', e = .returned v' ∧ Ow base w' v' (xs ++ (AD ve d s ++ (fx ((p.size : Int) + 16384) 2 2 ++ p.data.toList))) ∧ Below base w w' := by
  have lAD := AD_length ve d s
  have lt := str_len t
  have lv := vb_le (t.size : Int)
  have t0 := ta_10
  have t1 := ta_11
  have t2 := ta_12
  have t3 := ta_13
  have t4 := ta_14
  have O0 : Ow base (w.alloc (.cells #[.int .i64 1, .int .i64 bi, .int .i64 ve, .string d, .string s, .string t, .string p, .slice ra n cap] 25)).drew v xs := (h.alloc _).drew
  have F0 : Hb w.heap.size 1 bi ve d s t p ra n cap (w.alloc (.cells #[.int .i64 1, .int .i64 bi, .int .i64 ve, .string d, .string s, .string t, .string p, .slice ra n cap] 25)).drew := heap_drew' (heap_new w _)
  have B0 : Below base w (w.alloc (.cells #[.int .i64 1, .int .i64 bi, .int .i64 ve, .string d, .string s, .string t, .string p, .slice ra n cap] 25)).drew := ((Below.refl _ _).alloc hbase _).drew
  have F00 : Hb w.heap.size 1 bi ve d s t p ra n cap (w.alloc (.cells #[.int .i64 1, .int .i64 bi, .int .i64 ve, .string d, .string s, .string t, .string p, .slice ra n cap] 25)) := heap_new w _
  have HT := hide htz
  have HF0 := hide F00
  have HA := hide (appendAddress_ow v xs 1 bi ve d s t p ra n cap _ base O0 (by simp; omega) (by omega) hd hs hv0 hv1)
  have HJ := hide (fun (w1 : World) (b1 : Below base (w.alloc (.cells #[.int .i64 1, .int .i64 bi, .int .i64 ve, .string d, .string s, .string t, .string p, .slice ra n cap] 25)).drew w1) (k1 : Kn (w.alloc (.cells #[.int .i64 1, .int .i64 bi, .int .i64 ve, .string d, .string s, .string t, .string p, .slice ra n cap] 25)).drew w1) => And.intro (k1 _ _ _ _ F0 (by decide)) (B0.trans b1))
  obtain ⟨c0, c1, c2, c3, c4, c5, c6, c7, c8⟩ := sh_mk F00
  clear h htz O0 F0 F00 B0
  go_enter Tryd.func23, Tryd.ntmps23
  go_wp2_with fail
  go_region_held3 (fun W => Sh w.heap.size 1 bi ve d s t p ra n cap W) (first | assumption | exact sh_mk F2 | exact sh_mk F1 | exact sh_alloc _ (by assumption) | exact sh_mk (unhide HF0)) (first | (go_at_call 38; refine (unhide HA).mono ?_; rintro e w1 ⟨v1, rfl, o1, b1, k1⟩; obtain ⟨F1, B1⟩ := unhide HJ _ b1 k1) | (go_at_call 39; refine (appendPayload_ow v1 (xs ++ AD ve d s) p w1 base o1 (Nat.le_trans hbase B1.size) (by rw [List.length_append, lAD]; omega) hp).mono ?_; rintro e w2 ⟨v2, rfl, o2, b2, k2⟩; have F2 := k2 _ _ _ _ F1 (by decide); have B2 := B1.trans b2))
  all_goals
    clear HA HJ HF0 o1 b1 k1 F1 b2 k2 F2
    go_wp2
    go_ret
    exact ⟨_, rfl, by simpa [List.append_assoc] using o2, B2⟩
set_option maxRecDepth 100000 in
set_option maxHeartbeats 2000000 in
theorem ap_2 (v : Value) (xs : List UInt8) (bi ve : Int) (d s t p : ByteArray) (ra : Option Addr) (n cap : Nat) (w : World) (base : Nat) (h : Ow base w v xs) (hbase : base ≤ w.heap.size) (htz : Tz w) (hg1 : 1 < base) (hlen : xs.length ≤ 100000) (hd : d.size ≤ 20) (hs : s.size ≤ 20) (ht : t.size ≤ 200) (hp : p.size ≤ 1200) (hv0 : 0 ≤ ve) (hv1 : ve ≤ 4294967295) :
    Calls Tryd.prog 23 #[v, .iface 70 (.agg #[.int .i64 2]), hv 2 bi ve d s t p ra n cap] w fun e w' => ∃ v', e = .returned v' ∧ Ow base w' v' (xs ++ (AD ve d s ++ (fx ((p.size : Int) + 16384) 2 2 ++ p.data.toList))) ∧ Below base w w' := by
  have lAD := AD_length ve d s
  have lt := str_len t
  have lv := vb_le (t.size : Int)
  have t0 := ta_20
  have t1 := ta_21
  have t2 := ta_22
  have t3 := ta_23
  have t4 := ta_24
  have O0 : Ow base (w.alloc (.cells #[.int .i64 2, .int .i64 bi, .int .i64 ve, .string d, .string s, .string t, .string p, .slice ra n cap] 25)).drew v xs := (h.alloc _).drew
  have F0 : Hb w.heap.size 2 bi ve d s t p ra n cap (w.alloc (.cells #[.int .i64 2, .int .i64 bi, .int .i64 ve, .string d, .string s, .string t, .string p, .slice ra n cap] 25)).drew := heap_drew' (heap_new w _)
  have B0 : Below base w (w.alloc (.cells #[.int .i64 2, .int .i64 bi, .int .i64 ve, .string d, .string s, .string t, .string p, .slice ra n cap] 25)).drew := ((Below.refl _ _).alloc hbase _).drew
  have F00 : Hb w.heap.size 2 bi ve d s t p ra n cap (w.alloc (.cells #[.int .i64 2, .int .i64 bi, .int .i64 ve, .string d, .string s, .string t, .string p, .slice ra n cap] 25)) := heap_new w _
  have HT := hide htz
  have HF0 := hide F00
  have HA := hide (appendAddress_ow v xs 2 bi ve d s t p ra n cap _ base O0 (by simp; omega) (by omega) hd hs hv0 hv1)
  have HJ := hide (fun (w1 : World) (b1 : Below base (w.alloc (.cells #[.int .i64 2, .int .i64 bi, .int .i64 ve, .string d, .string s, .string t, .string p, .slice ra n cap] 25)).drew w1) (k1 : Kn (w.alloc (.cells #[.int .i64 2, .int .i64 bi, .int .i64 ve, .string d, .string s, .string t, .string p, .slice ra n cap] 25)).drew w1) => And.intro (k1 _ _ _ _ F0 (by decide)) (B0.trans b1))
  obtain ⟨c0, c1, c2, c3, c4, c5, c6, c7, c8⟩ := sh_mk F00
  clear h htz O0 F0 F00 B0
  go_enter Tryd.func23, Tryd.ntmps23
  go_wp2_with fail
  go_region_held3 (fun W => Sh w.heap.size 2 bi ve d s t p ra n cap W) (first | assumption | exact sh_mk F2 | exact sh_mk F1 | exact sh_alloc _ (by assumption) | exact sh_mk (unhide HF0)) (first | (go_at_call 38; refine (unhide HA).mono ?_; rintro e w1 ⟨v1, rfl, o1, b1, k1⟩; obtain ⟨F1, B1⟩ := unhide HJ _ b1 k1) | (go_at_call 39; refine (appendPayload_ow v1 (xs ++ AD ve d s) p w1 base o1 (Nat.le_trans hbase B1.size) (by rw [List.length_append, lAD]; omega) hp).mono ?_; rintro e w2 ⟨v2, rfl, o2, b2, k2⟩; have F2 := k2 _ _ _ _ F1 (by decide); have B2 := B1.trans b2))
  all_goals
    clear HA HJ HF0 o1 b1 k1 F1 b2 k2 F2
    go_wp2
    go_ret
    exact ⟨_, rfl, by simpa [List.append_assoc] using o2, B2⟩
set_option maxRecDepth 100000 in
set_option maxHeartbeats 2000000 in
theorem ap_3 (v : Value) (xs : List UInt8) (bi ve : Int) (d s t p : ByteArray) (ra : Option Addr) (n cap : Nat) (w : World) (base : Nat) (h : Ow base w v xs) (hbase : base ≤ w.heap.size) (htz : Tz w) (hg1 : 1 < base) (hlen : xs.length ≤ 100000) (hd : d.size ≤ 20) (hs : s.size ≤ 20) (ht : t.size ≤ 200) (hp : p.size ≤ 1200) (hv0 : 0 ≤ ve) (hv1 : ve ≤ 4294967295) :
    Calls Tryd.prog 23 #[v, .iface 71 (.agg #[]), hv 3 bi ve d s t p ra n cap] w fun e w' => ∃ v', e = .returned v' ∧ Ow base w' v' (xs ++ (AD ve d s ++ p.data.toList)) ∧ Below base w w' := by
  have lAD := AD_length ve d s
  have lt := str_len t
  have lv := vb_le (t.size : Int)
  have t0 := ta_30
  have t1 := ta_31
  have t2 := ta_32
  have t3 := ta_33
  have t4 := ta_34
  have O0 : Ow base (w.alloc (.cells #[.int .i64 3, .int .i64 bi, .int .i64 ve, .string d, .string s, .string t, .string p, .slice ra n cap] 25)).drew v xs := (h.alloc _).drew
  have F0 : Hb w.heap.size 3 bi ve d s t p ra n cap (w.alloc (.cells #[.int .i64 3, .int .i64 bi, .int .i64 ve, .string d, .string s, .string t, .string p, .slice ra n cap] 25)).drew := heap_drew' (heap_new w _)
  have B0 : Below base w (w.alloc (.cells #[.int .i64 3, .int .i64 bi, .int .i64 ve, .string d, .string s, .string t, .string p, .slice ra n cap] 25)).drew := ((Below.refl _ _).alloc hbase _).drew
  have F00 : Hb w.heap.size 3 bi ve d s t p ra n cap (w.alloc (.cells #[.int .i64 3, .int .i64 bi, .int .i64 ve, .string d, .string s, .string t, .string p, .slice ra n cap] 25)) := heap_new w _
  have HT := hide htz
  have HF0 := hide F00
  have HA := hide (appendAddress_ow v xs 3 bi ve d s t p ra n cap _ base O0 (by simp; omega) (by omega) hd hs hv0 hv1)
  have HJ := hide (fun (w1 : World) (b1 : Below base (w.alloc (.cells #[.int .i64 3, .int .i64 bi, .int .i64 ve, .string d, .string s, .string t, .string p, .slice ra n cap] 25)).drew w1) (k1 : Kn (w.alloc (.cells #[.int .i64 3, .int .i64 bi, .int .i64 ve, .string d, .string s, .string t, .string p, .slice ra n cap] 25)).drew w1) => And.intro (k1 _ _ _ _ F0 (by decide)) (B0.trans b1))
  obtain ⟨i0, hi, hz0, hz1, hz2⟩ := info_parts Tryd.info5
  obtain ⟨c0, c1, c2, c3, c4, c5, c6, c7, c8⟩ := sh_mk F00
  clear h htz O0 F0 F00 B0
  go_enter Tryd.func23, Tryd.ntmps23
  go_wp2_with fail
  go_region_held3 (fun W => Sh w.heap.size 3 bi ve d s t p ra n cap W) (first | assumption | exact sh_mk Fw2 | exact sh_mk F1 | exact sh_alloc _ (by assumption) | exact sh_mk (unhide HF0)) (first | (go_at_call 38; refine (unhide HA).mono ?_; rintro e w1 ⟨v1, rfl, o1, b1, k1⟩; obtain ⟨F1, B1⟩ := unhide HJ _ b1 k1) | (refine step_append_string _ rfl _ _ 22 9 rfl base 5 i0 Tryd.underlying22 Tryd.underlying9 hi hz0 hz1 hz2 _ _ _ rfl o1 p rfl (by show (xs ++ AD ve d s).length + _ ≤ _; rw [List.length_append, lAD]; unfold maxLen; omega) (by show (xs ++ AD ve d s).length + _ ≤ _; rw [List.length_append, lAD]; omega) (Nat.le_trans hbase B1.size) ?_; intro v2 w2 how2 hgw2; have ow2 := ow_text o1 how2 rfl; have Fw2 := Ow.kn o1 hgw2 _ _ _ _ F1 (by decide); have Bw2 := B1.trans (Ow.below o1 hgw2 (Nat.le_trans hbase B1.size))))
  all_goals
    clear HA HJ HF0 o1 b1 k1 F1 how2 hgw2 Fw2
    go_wp2
    go_ret
    exact ⟨_, rfl, by simpa [AD, List.append_assoc] using ow2, Bw2⟩
set_option maxRecDepth 100000 in
set_option maxHeartbeats 2000000 in
theorem ap_4 (v : Value) (xs : List UInt8) (bi ve : Int) (d s t p : ByteArray) (g off n cap : Nat) (w : World) (base : Nat) (h : Ow base w v xs) (hbase : base ≤ w.heap.size) (htz : Tz w) (hg1 : 1 < base) (hlen : xs.length ≤ 100000) (hd : d.size ≤ 20) (hs : s.size ≤ 20) (ht : t.size ≤ 200) (hp : p.size ≤ 1200) (hv0 : 0 ≤ ve) (hv1 : ve ≤ 4294967295) (V : Nat → Int) (hn : n ≤ 20) (hR : Ir w g off n V) (hgb : n = 0 ∨ g < base) (hN : ∀ i, i < n → 0 ≤ V i ∧ V i ≤ 4294967295) :
    Calls Tryd.prog 23 #[v, .iface 72 (.agg #[]), hv 4 bi ve d s t p (some ⟨g, off, none⟩) n cap] w fun e w' => ∃ v', e = .returned v' ∧ Ow base w' v' (xs ++ (AD ve d s ++ wds V n)) ∧ Below base w w' := by
  have lAD := AD_length ve d s
  have lt := str_len t
  have lv := vb_le (t.size : Int)
  have t0 := ta_40
  have t1 := ta_41
  have t2 := ta_42
  have t3 := ta_43
  have t4 := ta_44
  have O0 : Ow base (w.alloc (.cells #[.int .i64 4, .int .i64 bi, .int .i64 ve, .string d, .string s, .string t, .string p, .slice (some ⟨g, off, none⟩) n cap] 25)).drew v xs := (h.alloc _).drew
  have F0 : Hb w.heap.size 4 bi ve d s t p (some ⟨g, off, none⟩) n cap (w.alloc (.cells #[.int .i64 4, .int .i64 bi, .int .i64 ve, .string d, .string s, .string t, .string p, .slice (some ⟨g, off, none⟩) n cap] 25)).drew := heap_drew' (heap_new w _)
  have B0 : Below base w (w.alloc (.cells #[.int .i64 4, .int .i64 bi, .int .i64 ve, .string d, .string s, .string t, .string p, .slice (some ⟨g, off, none⟩) n cap] 25)).drew := ((Below.refl _ _).alloc hbase _).drew
  have F00 : Hb w.heap.size 4 bi ve d s t p (some ⟨g, off, none⟩) n cap (w.alloc (.cells #[.int .i64 4, .int .i64 bi, .int .i64 ve, .string d, .string s, .string t, .string p, .slice (some ⟨g, off, none⟩) n cap] 25)) := heap_new w _
  have HT := hide htz
  have HF0 := hide F00
  have HA := hide (appendAddress_ow v xs 4 bi ve d s t p (some ⟨g, off, none⟩) n cap _ base O0 (by simp; omega) (by omega) hd hs hv0 hv1)
  have HJ := hide (fun (w1 : World) (b1 : Below base (w.alloc (.cells #[.int .i64 4, .int .i64 bi, .int .i64 ve, .string d, .string s, .string t, .string p, .slice (some ⟨g, off, none⟩) n cap] 25)).drew w1) (k1 : Kn (w.alloc (.cells #[.int .i64 4, .int .i64 bi, .int .i64 ve, .string d, .string s, .string t, .string p, .slice (some ⟨g, off, none⟩) n cap] 25)).drew w1) => And.intro (k1 _ _ _ _ F0 (by decide)) (B0.trans b1))
  have HNn := hide hN
  have HI := hide (fun (w1 : World) (B1 : Below base w w1) (W : World) (x u : Value) (ys : List UInt8) (ox : Ow base w1 x ys) (hg : Gr w1 W x u) (i : Nat) (hi : i < n) => by
    have hgb' : g < base := by rcases hgb with e | e <;> omega
    exact ((B1.trans (hg.below ox (Nat.le_trans hbase B1.size))).cell (p := ⟨g, off + i, none⟩) hgb').trans (hR.cv i hi))
  clear hN hR
  obtain ⟨c0, c1, c2, c3, c4, c5, c6, c7, c8⟩ := sh_mk F00
  clear h htz O0 F0 F00 B0
  go_enter Tryd.func23, Tryd.ntmps23
  go_wp2_with fail
  go_region_held3 (fun W => Sh w.heap.size 4 bi ve d s t p (some ⟨g, off, none⟩) n cap W) (first | assumption | exact sh_mk F2 | exact sh_mk F1 | exact sh_alloc _ (by assumption) | exact sh_mk (unhide HF0)) (first | (go_at_call 38; refine (unhide HA).mono ?_; rintro e w1 ⟨v1, rfl, o1, b1, k1⟩; obtain ⟨F1, B1⟩ := unhide HJ _ b1 k1) | (go_at_call 40; refine (appendWords_ow v1 (xs ++ AD ve d s) g off n cap V w1 base o1 (Nat.le_trans hbase B1.size) (by rw [List.length_append, lAD]; omega) hn (fun W u hg i hi => (unhide HI) w1 B1 W v1 u _ o1 hg i hi) (unhide HNn)).mono ?_; rintro e w2 ⟨v2, rfl, o2, g2⟩; have F2 := Ow.kn o1 g2.grown _ _ _ _ F1 (by decide); have B2 := B1.trans (g2.below o1 (Nat.le_trans hbase B1.size))))
  all_goals
    clear HA HJ HF0 o1 b1 k1 F1 g2 F2
    go_wp2
    go_ret
    exact ⟨_, rfl, by simpa [List.append_assoc] using o2, B2⟩
set_option maxRecDepth 100000 in
set_option maxHeartbeats 2000000 in
theorem ap_5 (v : Value) (xs : List UInt8) (bi ve : Int) (d s t p : ByteArray) (ra : Option Addr) (n cap : Nat) (w : World) (base : Nat) (h : Ow base w v xs) (hbase : base ≤ w.heap.size) (htz : Tz w) (hg1 : 1 < base) (hlen : xs.length ≤ 100000) (hd : d.size ≤ 20) (hs : s.size ≤ 20) (ht : t.size ≤ 200) (hp : p.size ≤ 1200) (hv0 : 0 ≤ ve) (hv1 : ve ≤ 4294967295) :
    Calls Tryd.prog 23 #[v, .iface 73 (.agg #[]), hv 5 bi ve d s t p ra n cap] w fun e w' => ∃ v', e = .returned v' ∧ Ow base w' v' (xs ++ (d.data.toList ++ p.data.toList)) ∧ Below base w w' := by
  have lAD := AD_length ve d s
  have lt := str_len t
  have lv := vb_le (t.size : Int)
  have t0 := ta_50
  have t1 := ta_51
  have t2 := ta_52
  have t3 := ta_53
  have t4 := ta_54
  have O0 : Ow base (w.alloc (.cells #[.int .i64 5, .int .i64 bi, .int .i64 ve, .string d, .string s, .string t, .string p, .slice ra n cap] 25)).drew v xs := (h.alloc _).drew
  have F0 : Hb w.heap.size 5 bi ve d s t p ra n cap (w.alloc (.cells #[.int .i64 5, .int .i64 bi, .int .i64 ve, .string d, .string s, .string t, .string p, .slice ra n cap] 25)).drew := heap_drew' (heap_new w _)
  have B0 : Below base w (w.alloc (.cells #[.int .i64 5, .int .i64 bi, .int .i64 ve, .string d, .string s, .string t, .string p, .slice ra n cap] 25)).drew := ((Below.refl _ _).alloc hbase _).drew
  have F00 : Hb w.heap.size 5 bi ve d s t p ra n cap (w.alloc (.cells #[.int .i64 5, .int .i64 bi, .int .i64 ve, .string d, .string s, .string t, .string p, .slice ra n cap] 25)) := heap_new w _
  have HT := hide htz
  have HF0 := hide F00
  have HA := hide (appendAddress_ow v xs 5 bi ve d s t p ra n cap _ base O0 (by simp; omega) (by omega) hd hs hv0 hv1)
  have HJ := hide (fun (w1 : World) (b1 : Below base (w.alloc (.cells #[.int .i64 5, .int .i64 bi, .int .i64 ve, .string d, .string s, .string t, .string p, .slice ra n cap] 25)).drew w1) (k1 : Kn (w.alloc (.cells #[.int .i64 5, .int .i64 bi, .int .i64 ve, .string d, .string s, .string t, .string p, .slice ra n cap] 25)).drew w1) => And.intro (k1 _ _ _ _ F0 (by decide)) (B0.trans b1))
  obtain ⟨i0, hi, hz0, hz1, hz2⟩ := info_parts Tryd.info5
  have ld := str_len d
  have HO0 := hide O0
  have HB0 := hide B0
  have HF1 := hide F0
  obtain ⟨c0, c1, c2, c3, c4, c5, c6, c7, c8⟩ := sh_mk F00
  clear h htz O0 F0 F00 B0
  go_enter Tryd.func23, Tryd.ntmps23
  go_wp2_with fail
  go_region_held3 (fun W => Sh w.heap.size 5 bi ve d s t p ra n cap W) (first | assumption | exact sh_mk Fw2 | exact sh_mk Fw1 | exact sh_alloc _ (by assumption) | exact sh_mk (unhide HF0)) (first | (refine step_append_string _ rfl _ _ 22 9 rfl base 5 i0 Tryd.underlying22 Tryd.underlying9 hi hz0 hz1 hz2 _ _ _ rfl (unhide HO0) d rfl (by skip; unfold maxLen; omega) (by skip; omega) (Nat.le_trans hbase (unhide HB0).size) ?_; intro v1 w1 how1 hgw1; have ow1 := ow_text (unhide HO0) how1 rfl; have Fw1 := Ow.kn (unhide HO0) hgw1 _ _ _ _ (unhide HF1) (by decide); have Bw1 := (unhide HB0).trans (Ow.below (unhide HO0) hgw1 (Nat.le_trans hbase (unhide HB0).size))) | (refine step_append_string _ rfl _ _ 22 9 rfl base 5 i0 Tryd.underlying22 Tryd.underlying9 hi hz0 hz1 hz2 _ _ _ rfl ow1 p rfl (by rw [List.length_append, ld]; unfold maxLen; omega) (by rw [List.length_append, ld]; omega) (Nat.le_trans hbase Bw1.size) ?_; intro v2 w2 how2 hgw2; have ow2 := ow_text ow1 how2 rfl; have Fw2 := Ow.kn ow1 hgw2 _ _ _ _ Fw1 (by decide); have Bw2 := Bw1.trans (Ow.below ow1 hgw2 (Nat.le_trans hbase Bw1.size))))
  all_goals
    clear HA HJ HF0 HO0 HF1 ow1 how1 hgw1 Fw1 how2 hgw2 Fw2
    go_wp2
    go_ret
    exact ⟨_, rfl, by simpa [List.append_assoc] using ow2, Bw2⟩
end Go.Proofs.YtgjohakjknmngaaDoor
namespace Go.Proofs.YtgjohakjknmngaaDoor
open Go.ChangeShapes Go.WideShapes Go.ChangeAt Go.RowKit
set_option linter.unusedVariables false
set_option maxRecDepth 100000

/-- a text with q words behind it -/
def sv (B : ByteArray) (V : Nat → Int) : Nat → ByteArray
  | 0 => B
  | q + 1 => sv B V q ++ FX (V q) 4
theorem sv_size (B : ByteArray) (V : Nat → Int) : ∀ q, (sv B V q).size = B.size + 4 * q
  | 0 => rfl
  | q + 1 => by
    have h := sv_size B V q
    show (sv B V q ++ FX (V q) 4).size = _
    rw [ByteArray.size_append, FX_size]; omega
theorem sv_list (B : ByteArray) (V : Nat → Int) : ∀ q, (sv B V q).data.toList = B.data.toList ++ wds V q
  | 0 => by simp [sv, wds]
  | q + 1 => by
    have h := sv_list B V q
    show (sv B V q ++ FX (V q) 4).data.toList = _
    simp [h, wds, FX_list, List.append_assoc]

set_option maxRecDepth 100000 in
set_option maxHeartbeats 4000000 in
theorem l2Bytes_4 (bi ve : Int) (d s t p : ByteArray) (g off n cap : Nat) (w : World) (hd : d.size ≤ 20) (hs : s.size ≤ 20) (ht : t.size ≤ 200) (hp : p.size ≤ 1200) (b0 : 0 ≤ bi) (b1 : bi ≤ 15) (V : Nat → Int) (hn : n ≤ 20) (hR : Ir w g off n V) (hN : ∀ i, i < n → 0 ≤ V i ∧ V i ≤ 4294967295) :
    Calls Tryd.prog 20 #[hv 4 bi ve d s t p (some ⟨g, off, none⟩) n cap] w fun e w' => e = .returned (.string (sv (FX (192 + bi) 1 ++ FX 0 4 ++ (FX d.size 1 ++ d) ++ (FX s.size 1 ++ s)) V n)) ∧ Below w.heap.size w w' := by
  have ad0 := fun W : World => run_string_add_sum (P := Tryd.prog) (w := W) (FX (192 + bi) 1) (FX 0 4) (by simp only [FX_size]; omega)
  have ad1 := fun W : World => run_string_add_sum (P := Tryd.prog) (w := W) (FX (192 + bi) 1 ++ FX 0 4) (FX d.size 1 ++ d) (by simp only [ByteArray.size_append, FX_size]; omega)
  have ad2 := fun W : World => run_string_add_sum (P := Tryd.prog) (w := W) (FX (192 + bi) 1 ++ FX 0 4 ++ (FX d.size 1 ++ d)) (FX s.size 1 ++ s) (by simp only [ByteArray.size_append, FX_size]; omega)
  have e0 : bits .or .i64 192 (IntKind.i64.wrap 0) = 192 := by decide +kernel
  have e1 := or_m 192 bi b0 b1 (by omega) (by omega) (by omega)
  have HA := hide (fun W => fix1 (192 + bi) W (by omega))
  have HD := hide (fun W => id_any d W (by omega))
  have HE := hide (fun W => id_any s W (by omega))
  have HV := hide (fun W => fix4 0 W (by omega))
  have X0 := hide (bh_first (w := w) (f := 4) (bi := bi) (ve := ve) (d := d) (s := s) (t := t) (p := p) (ra := some ⟨g, off, none⟩) (n := n) (cap := cap) 25)
  obtain ⟨c0, c1, c2, c3, c4, c5, c6, c7, c8, c9⟩ := unhide X0
  clear c9
  go_enter Tryd.func20, Tryd.ntmps20
  go_wp2_with fail
  go_region_held3 (fun W => Bh w 4 bi ve d s t p (some ⟨g, off, none⟩) n cap W) (first | assumption | exact bh_step hb1 (by assumption) | exact bh_drew (unhide X0) | exact unhide X0) (first | (go_at_call 35; with_reducible refine (unhide HA _).mono ?_; rintro e w1 ⟨rfl, hb1⟩) | (go_at_call 34; with_reducible refine (unhide HD _).mono ?_; rintro e w1 ⟨rfl, hb1⟩) | (go_at_call 34; with_reducible refine (unhide HE _).mono ?_; rintro e w1 ⟨rfl, hb1⟩) | (go_at_call 35; with_reducible refine (unhide HV _).mono ?_; rintro e w1 ⟨rfl, hb1⟩))
  all_goals
    rename_i hHeld
    have X1 := hide hHeld
    obtain ⟨d0, d1, d2, d3, d4, d5, d6, d7, d8, d9⟩ := hHeld
    clear X0 d9
    clear c0 c1 c2 c3 c4 c5 c6 c7 c8
    have hB : (FX (192 + bi) 1 ++ FX 0 4 ++ (FX d.size 1 ++ d) ++ (FX s.size 1 ++ s)).size = 7 + d.size + s.size := by simp only [ByteArray.size_append, FX_size]; omega
    generalize hBe : FX (192 + bi) 1 ++ FX 0 4 ++ (FX d.size 1 ++ d) ++ (FX s.size 1 ++ s) = B at *
    have HBe := hide hBe
    clear hBe
    go_wp2_with fail
    have HR := hide hR
    have HN := hide hN
    have B1 := (unhide X1).2.2.2.2.2.2.2.2.2
    clear hR hN X1 d0 d1 d2 d3 d4 d5 d6 d7 d8
    go_loopw [3, 40] (fun u i wr => ∃ q : Nat, q ≤ n ∧ i = .int .i64 q ∧ u = .string (sv B V q) ∧ Below w.heap.size w wr) (fun _ i _ => n - (intOf i).toNat)
    case atStart => exact ⟨0, Nat.zero_le _, rfl, rfl, B1⟩
    case round =>
      obtain ⟨q, hq, rfl, rfl, hbl⟩ := hrel
      by_cases hlt : q < n
      · have hR := (unhide HR).below hbl
        have hcv := hR.cv q hlt
        have hnn := unhide HN q hlt
        have hsz := sv_size B V q
        have ad := fun W : World => run_string_add_sum (P := Tryd.prog) (w := W) (sv B V q) (FX (V q) 4) (by rw [FX_size]; omega)
        have HF := hide (fun W => fix4 (V q) W (by omega))
        clear hR
        go_wp2_with (go_at_call 35; with_reducible refine (unhide HF _).mono ?_; rintro e w2 ⟨rfl, hb2⟩)
        exact ⟨⟨q + 1, by omega, by go_num, rfl, hbl.trans (hb2.mono hbl.size)⟩, by simp [intOf]; omega⟩
      · obtain rfl : q = n := by omega
        go_wp2
        go_ret
        exact ⟨by rw [unhide HBe]; rfl, hbl⟩

end Go.Proofs.YtgjohakjknmngaaDoor
namespace Go.Proofs.YtgjohakjknmngaaDoor
open Go.ChangeShapes Go.WideShapes Go.ChangeAt Go.RowKit
set_option linter.unusedVariables false
set_option maxRecDepth 100000

theorem Ia.alloc {w : World} {a : Option Addr} {n cap : Nat} {V : Nat → Int} (h : Ia w a n cap V) (o : Obj) : Ia (w.alloc o) a n cap V := h.below ((Below.refl _ _).alloc (Nat.le_refl _) _)
theorem tz_lt {W : World} (h : Tz W) : 1 < W.heap.size := World.block_lt_of_cell? W _ h.c0
theorem mark_0 (w : World) : Calls Tryd.prog 107 #[.agg #[]] w fun e w' => e = .returned (.int .i64 192) ∧ Below w.heap.size w w' := by
  go_enter Tryd.func107, Tryd.ntmps107
  go_wp2
  go_ret
  exact ⟨rfl, (Below.refl _ _).alloc (Nat.le_refl _) _⟩
theorem mark_1 (w : World) : Calls Tryd.prog 108 #[.agg #[.int .i64 1]] w fun e w' => e = .returned (.int .i64 208) ∧ Below w.heap.size w w' := by
  have e0 : bits .or .i64 192 (IntKind.i64.wrap 16) = 208 := by decide +kernel
  have e1 : bits .or .i64 192 16 = 208 := by decide +kernel
  go_enter Tryd.func108, Tryd.ntmps108
  go_wp2
  go_ret
  exact ⟨rfl, (Below.refl _ _).alloc (Nat.le_refl _) _⟩
theorem mark_2 (w : World) : Calls Tryd.prog 108 #[.agg #[.int .i64 2]] w fun e w' => e = .returned (.int .i64 224) ∧ Below w.heap.size w w' := by
  have e0 : bits .or .i64 192 (IntKind.i64.wrap 32) = 224 := by decide +kernel
  have e1 : bits .or .i64 192 32 = 224 := by decide +kernel
  go_enter Tryd.func108, Tryd.ntmps108
  go_wp2
  go_ret
  exact ⟨rfl, (Below.refl _ _).alloc (Nat.le_refl _) _⟩
theorem mark_3 (w : World) : Calls Tryd.prog 109 #[.agg #[]] w fun e w' => e = .returned (.int .i64 240) ∧ Below w.heap.size w w' := by
  go_enter Tryd.func109, Tryd.ntmps109
  go_wp2
  go_ret
  exact ⟨rfl, (Below.refl _ _).alloc (Nat.le_refl _) _⟩
theorem mark_4 (w : World) : Calls Tryd.prog 110 #[.agg #[]] w fun e w' => e = .returned (.int .i64 192) ∧ Below w.heap.size w w' := by
  go_enter Tryd.func110, Tryd.ntmps110
  go_wp2
  go_ret
  exact ⟨rfl, (Below.refl _ _).alloc (Nat.le_refl _) _⟩
theorem mark_5 (w : World) : Calls Tryd.prog 111 #[.agg #[]] w fun e w' => e = .returned (.int .i64 64) ∧ Below w.heap.size w w' := by
  go_enter Tryd.func111, Tryd.ntmps111
  go_wp2
  go_ret
  exact ⟨rfl, (Below.refl _ _).alloc (Nat.le_refl _) _⟩
theorem meth_0 (w : World) : (method 257 68 (.agg #[]) "loop.example/g00206/impl.mark").run Tryd.prog w = .ok (107, .agg #[]) w := by kernel_rfl
theorem meth_1 (w : World) : (method 257 70 (.agg #[.int .i64 1]) "loop.example/g00206/impl.mark").run Tryd.prog w = .ok (108, .agg #[.int .i64 1]) w := by kernel_rfl
theorem meth_2 (w : World) : (method 257 70 (.agg #[.int .i64 2]) "loop.example/g00206/impl.mark").run Tryd.prog w = .ok (108, .agg #[.int .i64 2]) w := by kernel_rfl
theorem meth_3 (w : World) : (method 257 71 (.agg #[]) "loop.example/g00206/impl.mark").run Tryd.prog w = .ok (109, .agg #[]) w := by kernel_rfl
theorem meth_4 (w : World) : (method 257 72 (.agg #[]) "loop.example/g00206/impl.mark").run Tryd.prog w = .ok (110, .agg #[]) w := by kernel_rfl
theorem meth_5 (w : World) : (method 257 73 (.agg #[]) "loop.example/g00206/impl.mark").run Tryd.prog w = .ok (111, .agg #[]) w := by kernel_rfl

/-- the first byte, in a row of the call's own -/
theorem ow_lit (w : World) (base : Nat) (x : Int) (h0 : 0 ≤ x) (h1 : x ≤ 255) (hb : base ≤ w.heap.size) : Ow base (w.alloc (.cells #[.int .u8 x] 5)) (.slice (some ⟨w.heap.size, 0, none⟩) 1 1) (fx x 1 1) := by
  have h := World.ownsRow_lit (base := base) (e := 5) (size := 1) w #[.int .u8 x] 1 hb (by unfold maxLen; omega) rfl
  have e := bs_fx1 x h0 h1
  unfold Ow
  rw [e, fx_length]
  exact h

end Go.Proofs.YtgjohakjknmngaaDoor
namespace Go.Proofs.YtgjohakjknmngaaDoor
open Go.ChangeShapes Go.WideShapes Go.ChangeAt Go.RowKit
set_option linter.unusedVariables false
set_option maxRecDepth 100000

set_option maxRecDepth 100000 in
set_option maxHeartbeats 4000000 in
theorem implHB_2 (bi ve : Int) (d s t p : ByteArray) (ra : Option Addr) (n cap : Nat) (V : Nat → Int) (w : World) (htz : Tz w) (hR : Ia w ra n cap V) (h : gh 2 bi ve d.size s.size t.size p.size n V = true) (b0 : 0 ≤ bi) (b1 : bi ≤ 15) (hd : d.size ≤ 20) (hs : s.size ≤ 20) (ht : t.size ≤ 200) (hp : p.size ≤ 1200) (hv0 : 0 ≤ ve) (hv1 : ve ≤ 4294967295) (hn : n ≤ 20) (hN : ∀ i, i < n → 0 ≤ V i ∧ V i ≤ 4294967295) :
    Calls Tryd.prog 8 #[hv 2 bi ve d s t p ra n cap] w fun e w' => e = .returned (.tuple #[.string ⟨(fx (224 + bi) 1 1 ++ (AD ve d s ++ (fx ((p.size : Int) + 16384) 2 2 ++ p.data.toList))).toArray⟩, .bool true]) ∧ Below w.heap.size w w' := by
  have HG := hide (fun W (hr : Ia W ra n cap V) => implGood_any 2 bi ve d s t p ra n cap V W (by omega) (by omega) (by omega) (by omega) (by omega) hr)
  rw [h] at HG
  clear h
  have HM := hide (fun W => mark_2 W)
  have mm := meth_2
  have HF := hide (fun W => formOf_2 W)
  have HR := hide hR
  have HT := hide htz
  have HNn := hide hN
  have hg1 := tz_lt htz
  have e1 : bits .or .i64 224 bi = 224 + bi := or_m 224 bi b0 b1 (by omega) (by omega) (by omega)
  have wb : IntKind.u8.wrap (224 + bi) = 224 + bi := by rw [IntKind.wrap_u8]; omega
  clear hR htz hN
  go_enter Tryd.func8, Tryd.ntmps8
  go_wp2_with fail
  refine (unhide HG _ ((unhide HR).alloc _)).mono ?_
  rintro e w1 ⟨rfl, hb1⟩
  have X1 := hide (bh_step hb1 (bh_first (w := w) (f := 2) (bi := bi) (ve := ve) (d := d) (s := s) (t := t) (p := p) (ra := ra) (n := n) (cap := cap) 25))
  obtain ⟨c0, c1, c2, c3, c4, c5, c6, c7, c8, c9⟩ := unhide X1
  clear c9 hb1 HG
  have HW := hide (fun (w2 : World) (hb2 : Below w1.drew.heap.size w1.drew w2) => (bh_step hb2 (bh_drew (unhide X1))))
  go_wp2_with (go_at_call 22; refine (unhide HF _).mono ?_; rintro e wf ⟨rfl, rfl⟩)
  have HP := hide (fun (w2 : World) (B2 : Below w.heap.size w w2) => ap_2 (.slice (some ⟨w2.heap.size, 0, none⟩) 1 1) (fx (224 + bi) 1 1) bi ve d s t p ra n cap (w2.alloc (.cells #[.int .u8 (224 + bi)] 5)) w2.heap.size (ow_lit w2 w2.heap.size (224 + bi) (by omega) (by omega) (Nat.le_refl _)) (by simp) ((unhide HT).below (B2.alloc B2.size _)) (Nat.lt_of_lt_of_le hg1 B2.size) (by rw [fx_length]; omega) hd hs ht hp hv0 hv1)
  go_region_with (first | (go_at_call 108; with_reducible refine (unhide HM _).mono ?_; rintro e w2 ⟨rfl, hb2⟩; obtain ⟨f0, f1, f2, f3, f4, f5, f6, f7, f8, f9⟩ := unhide HW w2 hb2) | (go_at_call 23; have hyy := unhide HP w2 f9; refine hyy.mono ?_; clear hyy; rintro e w3 ⟨v3, rfl, o3, b3⟩; have hb3 : Below w2.heap.size w2 w3 := ((Below.refl w2.heap.size w2).alloc (Nat.le_refl _) _).trans b3; have hcv := own_string Tryd.prog w3 w2.heap.size 22 9 5 _ _ _ Tryd.underlying22 Tryd.underlying5 Tryd.underlying9 o3))
  all_goals
    have Z := (unhide HW w2 hb2).2.2.2.2.2.2.2.2.2
    have Z3 := Z.trans (hb3.mono Z.size)
    clear Z o3 b3 hb3 hcv HP HW HM X1
    go_wp2
    go_ret2
    exact ⟨rfl, Z3⟩

set_option maxRecDepth 100000 in
set_option maxHeartbeats 4000000 in
theorem implHB_3 (bi ve : Int) (d s t p : ByteArray) (ra : Option Addr) (n cap : Nat) (V : Nat → Int) (w : World) (htz : Tz w) (hR : Ia w ra n cap V) (h : gh 3 bi ve d.size s.size t.size p.size n V = true) (b0 : 0 ≤ bi) (b1 : bi ≤ 15) (hd : d.size ≤ 20) (hs : s.size ≤ 20) (ht : t.size ≤ 200) (hp : p.size ≤ 1200) (hv0 : 0 ≤ ve) (hv1 : ve ≤ 4294967295) (hn : n ≤ 20) (hN : ∀ i, i < n → 0 ≤ V i ∧ V i ≤ 4294967295) :
    Calls Tryd.prog 8 #[hv 3 bi ve d s t p ra n cap] w fun e w' => e = .returned (.tuple #[.string ⟨(fx (240 + bi) 1 1 ++ (AD ve d s ++ p.data.toList)).toArray⟩, .bool true]) ∧ Below w.heap.size w w' := by
  have HG := hide (fun W (hr : Ia W ra n cap V) => implGood_any 3 bi ve d s t p ra n cap V W (by omega) (by omega) (by omega) (by omega) (by omega) hr)
  rw [h] at HG
  clear h
  have HM := hide (fun W => mark_3 W)
  have mm := meth_3
  have HF := hide (fun W => formOf_3 W)
  have HR := hide hR
  have HT := hide htz
  have HNn := hide hN
  have hg1 := tz_lt htz
  have e1 : bits .or .i64 240 bi = 240 + bi := or_m 240 bi b0 b1 (by omega) (by omega) (by omega)
  have wb : IntKind.u8.wrap (240 + bi) = 240 + bi := by rw [IntKind.wrap_u8]; omega
  clear hR htz hN
  go_enter Tryd.func8, Tryd.ntmps8
  go_wp2_with fail
  refine (unhide HG _ ((unhide HR).alloc _)).mono ?_
  rintro e w1 ⟨rfl, hb1⟩
  have X1 := hide (bh_step hb1 (bh_first (w := w) (f := 3) (bi := bi) (ve := ve) (d := d) (s := s) (t := t) (p := p) (ra := ra) (n := n) (cap := cap) 25))
  obtain ⟨c0, c1, c2, c3, c4, c5, c6, c7, c8, c9⟩ := unhide X1
  clear c9 hb1 HG
  have HW := hide (fun (w2 : World) (hb2 : Below w1.drew.heap.size w1.drew w2) => (bh_step hb2 (bh_drew (unhide X1))))
  go_wp2_with (go_at_call 22; refine (unhide HF _).mono ?_; rintro e wf ⟨rfl, rfl⟩)
  have HP := hide (fun (w2 : World) (B2 : Below w.heap.size w w2) => ap_3 (.slice (some ⟨w2.heap.size, 0, none⟩) 1 1) (fx (240 + bi) 1 1) bi ve d s t p ra n cap (w2.alloc (.cells #[.int .u8 (240 + bi)] 5)) w2.heap.size (ow_lit w2 w2.heap.size (240 + bi) (by omega) (by omega) (Nat.le_refl _)) (by simp) ((unhide HT).below (B2.alloc B2.size _)) (Nat.lt_of_lt_of_le hg1 B2.size) (by rw [fx_length]; omega) hd hs ht hp hv0 hv1)
  go_region_with (first | (go_at_call 109; with_reducible refine (unhide HM _).mono ?_; rintro e w2 ⟨rfl, hb2⟩; obtain ⟨f0, f1, f2, f3, f4, f5, f6, f7, f8, f9⟩ := unhide HW w2 hb2) | (go_at_call 23; have hyy := unhide HP w2 f9; refine hyy.mono ?_; clear hyy; rintro e w3 ⟨v3, rfl, o3, b3⟩; have hb3 : Below w2.heap.size w2 w3 := ((Below.refl w2.heap.size w2).alloc (Nat.le_refl _) _).trans b3; have hcv := own_string Tryd.prog w3 w2.heap.size 22 9 5 _ _ _ Tryd.underlying22 Tryd.underlying5 Tryd.underlying9 o3))
  all_goals
    have Z := (unhide HW w2 hb2).2.2.2.2.2.2.2.2.2
    have Z3 := Z.trans (hb3.mono Z.size)
    clear Z o3 b3 hb3 hcv HP HW HM X1
    go_wp2
    go_ret2
    exact ⟨rfl, Z3⟩

end Go.Proofs.YtgjohakjknmngaaDoor
