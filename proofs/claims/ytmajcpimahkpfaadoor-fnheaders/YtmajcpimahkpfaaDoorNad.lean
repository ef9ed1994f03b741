/-
  Contracts: a header's address and its payload put behind a slice that the call owns.
-/
import Derived.Test.YtmajcpimahkpfaaDoorAwd
import Derived.Test.YtmajcpimahkpfaaDoorHcp
import Derived.Deep.RegionHeld3
import Derived.Deep.AppendLies
namespace Go.Proofs.YtmajcpimahkpfaaDoor
open Go.ChangeShapes Go.WideShapes Go.ChangeAt Go.RowKit
set_option linter.unusedVariables false

theorem heap_drew' {w : World} {k : Nat} {x : Option Obj} (h : w.heap[k]? = x) : w.drew.heap[k]? = x := h
theorem own_lt {base : Nat} {w : World} {v : Value} {xs : List UInt8} (h : Ow base w v xs) : v.ownBlock ≠ some w.heap.size := fun e => by have := (World.ownsRow.lt h _ e).2; omega
theorem own_lt1 {base : Nat} {w : World} {v : Value} {xs : List UInt8} (h : Ow base w v xs) : v.ownBlock ≠ some (w.heap.size + 1) := fun e => by have := (World.ownsRow.lt h _ e).2; omega
theorem ow_byte {base : Nat} {w' : World} {v' : Value} {xs : List UInt8} {k : Int} {m : Nat} (ho : w'.ownsRow base 5 1 v' m (bs xs ++ [.int .u8 k])) (hm : m = xs.length + 1) (h0 : 0 ≤ k) (h1 : k ≤ 255) : Ow base w' v' (xs ++ fx k 1 1) := by
  subst hm
  unfold Ow
  have e := bs_step k 1 0 0 k (by omega) (by omega)
  rw [bs_append, List.length_append, fx_length]
  rw [show fx k 1 (0 + 1) = fx k 1 1 from rfl] at e
  rw [e]
  simpa [fx, bs] using ho
/-- a text put behind what the call owns, at a step of a drawn order -/
theorem step_append_string {P : Program} (w : World) {ops : Array Oper} {o : Oper} {a : Act} {K : Act → World → Prop} {Q : Exit → Act → World → Prop} {E : Prop} (hgd : o.guard = none) (sl x : Operand) (t u : TypeId)
    (ho : o.op = .call { callee := .builtin .append, args := #[sl, x], argTypes := #[t, u] })
    (base : Nat) (e : TypeId) (i : TypeInfo) (ht : P.underlying t = some (.slice e)) (hu : P.underlying u = some .string) (hi : P.info? e = some i) (hz : i.zero = some (.int .u8 0))
    (hsize : i.size = 1) (hby : i.bytes = 1)
    (v : Value) (n : Nat) (xs : List Value) (hs : a.eval sl = v) (hown : w.ownsRow base e 1 v n xs) (s : ByteArray) (hx : a.eval x = .string s)
    (h63 : n + s.size ≤ maxLen) (hbytes : n + s.size ≤ 140737488355328) (hbase : base ≤ w.heap.size)
    (h : ∀ v' w', w'.ownsRow base e 1 v' (n + s.size) (xs ++ Lib.strCells s) → w.grownBy w' v.ownBlock → K (a.put o.dst v') w') :
    if Region.wanted o (yielded ops a.tmps) = true then Oper.wp P o a w K Q else E := by
  have hw : Region.wanted o (yielded ops a.tmps) = true := by simp [Region.wanted, hgd]
  rw [if_pos hw]
  obtain ⟨v', w', hr, h2, h3, h4⟩ := Lib.run_append_own_string (P := P) w base t u o.type e i ht hu hi hz hsize hby v n xs hown s h63 hbytes hbase
  unfold Oper.wp execOp
  simp only [ho, resolve, invoke, builtin, Sem.run_bind, Sem.run_pure, Result.andThen_ok, List.map_toArray, List.map_cons, List.map_nil, hs, hx, hr]
  exact h v' w' h2 h3

theorem bs_fx1 (n : Int) (h0 : 0 ≤ n) (h1 : n ≤ 255) : bs (fx n 1 1) = [.int .u8 n] := by
  have h : ((bt n 0).toNat : Int) = n := by have := bt_toNat n 0; simp at this; omega
  show [Value.int .u8 ((bt n 0).toNat : Int)] = _
  rw [h]
theorem bs_fx2 (n : Int) (h0 : 0 ≤ n) (h1 : n ≤ 65535) : bs (fx n 2 2) = [.int .u8 (n / 256), .int .u8 (n % 256)] := by
  have h : ((bt n 0).toNat : Int) = n % 256 := by have := bt_toNat n 0; simpa using this
  have h1 : ((bt n 1).toNat : Int) = n / 256 % 256 := bt_toNat n 1
  have h2 : n / 256 % 256 = n / 256 := by omega
  show [Value.int .u8 ((bt n 1).toNat : Int), .int .u8 ((bt n 0).toNat : Int)] = _
  rw [h, h1, h2]
theorem or_told (n : Nat) (h : n ≤ 1200) : bits .or .i64 16384 (n : Int) = (n : Int) + 16384 := by rw [or_swap, or_two _ (by omega) (by omega)]
/-- a row that was put behind: what is owned now, and what is as it was -/
theorem put_some {base : Nat} {w w' : World} {v : Value} {xs ys : List UInt8} {g cap m : Nat} {o : Obj} {news : List Value} (h : Ow base w v xs) (ho : w'.ownsRow base 5 1 (.slice (some ⟨g, 0, none⟩) m cap) m (bs xs ++ news)) (hg : (w.alloc o).grownBy w' v.ownBlock) (hm : m = xs.length + ys.length) (hn : news = bs ys) (hb : base ≤ w.heap.size) :
    Ow base w' (.slice (some ⟨g, 0, none⟩) m cap) (xs ++ ys) ∧ Below base w w' ∧ Kn w w' := by
  subst hn
  refine ⟨ow_news ho hm, ((Below.refl _ _).alloc hb _).trans ((h.alloc o).below hg (by simp; omega)), ?_⟩
  exact fun i cur t fr hi ht => (h.alloc o).kn hg i cur t fr (heap_old w o i _ hi) ht
theorem put_text {base : Nat} {w w' : World} {v v' : Value} {xs : List UInt8} {s : ByteArray} {m : Nat} (h : Ow base w v xs) (ho : w'.ownsRow base 5 1 v' m (bs xs ++ Lib.strCells s)) (hg : w.grownBy w' v.ownBlock) (hm : m = xs.length + s.size) (hb : base ≤ w.heap.size) :
    Ow base w' v' (xs ++ s.data.toList) ∧ Below base w w' ∧ Kn w w' := ⟨ow_text h ho hm, h.below hg hb, h.kn hg⟩

set_option maxHeartbeats 2000000 in
theorem appendPayload_ow (v : Value) (xs : List UInt8) (p : ByteArray) (w : World) (base : Nat) (h : Ow base w v xs) (hbase : base ≤ w.heap.size) (hlen : xs.length ≤ 1048576) (hp : p.size ≤ 1200) :
    Calls Tryd.prog 27 #[v, .string p] w fun e w' => ∃ v', e = .returned v' ∧ Ow base w' v' (xs ++ (fx ((p.size : Int) + 16384) 2 2 ++ p.data.toList)) ∧ Below base w w' ∧ Kn w w' := by
  obtain ⟨i0, hi, hz0, hz1, hz2⟩ := info_parts Tryd.info5
  have et := or_told p.size hp
  have HO := hide h
  clear h
  go_enter Tryd.func27, Tryd.ntmps27
  go_wp2_with (at_builtin; refine wpList_append_lies _ rfl _ _ 22 rfl base 5 i0 (.int .u8 0) 1 1 Tryd.underlying22 hi hz0 hz1 hz2 rfl (by decide) _ _ _ rfl ((unhide HO).alloc _) ⟨w.heap.size, 0, none⟩ 2 2 [.int .u8 (((p.size : Int) + 16384) / 256), .int .u8 (((p.size : Int) + 16384) % 256)] rfl rfl ?c1 ?c2 (by omega) ?c3 ?c4 ?c5 (w.heap.size + 1) (by simp) ?_)
  case c1 =>
    intro j u hj
    match j, hj with
    | 0, hj => simp at hj; subst hj; simp [Addr.add]
    | 1, hj => simp at hj; subst hj; simp [Addr.add]
  case c2 => intro u hu; simp at hu; rcases hu with rfl | rfl <;> rfl
  case c3 => unfold maxLen; omega
  case c4 => omega
  case c5 => simp; omega
  intro g1 cap1 w1 ho1 hg1 hat1 hlt1
  obtain ⟨O1, B1, K1⟩ := put_some (ys := fx ((p.size : Int) + 16384) 2 2) (unhide HO) ho1 hg1 (by rw [fx_length]) (bs_fx2 _ (by omega) (by omega)).symm hbase
  have s1 := B1.size
  clear ho1 hg1 hat1
  have hl1 := fx_length ((p.size : Int) + 16384) 2 2
  go_wp2_with (at_builtin; refine Lib.wpList_append_own_string _ rfl _ _ 22 9 rfl base 5 i0 Tryd.underlying22 Tryd.underlying9 hi hz0 hz1 hz2 _ _ _ rfl O1 p rfl ?d1 ?d2 ?d3 ?_)
  case d1 => rw [List.length_append]; unfold maxLen; omega
  case d2 => rw [List.length_append]; omega
  case d3 => omega
  intro v2 w2 ho2 hg2 _
  obtain ⟨O2, B2, K2⟩ := put_text O1 ho2 hg2 (by rw [List.length_append, hl1]) (by omega)
  rw [List.append_assoc] at O2
  clear ho2 hg2 O1
  go_wp2
  go_ret
  exact ⟨_, rfl, O2, B1.trans B2, K1.trans K2⟩

/-- block q holds the header -/
abbrev Hb (q : Nat) (f bi ve : Int) (d s t p : ByteArray) (ra : Option Addr) (n cap : Nat) (W : World) : Prop :=
  W.heap[q]? = some (.cells #[.int .i64 f, .int .i64 bi, .int .i64 ve, .string d, .string s, .string t, .string p, .slice ra n cap] 25 (0, 0))
/-- .. and so do its cells -/
abbrev Sh (q : Nat) (f bi ve : Int) (d s t p : ByteArray) (ra : Option Addr) (n cap : Nat) (W : World) : Prop :=
  W.cell? ⟨q, 0, none⟩ = some (.int .i64 f) ∧ W.cell? ⟨q, 1, none⟩ = some (.int .i64 bi) ∧ W.cell? ⟨q, 2, none⟩ = some (.int .i64 ve) ∧ W.cell? ⟨q, 3, none⟩ = some (.string d) ∧
  W.cell? ⟨q, 4, none⟩ = some (.string s) ∧ W.cell? ⟨q, 5, none⟩ = some (.string t) ∧ W.cell? ⟨q, 6, none⟩ = some (.string p) ∧ W.cell? ⟨q, 7, none⟩ = some (.slice ra n cap) ∧ q < W.heap.size
section
variable {q : Nat} {f bi ve : Int} {d s t p : ByteArray} {ra : Option Addr} {n cap : Nat} {W : World}
theorem sh_mk (h : Hb q f bi ve d s t p ra n cap W) : Sh q f bi ve d s t p ra n cap W :=
  ⟨cell_in h 0, cell_in h 1, cell_in h 2, cell_in h 3, cell_in h 4, cell_in h 5, cell_in h 6, cell_in h 7, World.block_lt_of_cell? W ⟨q, 0, none⟩ (cell_in h 0)⟩
theorem sh_alloc (o : Obj) (h : Sh q f bi ve d s t p ra n cap W) : Sh q f bi ve d s t p ra n cap (W.alloc o) := by
  obtain ⟨h0, h1, h2, h3, h4, h5, h6, h7, hl⟩ := h
  have k := (Below.refl W.heap.size W).alloc (Nat.le_refl _) o
  exact ⟨(k.cell (p := ⟨q, 0, none⟩) hl).trans h0, (k.cell (p := ⟨q, 1, none⟩) hl).trans h1, (k.cell (p := ⟨q, 2, none⟩) hl).trans h2, (k.cell (p := ⟨q, 3, none⟩) hl).trans h3, (k.cell (p := ⟨q, 4, none⟩) hl).trans h4, (k.cell (p := ⟨q, 5, none⟩) hl).trans h5, (k.cell (p := ⟨q, 6, none⟩) hl).trans h6, (k.cell (p := ⟨q, 7, none⟩) hl).trans h7, Nat.lt_of_lt_of_le hl k.size⟩
end

set_option maxRecDepth 100000 in
set_option maxHeartbeats 2000000 in
theorem appendAddress_ow (v : Value) (xs : List UInt8) (f bi ve : Int) (d s t p : ByteArray) (ra : Option Addr) (n cap : Nat) (w : World) (base : Nat) (h : Ow base w v xs) (hbase : base ≤ w.heap.size) (hlen : xs.length ≤ 1000000) (hd : d.size ≤ 20) (hs : s.size ≤ 20) (hv0 : 0 ≤ ve) (hv1 : ve ≤ 4294967295) :
    Calls Tryd.prog 26 #[v, hv f bi ve d s t p ra n cap] w fun e w' => ∃ v', e = .returned v' ∧ Ow base w' v' (xs ++ (fx ve 4 4 ++ (fx (d.size : Int) 1 1 ++ (d.data.toList ++ (fx (s.size : Int) 1 1 ++ s.data.toList))))) ∧ Below base w w' ∧ Kn w w' := by
  obtain ⟨i0, hi, hz0, hz1, hz2⟩ := info_parts Tryd.info5
  have wd : IntKind.u8.wrap (d.size : Int) = d.size := by rw [IntKind.wrap_u8]; omega
  have ws : IntKind.u8.wrap (s.size : Int) = s.size := by rw [IntKind.wrap_u8]; omega
  have HO := hide h
  clear h
  go_enter Tryd.func26, Tryd.ntmps26
  go_wp2_with fail
  have O0 := ((unhide HO).alloc (.cells #[.int .i64 f, .int .i64 bi, .int .i64 ve, .string d, .string s, .string t, .string p, .slice ra n cap] 25)).alloc (.cells #[.int .i64 ve] 3)
  have P0 := heap_new (w.alloc (.cells #[.int .i64 f, .int .i64 bi, .int .i64 ve, .string d, .string s, .string t, .string p, .slice ra n cap] 25)) (.cells #[.int .i64 ve] 3)
  rw [World.size_alloc] at P0
  have Q0 := heap_old _ (.cells #[.int .i64 ve] 3) _ _ (heap_new w (.cells #[.int .i64 f, .int .i64 bi, .int .i64 ve, .string d, .string s, .string t, .string p, .slice ra n cap] 25))
  refine (appendWords_ow v xs (w.heap.size + 1) 0 1 1 (fun _ => ve) _ base O0 (by simp; omega) (by omega) (by omega) (fun W u hg i hi => by
    obtain rfl : i = 0 := by omega
    exact cell_in (hg.keep P0 (O0.far P0 (by decide))) 0) (fun i hi => ⟨hv0, hv1⟩)).mono ?_
  rintro e w1 ⟨v1, rfl, o1, g1⟩
  have F1 : Hb w.heap.size f bi ve d s t p ra n cap w1 := g1.keep Q0 (O0.far Q0 (by decide))
  have B1 : Below base w w1 := (((Below.refl _ _).alloc hbase _).alloc (by simp; omega) _).trans (g1.below O0 (by simp; omega))
  have K1 : Kn w w1 := fun i cur t fr hi ht => O0.kn g1.grown i cur t fr (heap_old _ _ i _ (heap_old w _ i _ hi)) ht
  have o1' : Ow base w1 v1 (xs ++ fx ve 4 4) := o1
  have N1 : base ≤ w1.heap.size := Nat.le_trans hbase B1.size
  clear O0 P0 Q0 g1 o1
  have L1 : (xs ++ fx ve 4 4).length = xs.length + 4 := by rw [List.length_append, fx_length]
  have HO1 := hide o1'
  have HF1 := hide F1
  have HOb := hide (Ow.drew (Ow.alloc o1' (.cells #[.int .u8 (d.size : Int)] 5)))
  have HKb := hide (heap_drew' (heap_new w1 (.cells #[.int .u8 (d.size : Int)] 5)))
  have HFb := hide (heap_drew' (heap_old w1 (.cells #[.int .u8 (d.size : Int)] 5) _ _ F1))
  have HBb := hide ((B1.alloc N1 (.cells #[.int .u8 (d.size : Int)] 5)).drew)
  have HKn := hide (fun i cur t fr hi ht => heap_drew' (heap_old w1 (.cells #[.int .u8 (d.size : Int)] 5) i _ (K1 i cur t fr hi ht)))
  clear K1
  obtain ⟨c0, c1, c2, c3, c4, c5, c6, c7, c8⟩ := sh_mk F1
  clear F1 o1'
  go_wp2_with fail
  go_region_held3 (fun W => Sh w.heap.size f bi ve d s t p ra n cap W) (first | assumption | exact sh_mk F3 | exact sh_mk F2 | exact sh_alloc _ (by assumption) | exact sh_mk (unhide HF1)) (first | (refine step_append_lies _ rfl _ _ 22 rfl base 5 i0 (.int .u8 0) 1 1 Tryd.underlying22 hi hz0 hz1 hz2 rfl (by decide) _ _ _ rfl (unhide HOb) ⟨w1.heap.size, 0, none⟩ 1 1 [.int .u8 (d.size : Int)] rfl rfl (World.news_of_block (unhide HKb)) (by intro u hu; simp at hu; subst hu; rfl) (by omega) (by unfold maxLen; omega) (by omega) (by simp; omega) _ rfl ?_; intro g2 cap2 w2 ho2 hg2 hat2 hlt2; have F2 := Ow.kn (unhide HOb) hg2 _ _ _ _ (unhide HFb) (by decide); have o2 := ow_byte ho2 rfl (by omega) (by omega); have B2 : Below base w w2 := (unhide HBb).trans (Ow.below (unhide HOb) hg2 (by simp; omega)); have K2 : Kn w w2 := (fun i cur t fr hi ht => Ow.kn (unhide HOb) hg2 i cur t fr (unhide HKn i cur t fr hi ht) ht)) | (refine step_append_string _ rfl _ _ 22 9 rfl base 5 i0 Tryd.underlying22 Tryd.underlying9 hi hz0 hz1 hz2 _ _ _ rfl o2 d rfl (by rw [List.length_append, L1, fx_length]; unfold maxLen; omega) (by rw [List.length_append, L1, fx_length]; omega) (Nat.le_trans hbase B2.size) ?_; intro v3 w3 ho3 hg3; have o3 := ow_text o2 ho3 rfl; have F3 := Ow.kn o2 hg3 _ _ _ _ F2 (by decide); have B3 : Below base w w3 := B2.trans (Ow.below o2 hg3 (Nat.le_trans hbase B2.size)); have K3 : Kn w w3 := K2.trans (Ow.kn o2 hg3)))
  all_goals
    have N3 : base ≤ w3.heap.size := Nat.le_trans hbase B3.size
    have L3 : (xs ++ fx ve 4 4 ++ fx (d.size : Int) 1 1 ++ d.data.toList).length = xs.length + 5 + d.size := by rw [List.length_append, List.length_append, L1, fx_length, show d.data.toList.length = d.size by simp]
    have HF3 := hide F3
    have HOc := hide (Ow.drew (Ow.alloc o3 (.cells #[.int .u8 (s.size : Int)] 5)))
    have HKc := hide (heap_drew' (heap_new w3 (.cells #[.int .u8 (s.size : Int)] 5)))
    have HFc := hide (heap_drew' (heap_old w3 (.cells #[.int .u8 (s.size : Int)] 5) _ _ F3))
    have HBc := hide ((B3.alloc N3 (.cells #[.int .u8 (s.size : Int)] 5)).drew)
    have HKm := hide (fun i cur t fr hi ht => heap_drew' (heap_old w3 (.cells #[.int .u8 (s.size : Int)] 5) i _ (K3 i cur t fr hi ht)))
    obtain ⟨d0, d1, d2, d3, d4, d5, d6, d7, d8⟩ := sh_mk F3
    clear HO1 HF1 HOb HKb HFb HBb HKn ho2 hg2 hat2 hlt2 F2 o2 B2 K2 ho3 hg3 o3 F3 K3
    go_wp2_with fail
    go_region_held3 (fun W => Sh w.heap.size f bi ve d s t p ra n cap W) (first | assumption | exact sh_mk F5 | exact sh_mk F4 | exact sh_alloc _ (by assumption) | exact sh_mk (unhide HF3)) (first | (refine step_append_lies _ rfl _ _ 22 rfl base 5 i0 (.int .u8 0) 1 1 Tryd.underlying22 hi hz0 hz1 hz2 rfl (by decide) _ _ _ rfl (unhide HOc) ⟨w3.heap.size, 0, none⟩ 1 1 [.int .u8 (s.size : Int)] rfl rfl (World.news_of_block (unhide HKc)) (by intro u hu; simp at hu; subst hu; rfl) (by omega) (by unfold maxLen; omega) (by omega) (by simp; omega) _ rfl ?_; intro g4 cap4 w4 ho4 hg4 hat4 hlt4; have F4 := Ow.kn (unhide HOc) hg4 _ _ _ _ (unhide HFc) (by decide); have o4 := ow_byte ho4 rfl (by omega) (by omega); have B4 : Below base w w4 := (unhide HBc).trans (Ow.below (unhide HOc) hg4 (by simp; omega)); have K4 : Kn w w4 := (fun i cur t fr hi ht => Ow.kn (unhide HOc) hg4 i cur t fr (unhide HKm i cur t fr hi ht) ht)) | (refine step_append_string _ rfl _ _ 22 9 rfl base 5 i0 Tryd.underlying22 Tryd.underlying9 hi hz0 hz1 hz2 _ _ _ rfl o4 s rfl (by rw [List.length_append, L3, fx_length]; unfold maxLen; omega) (by rw [List.length_append, L3, fx_length]; omega) (Nat.le_trans hbase B4.size) ?_; intro v5 w5 ho5 hg5; have o5 := ow_text o4 ho5 rfl; have F5 := Ow.kn o4 hg5 _ _ _ _ F4 (by decide); have B5 : Below base w w5 := B4.trans (Ow.below o4 hg5 (Nat.le_trans hbase B4.size)); have K5 : Kn w w5 := K4.trans (Ow.kn o4 hg5)))
    all_goals
      have O5 : Ow base w5 v5 (xs ++ (fx ve 4 4 ++ (fx (d.size : Int) 1 1 ++ (d.data.toList ++ (fx (s.size : Int) 1 1 ++ s.data.toList))))) := by simpa [List.append_assoc] using o5
      clear o5 ho5 hg5 ho4 hg4 o4
      go_wp2
      go_ret
      exact ⟨_, rfl, O5, B5, K5⟩
end Go.Proofs.YtmajcpimahkpfaaDoor
