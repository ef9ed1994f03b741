/-
  Contract: the bytes of a frame with a new id, as the program puts them behind.
-/
import Derived.Test.YtcnpbcigndcheaaDoorApg
import Derived.Deep.AppendLies
namespace Go.Proofs.YtcnpbcigndcheaaDoor
open Go.ChangeShapes Go.WideShapes Go.ChangeAt Go.RowKit
set_option linter.unusedVariables false
theorem heap_drew' {w : World} {k : Nat} {x : Option Obj} (h : w.heap[k]? = x) : w.drew.heap[k]? = x := h
theorem own_lt {base : Nat} {w : World} {v : Value} {xs : List UInt8} (h : Ow base w v xs) : v.ownBlock ≠ some w.heap.size := fun e => by have := (World.ownsRow.lt h _ e).2; omega
theorem own_lt1 {base : Nat} {w : World} {v : Value} {xs : List UInt8} (h : Ow base w v xs) : v.ownBlock ≠ some (w.heap.size + 1) := fun e => by have := (World.ownsRow.lt h _ e).2; omega
theorem ow_byte {base : Nat} {w' : World} {v' : Value} {xs : List UInt8} {k : Int} {m : Nat} (ho : w'.ownsRow base 5 1 v' m (bs xs ++ [.int .u8 k])) (hm : m = xs.length + 1) (h0 : 0 ≤ k) (h1 : k ≤ 255) : Ow base w' v' (xs ++ fx k 1 1) := by
  subst hm
  unfold Ow
  have e := bs_step k 1 0 0 k (by omega) (by omega)
  rw [bs_append, List.length_append, fx_length]
  rw [show fx k 1 (0 + 1) = fx k 1 1 from rfl] at e
  rw [e]
  simpa [fx, bs] using ho
/-- a text put behind what the call owns, at a step of a drawn order -/
theorem step_append_string {P : Program} (w : World) {ops : Array Oper} {o : Oper} {a : Act} {K : Act → World → Prop} {Q : Exit → Act → World → Prop} {E : Prop} (hgd : o.guard = none) (sl x : Operand) (t u : TypeId)
    (ho : o.op = .call { callee := .builtin .append, args := #[sl, x], argTypes := #[t, u] })
    (base : Nat) (e : TypeId) (i : TypeInfo) (ht : P.underlying t = some (.slice e)) (hu : P.underlying u = some .string) (hi : P.info? e = some i) (hz : i.zero = some (.int .u8 0))
    (hsize : i.size = 1) (hby : i.bytes = 1)
    (v : Value) (n : Nat) (xs : List Value) (hs : a.eval sl = v) (hown : w.ownsRow base e 1 v n xs) (s : ByteArray) (hx : a.eval x = .string s)
    (h63 : n + s.size ≤ maxLen) (hbytes : n + s.size ≤ 140737488355328) (hbase : base ≤ w.heap.size)
    (h : ∀ v' w', w'.ownsRow base e 1 v' (n + s.size) (xs ++ Lib.strCells s) → w.grownBy w' v.ownBlock → K (a.put o.dst v') w') :
    if Region.wanted o (yielded ops a.tmps) = true then Oper.wp P o a w K Q else E := by
  have hw : Region.wanted o (yielded ops a.tmps) = true := by simp [Region.wanted, hgd]
  rw [if_pos hw]
  obtain ⟨v', w', hr, h2, h3, h4⟩ := Lib.run_append_own_string (P := P) w base t u o.type e i ht hu hi hz hsize hby v n xs hown s h63 hbytes hbase
  unfold Oper.wp execOp
  simp only [ho, resolve, invoke, builtin, Sem.run_bind, Sem.run_pure, Result.andThen_ok, List.map_toArray, List.map_cons, List.map_nil, hs, hx, hr]
  exact h v' w' h2 h3

set_option maxRecDepth 100000 in
set_option maxHeartbeats 2000000 in
theorem appendFrame_24 (v : Value) (xs : List UInt8) (a b c : Int) (s : ByteArray) (g off n cap : Nat) (w : World) (base : Nat) (h : Ow base w v xs) (hbase : base ≤ w.heap.size) (htz : Tz w) (hg1 : 1 < base) (hlen : xs.length ≤ 900000) (hs : s.size ≤ 1000) (ha0 : 0 ≤ a) (ha1 : a ≤ 4611686018427387903) (hb0 : 0 ≤ b) (hb1 : b ≤ 4611686018427387903) (hc0 : 0 ≤ c) (hc1 : c ≤ 4611686018427387903) (hs1 : 1 ≤ s.size) (hs20 : s.size ≤ 20) (hc255 : c ≤ 255) :
    Calls Tryd.prog 14 #[v, fv 24 a b c false s g off n cap] w fun e w' => ∃ v', e = .returned v' ∧ Ow base w' v' (xs ++ (vb 24 ++ (vb a ++ vb b ++ (fx s.size 1 1 ++ (s.data.toList ++ fx c 1 1))))) ∧ Below base w w' := by
  have hlk := vb_le 24
  have hl0 := vb_le a
  have hl1 := vb_le b
  have A1 : Below w.heap.size w (w.alloc (.cells #[.int .i64 24, .int .i64 a, .int .i64 b, .int .i64 c, .bool false, .string s, .slice (some ⟨g, off, none⟩) n cap] 36)) := (Below.refl _ _).alloc (Nat.le_refl _) _
  have F1 : Fb w.heap.size 24 a b c false s g off n cap (w.alloc (.cells #[.int .i64 24, .int .i64 a, .int .i64 b, .int .i64 c, .bool false, .string s, .slice (some ⟨g, off, none⟩) n cap] 36)) := heap_new w _
  have O1 : Ow base (w.alloc (.cells #[.int .i64 24, .int .i64 a, .int .i64 b, .int .i64 c, .bool false, .string s, .slice (some ⟨g, off, none⟩) n cap] 36)) v xs := h.alloc _
  have HT := hide htz
  have HF := hide F1
  have HO := hide O1
  have HA := hide A1
  clear A1 F1 O1 h htz
  go_enter Tryd.func14, Tryd.ntmps14
  go_wp2_with fail
  refine (toldKind_any 24 a b c 24 false s g off n cap _ (Or.inr (Or.inr (Or.inr (Or.inr (Or.inr ⟨by decide, by decide, rfl⟩)))))).mono ?_
  rintro e w1 ⟨rfl, hb1⟩
  have FA : Fb w.heap.size 24 a b c false s g off n cap w1 := (hb1.block w.heap.size (by simp)).trans (unhide HF)
  have OA : Ow base w1 v xs := (unhide HO).later hb1
  have BA : Below base w w1 := ((unhide HA).trans (hb1.mono (unhide HA).size)).mono hbase
  have HV := hide (appendVarint_ow v xs 24 w1 base OA (Nat.le_trans hbase BA.size) ((unhide HT).kept BA hg1) hg1 (by omega) (by omega) (by omega))
  clear hb1
  go_wp2_with fail
  refine (unhide HV).mono ?_
  rintro e w2 ⟨v2, rfl, o2, g2⟩
  have F2 := g2.keep FA (OA.far FA (by decide))
  have B2 : Below base w w2 := BA.trans (g2.below OA (Nat.le_trans hbase BA.size))
  have T2 := (unhide HT).kept B2 hg1
  have hb2 := Nat.le_trans hbase B2.size
  clear FA OA BA HV g2
  have HF2 := hide F2
  have HO2 := hide o2
  have HT2 := hide T2
  clear T2 o2
  obtain ⟨c0, c1, c2, c3, c4, c5, c6, c7⟩ := sf_mk F2
  clear F2
  obtain ⟨i0, hi, hz0, hz1, hz2⟩ := info_parts Tryd.info5
  have wu : IntKind.u8.wrap (s.size : Int) = s.size := by rw [IntKind.wrap_u8]; omega
  have D2 : Ow base w2 v2 _ := unhide HO2
  have G2 : Fb w.heap.size 24 a b c false s g off n cap w2 := unhide HF2
  have E1 : Below w2.heap.size w2 ((w2.alloc (.cells #[.int .i64 a, .int .i64 b] 3)).drew) := ((Below.refl _ w2).alloc (Nat.le_refl _) (.cells #[.int .i64 a, .int .i64 b] 3)).drew
  have E2 : Below w2.heap.size w2 (((w2.alloc (.cells #[.int .i64 a, .int .i64 b] 3)).alloc (.cells #[.int .u8 (s.size : Int)] 5)).drew) := (((Below.refl _ w2).alloc (Nat.le_refl _) (.cells #[.int .i64 a, .int .i64 b] 3)).alloc (by simp) (.cells #[.int .u8 (s.size : Int)] 5)).drew
  have E3 : Below w2.heap.size w2 (((w2.alloc (.cells #[.int .u8 (s.size : Int)] 5)).alloc (.cells #[.int .i64 a, .int .i64 b] 3)).drew) := (((Below.refl _ w2).alloc (Nat.le_refl _) (.cells #[.int .u8 (s.size : Int)] 5)).alloc (by simp) (.cells #[.int .i64 a, .int .i64 b] 3)).drew
  have hln : (xs ++ vb 24).length ≤ 1048576 := by rw [List.length_append]; omega
  have O1 : Ow base ((w2.alloc (.cells #[.int .i64 a, .int .i64 b] 3)).drew) v2 (xs ++ vb 24) := (D2.alloc (.cells #[.int .i64 a, .int .i64 b] 3)).drew
  have O2 : Ow base (((w2.alloc (.cells #[.int .i64 a, .int .i64 b] 3)).alloc (.cells #[.int .u8 (s.size : Int)] 5)).drew) v2 (xs ++ vb 24) := ((D2.alloc (.cells #[.int .i64 a, .int .i64 b] 3)).alloc (.cells #[.int .u8 (s.size : Int)] 5)).drew
  have O3 : Ow base (((w2.alloc (.cells #[.int .u8 (s.size : Int)] 5)).alloc (.cells #[.int .i64 a, .int .i64 b] 3)).drew) v2 (xs ++ vb 24) := ((D2.alloc (.cells #[.int .u8 (s.size : Int)] 5)).alloc (.cells #[.int .i64 a, .int .i64 b] 3)).drew
  have G1 : Fb w.heap.size 24 a b c false s g off n cap ((w2.alloc (.cells #[.int .i64 a, .int .i64 b] 3)).drew) := heap_drew' (heap_old w2 (.cells #[.int .i64 a, .int .i64 b] 3) _ _ G2)
  have G2' : Fb w.heap.size 24 a b c false s g off n cap (((w2.alloc (.cells #[.int .i64 a, .int .i64 b] 3)).alloc (.cells #[.int .u8 (s.size : Int)] 5)).drew) := heap_drew' (heap_old (w2.alloc (.cells #[.int .i64 a, .int .i64 b] 3)) (.cells #[.int .u8 (s.size : Int)] 5) _ _ (heap_old w2 (.cells #[.int .i64 a, .int .i64 b] 3) _ _ G2))
  have G3 : Fb w.heap.size 24 a b c false s g off n cap (((w2.alloc (.cells #[.int .u8 (s.size : Int)] 5)).alloc (.cells #[.int .i64 a, .int .i64 b] 3)).drew) := heap_drew' (heap_old (w2.alloc (.cells #[.int .u8 (s.size : Int)] 5)) (.cells #[.int .i64 a, .int .i64 b] 3) _ _ (heap_old w2 (.cells #[.int .u8 (s.size : Int)] 5) _ _ G2))
  have P1 : ((w2.alloc (.cells #[.int .i64 a, .int .i64 b] 3)).drew).heap[w2.heap.size]? = some (.cells #[.int .i64 a, .int .i64 b] 3) := heap_drew' (heap_new w2 (.cells #[.int .i64 a, .int .i64 b] 3))
  have P2 : (((w2.alloc (.cells #[.int .i64 a, .int .i64 b] 3)).alloc (.cells #[.int .u8 (s.size : Int)] 5)).drew).heap[w2.heap.size]? = some (.cells #[.int .i64 a, .int .i64 b] 3) := heap_drew' (heap_old (w2.alloc (.cells #[.int .i64 a, .int .i64 b] 3)) (.cells #[.int .u8 (s.size : Int)] 5) _ _ (heap_new w2 (.cells #[.int .i64 a, .int .i64 b] 3)))
  have P3 : (((w2.alloc (.cells #[.int .u8 (s.size : Int)] 5)).alloc (.cells #[.int .i64 a, .int .i64 b] 3)).drew).heap[w2.heap.size + 1]? = some (.cells #[.int .i64 a, .int .i64 b] 3) := heap_drew' (heap_new2 w2 (.cells #[.int .u8 (s.size : Int)] 5) (.cells #[.int .i64 a, .int .i64 b] 3))
  have Q2 : (((w2.alloc (.cells #[.int .i64 a, .int .i64 b] 3)).alloc (.cells #[.int .u8 (s.size : Int)] 5)).drew).heap[w2.heap.size + 1]? = some (.cells #[.int .u8 (s.size : Int)] 5) := heap_drew' (heap_new2 w2 (.cells #[.int .i64 a, .int .i64 b] 3) (.cells #[.int .u8 (s.size : Int)] 5))
  have Q3 : (((w2.alloc (.cells #[.int .u8 (s.size : Int)] 5)).alloc (.cells #[.int .i64 a, .int .i64 b] 3)).drew).heap[w2.heap.size]? = some (.cells #[.int .u8 (s.size : Int)] 5) := heap_drew' (heap_old (w2.alloc (.cells #[.int .u8 (s.size : Int)] 5)) (.cells #[.int .i64 a, .int .i64 b] 3) _ _ (heap_new w2 (.cells #[.int .u8 (s.size : Int)] 5)))
  have C1 := hide (appendNumbers_ow v2 (xs ++ vb 24) w2.heap.size 2 (n4 a b 0 0) #[.int .i64 a, .int .i64 b] (0, 0) ((w2.alloc (.cells #[.int .i64 a, .int .i64 b] 3)).drew) base O1 (Nat.le_trans hb2 E1.size) ((unhide HT2).below E1) hg1 hln (by omega) P1 (fun i hi => by rcases (show i = 0 ∨ i = 1 by omega) with rfl | rfl <;> rfl) (fun i hi => by rcases (show i = 0 ∨ i = 1 by omega) with rfl | rfl <;> simp [n4] <;> omega))
  have C2 := hide (appendNumbers_ow v2 (xs ++ vb 24) w2.heap.size 2 (n4 a b 0 0) #[.int .i64 a, .int .i64 b] (0, 0) (((w2.alloc (.cells #[.int .i64 a, .int .i64 b] 3)).alloc (.cells #[.int .u8 (s.size : Int)] 5)).drew) base O2 (Nat.le_trans hb2 E2.size) ((unhide HT2).below E2) hg1 hln (by omega) P2 (fun i hi => by rcases (show i = 0 ∨ i = 1 by omega) with rfl | rfl <;> rfl) (fun i hi => by rcases (show i = 0 ∨ i = 1 by omega) with rfl | rfl <;> simp [n4] <;> omega))
  have C3 := hide (appendNumbers_ow v2 (xs ++ vb 24) (w2.heap.size + 1) 2 (n4 a b 0 0) #[.int .i64 a, .int .i64 b] (0, 0) (((w2.alloc (.cells #[.int .u8 (s.size : Int)] 5)).alloc (.cells #[.int .i64 a, .int .i64 b] 3)).drew) base O3 (Nat.le_trans hb2 E3.size) ((unhide HT2).below E3) hg1 hln (by omega) P3 (fun i hi => by rcases (show i = 0 ∨ i = 1 by omega) with rfl | rfl <;> rfl) (fun i hi => by rcases (show i = 0 ∨ i = 1 by omega) with rfl | rfl <;> simp [n4] <;> omega))
  rw [vbs2] at C1 C2 C3
  have J1 := hide (fun (w3 : World) (v3 : Value) (g3 : Gr ((w2.alloc (.cells #[.int .i64 a, .int .i64 b] 3)).drew) w3 v2 v3) => And.intro (g3.keep G1 (O1.far G1 (by decide))) ((B2.trans (E1.mono hb2)).trans (g3.below O1 (Nat.le_trans hb2 E1.size))))
  have J2 := hide (fun (w3 : World) (v3 : Value) (g3 : Gr (((w2.alloc (.cells #[.int .i64 a, .int .i64 b] 3)).alloc (.cells #[.int .u8 (s.size : Int)] 5)).drew) w3 v2 v3) => And.intro (And.intro (g3.keep G2' (O2.far G2' (by decide))) ((B2.trans (E2.mono hb2)).trans (g3.below O2 (Nat.le_trans hb2 E2.size)))) (g3.keep Q2 (own_lt1 D2)))
  have J3 := hide (fun (w3 : World) (v3 : Value) (g3 : Gr (((w2.alloc (.cells #[.int .u8 (s.size : Int)] 5)).alloc (.cells #[.int .i64 a, .int .i64 b] 3)).drew) w3 v2 v3) => And.intro (And.intro (g3.keep G3 (O3.far G3 (by decide))) ((B2.trans (E3.mono hb2)).trans (g3.below O3 (Nat.le_trans hb2 E3.size)))) (g3.keep Q3 (own_lt D2)))
  clear D2 G2 E1 E2 E3 O1 O2 O3 G1 G2' G3 P1 P2 P3 Q2 Q3
  go_wp2_with fail
  go_region_held3 (fun W => Sf w.heap.size 24 a b c false s g off n cap W) (first | assumption | exact sf_mk F4 | exact sf_mk F3 | exact sf_alloc _ (by assumption) | exact sf_mk (unhide HF2)) (first | (refine step_append_lies _ rfl _ _ 40 rfl base 5 i0 (.int .u8 0) 1 1 Tryd.underlying40 hi hz0 hz1 hz2 rfl (by decide) _ _ _ rfl (World.ownsRow.alloc o3 _) ⟨w3.heap.size, 0, none⟩ 1 1 [.int .u8 (s.size : Int)] rfl rfl (cell_one_new _ _ _) (by intro u hu; simp at hu; subst hu; rfl) (by omega) (by unfold maxLen; (try simp only [List.length_append]); omega) (by (try simp only [List.length_append]); omega) (by have := B3.size; simp; omega) _ rfl ?_; intro g4 cap4 w4 ho4 hg4 hat4 hlt4; have F4 := Ow.kn (Ow.alloc o3 _) hg4 _ _ _ _ (heap_old _ _ _ _ F3) (by decide); have B4 : Below base w w4 := (B3.alloc (by have := B3.size; omega) _).trans (Ow.below (Ow.alloc o3 _) hg4 (by have := B3.size; simp; omega))) | (refine step_append_lies _ rfl _ _ 40 rfl base 5 i0 (.int .u8 0) 1 1 Tryd.underlying40 hi hz0 hz1 hz2 rfl (by decide) _ _ _ rfl o3 ⟨w2.heap.size + 1, 0, none⟩ 1 1 [.int .u8 (s.size : Int)] rfl rfl (World.news_of_block K3) (by intro u hu; simp at hu; subst hu; rfl) (by omega) (by unfold maxLen; (try simp only [List.length_append]); omega) (by (try simp only [List.length_append]); omega) (by have := B3.size; omega) _ rfl ?_; intro g4 cap4 w4 ho4 hg4 hat4 hlt4; have F4 := Ow.kn o3 hg4 _ _ _ _ F3 (by decide); have B4 : Below base w w4 := B3.trans (Ow.below o3 hg4 (by have := B3.size; omega))) | (refine step_append_lies _ rfl _ _ 40 rfl base 5 i0 (.int .u8 0) 1 1 Tryd.underlying40 hi hz0 hz1 hz2 rfl (by decide) _ _ _ rfl o3 ⟨w2.heap.size, 0, none⟩ 1 1 [.int .u8 (s.size : Int)] rfl rfl (World.news_of_block K3) (by intro u hu; simp at hu; subst hu; rfl) (by omega) (by unfold maxLen; (try simp only [List.length_append]); omega) (by (try simp only [List.length_append]); omega) (by have := B3.size; omega) _ rfl ?_; intro g4 cap4 w4 ho4 hg4 hat4 hlt4; have F4 := Ow.kn o3 hg4 _ _ _ _ F3 (by decide); have B4 : Below base w w4 := B3.trans (Ow.below o3 hg4 (by have := B3.size; omega))) | (go_at_call 31; with_reducible refine (unhide C3).mono ?_; rintro e w3 ⟨v3, rfl, o3, g3⟩; obtain ⟨⟨F3, B3⟩, K3⟩ := unhide J3 _ _ g3) | (go_at_call 31; with_reducible refine (unhide C1).mono ?_; rintro e w3 ⟨v3, rfl, o3, g3⟩; obtain ⟨F3, B3⟩ := unhide J1 _ _ g3) | (go_at_call 31; with_reducible refine (unhide C2).mono ?_; rintro e w3 ⟨v3, rfl, o3, g3⟩; obtain ⟨⟨F3, B3⟩, K3⟩ := unhide J2 _ _ g3))
  all_goals
    have O4 : Ow base w4 (Value.slice (some ⟨g4, 0, none⟩) (xs.length + ((vb 24).length + ((vb a).length + (vb b).length)) + 1) cap4) (xs ++ vb 24 ++ (vb a ++ vb b) ++ fx s.size 1 1) := ow_byte (by simpa only [List.length_append, Nat.add_assoc] using ho4) (by simp only [List.length_append]; omega) (by omega) (by omega)
    have hl4 : (xs ++ vb 24 ++ (vb a ++ vb b) ++ fx s.size 1 1).length ≤ 900100 := by simp only [List.length_append, fx_length]; omega
    have hl5 : (xs ++ vb 24 ++ (vb a ++ vb b) ++ fx s.size 1 1 ++ s.data.toList).length ≤ 900200 := by rw [List.length_append, show s.data.toList.length = s.size by simp]; omega
    have N4 : base ≤ w4.heap.size := Nat.le_trans hbase B4.size
    have HO4 := hide O4
    have HF4 := hide F4
    clear O4 ho4 hg4 hat4 hlt4 HF2 HO2 C1 C2 C3 J1 J2 J3
    obtain ⟨d0, d1, d2, d3, d4, d5, d6, d7⟩ := sf_mk F4
    clear F4
    have wc : IntKind.u8.wrap c = c := by rw [IntKind.wrap_u8]; omega
    have HOa := hide (Ow.drew (unhide HO4))
    have HOb := hide (Ow.drew (Ow.alloc (unhide HO4) (.cells #[.int .u8 c] 5)))
    have HKb := hide (heap_drew' (heap_new w4 (.cells #[.int .u8 c] 5)))
    have HNb := hide (own_lt (unhide HO4))
    go_wp2_with fail
    go_region_held3 (fun W => Sf w.heap.size 24 a b c false s g off n cap W) (first | assumption | exact sf_mk F6 | exact sf_mk F5 | exact sf_alloc _ (by assumption) | exact sf_mk (unhide HF4)) (first | (refine step_append_lies _ rfl _ _ 40 rfl base 5 i0 (.int .u8 0) 1 1 Tryd.underlying40 hi hz0 hz1 hz2 rfl (by decide) _ _ _ rfl (World.ownsRow.alloc o5 _) ⟨w5.heap.size, 0, none⟩ 1 1 [.int .u8 c] rfl rfl (cell_one_new _ _ _) (by intro u hu; simp at hu; subst hu; rfl) (by omega) (by unfold maxLen; omega) (by omega) (by have := B5.size; simp; omega) _ rfl ?_; intro g6 cap6 w6 ho6 hg6 hat6 hlt6; have F6 := Ow.kn (Ow.alloc o5 _) hg6 _ _ _ _ (heap_old _ _ _ _ F5) (by decide); have B6 : Below base w w6 := (B5.alloc (by have := B5.size; omega) _).trans (Ow.below (Ow.alloc o5 _) hg6 (by have := B5.size; simp; omega))) | (refine step_append_lies _ rfl _ _ 40 rfl base 5 i0 (.int .u8 0) 1 1 Tryd.underlying40 hi hz0 hz1 hz2 rfl (by decide) _ _ _ rfl o5 ⟨w4.heap.size, 0, none⟩ 1 1 [.int .u8 c] rfl rfl (World.news_of_block K5) (by intro u hu; simp at hu; subst hu; rfl) (by omega) (by unfold maxLen; omega) (by omega) (by have := B5.size; omega) _ rfl ?_; intro g6 cap6 w6 ho6 hg6 hat6 hlt6; have F6 := Ow.kn o5 hg6 _ _ _ _ F5 (by decide); have B6 : Below base w w6 := B5.trans (Ow.below o5 hg6 (by have := B5.size; omega))) | (refine step_append_string _ rfl _ _ 40 9 rfl base 5 i0 Tryd.underlying40 Tryd.underlying9 hi hz0 hz1 hz2 _ _ _ rfl (unhide HOa) s rfl (by unfold maxLen; omega) (by omega) N4 ?_; intro v5 w5 ho5 hg5; have o5 := ow_text (unhide HOa) ho5 rfl; have F5 := Ow.kn (unhide HOa) hg5 _ _ _ _ (heap_drew' (unhide HF4)) (by decide); have B5 : Below base w w5 := B4.drew.trans (Ow.below (unhide HOa) hg5 N4)) | (refine step_append_string _ rfl _ _ 40 9 rfl base 5 i0 Tryd.underlying40 Tryd.underlying9 hi hz0 hz1 hz2 _ _ _ rfl (unhide HOb) s rfl (by unfold maxLen; omega) (by omega) (Nat.le_trans N4 (by simp)) ?_; intro v5 w5 ho5 hg5; have o5 := ow_text (unhide HOb) ho5 rfl; have F5 := Ow.kn (unhide HOb) hg5 _ _ _ _ (heap_drew' (heap_old _ _ _ _ (unhide HF4))) (by decide); have B5 : Below base w w5 := ((B4.alloc N4 _).drew).trans (Ow.below (unhide HOb) hg5 (Nat.le_trans N4 (by simp))); have K5 := (hg5.block w4.heap.size (by simp) (fun e => unhide HNb e.symm)).trans (unhide HKb)))
    all_goals
      go_wp2
      go_ret
      exact ⟨_, rfl, by simpa [List.append_assoc, fx_length, Nat.add_assoc] using ow_byte ho6 rfl hc0 hc255, B6⟩
end Go.Proofs.YtcnpbcigndcheaaDoor
