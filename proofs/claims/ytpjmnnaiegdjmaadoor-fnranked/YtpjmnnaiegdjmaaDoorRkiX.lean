/-
  Contracts: RankBackends of the model. Contracts: RankBackends of the program: the scores sorted by the library's stable sort, the backends taken out in order. Contracts: RankBackends of the program, whole. Contracts: RankBackends of the model, whole. Who is first and who is second in rank.
-/
import Derived.Test.YtpjmnnaiegdjmaaDoorRkp
import Derived.Test.YtpjmnnaiegdjmaaDoorRsw
import Derived.Test.YtpjmnnaiegdjmaaDoorFlaX
import Derived.Test.YtpjmnnaiegdjmaaDoorShlX
import Derived.Test.YtpjmnnaiegdjmaaDoorInsX
import Derived.Test.YtpjmnnaiegdjmaaDoorPko
namespace Go.Proofs.YtpjmnnaiegdjmaaDoor
open Go.ChangeShapes Go.WideShapes Go.ChangeAt Go.RowKit Go.Deep
set_option linter.unusedVariables false
set_option maxRecDepth 100000

theorem own_keep {W W' : World} {base : Nat} {e : TypeId} {sz : Nat} {v : Value} {n : Nat} {xs : List Value} {ub : Option Nat} (h : W.ownsRow base e sz v n xs) (g : W.grownBy W' ub) (hne : ∀ b, v.ownBlock = some b → ub ≠ some b) : W'.ownsRow base e sz v n xs := by
  refine ⟨h.1, ?_⟩
  rcases h.2 with hn | ⟨q, cap, cur, rfl, hg, hgg, rest⟩
  · exact .inl hn
  · refine .inr ⟨q, cap, cur, rfl, hg, ?_, rest⟩
    rw [g.block q (Array.getElem?_eq_some_iff.1 hgg).1 (fun e => hne q rfl e.symm)]
    exact hgg
theorem own_lt {W : World} {base : Nat} {e : TypeId} {sz : Nat} {v : Value} {n : Nat} {xs : List Value} (h : W.ownsRow base e sz v n xs) : ∀ b, v.ownBlock = some b → base ≤ b ∧ b < W.heap.size := fun b e => World.ownsRow.lt h b e
theorem own_below {W W' : World} {base : Nat} {e : TypeId} {sz : Nat} {v : Value} {n : Nat} {xs : List Value} (h : W.ownsRow base e sz v n xs) (hb : Below W.heap.size W W') : W'.ownsRow base e sz v n xs := by
  refine ⟨h.1, ?_⟩
  rcases h.2 with hn | ⟨q, cap, cur, rfl, hg, hgg, rest⟩
  · exact .inl hn
  · refine .inr ⟨q, cap, cur, rfl, hg, ?_, rest⟩
    rw [hb.block q (Array.getElem?_eq_some_iff.1 hgg).1]
    exact hgg
/-- the scores of backends, as cells -/
def nC (key : ByteArray) (L : List ByteArray) : List Value := L.map fun b => .int .i64 (scN b key : Nat)
theorem nC_len (key : ByteArray) (L : List ByteArray) : (nC key L).length = L.length * 1 := by simp [nC]
theorem nC_app (key : ByteArray) (L M : List ByteArray) : nC key (L ++ M) = nC key L ++ nC key M := by simp [nC]
theorem nC_one (key : ByteArray) (L : List ByteArray) : ∀ u ∈ nC key L, u.oneCell' = true := by
  intro u hu
  obtain ⟨t, _, rfl⟩ := List.mem_map.1 hu
  rfl
theorem nC_get (key : ByteArray) (L : List ByteArray) (i : Nat) (u : Value) (h : (nC key L)[i]? = some u) : i < L.length ∧ u = .int .i64 (scN (tA L i) key : Nat) := by
  unfold nC at h
  rw [List.getElem?_map] at h
  cases e : L[i]? with
  | none => rw [e] at h; cases h
  | some t =>
    rw [e] at h
    injection h with h
    refine ⟨(List.getElem?_eq_some_iff.1 e).1, ?_⟩
    unfold tA
    rw [List.getD, e, ← h]
    rfl
theorem nC_at (key : ByteArray) (L : List ByteArray) (i : Nat) (h : i < L.length) : (nC key L)[i]? = some (.int .i64 (scN (tA L i) key : Nat)) := by
  unfold nC tA
  rw [List.getElem?_map, List.getD, List.getElem?_eq_getElem h]
  rfl
theorem infoNm : (Tryd.prog.info? 3).map (fun i => (i.zero, i.size, i.bytes)) = some (some (.int .i64 0), 1, 8) := by kernel_rfl
theorem infoNm_parts : ∃ i0, Tryd.prog.info? 3 = some i0 ∧ i0.zero = some (.int .i64 0) ∧ i0.size = 1 ∧ i0.bytes = 8 := by
  have h := infoNm
  cases e : Tryd.prog.info? 3 with
  | none => rw [e] at h; cases h
  | some i0 => rw [e] at h; simp at h; exact ⟨i0, rfl, h.1, h.2.1, h.2.2⟩
/-- scores of the call's own, in one row -/
def Osn (base : Nat) (w : World) (v : Value) (key : ByteArray) (L : List ByteArray) : Prop := w.ownsRow base 3 1 v L.length (nC key L)
/-- a text or scores appended: what else is kept -/
theorem apT (w : World) (base : Nat) (v : Value) (L : List ByteArray) (hown : Ost base w v L) (sa : Option Addr) (c : Nat) (M : List ByteArray) (hs : Sc w sa M.length (tC M)) (hb : L.length + M.length ≤ 1048576) (hbase : base ≤ w.heap.size) :
    ∃ v' w', (Builtin.append_ #[25, 25] 25 #[v, .slice sa M.length c]).run Tryd.prog w = .ok v' w' ∧ Ost base w' v' (L ++ M) ∧ w.grownBy w' v.ownBlock ∧ (v'.ownBlock = v.ownBlock ∨ v'.ownBlock = some w.heap.size) := by
  obtain ⟨i0, hi, hz0, hz1, hz2⟩ := infoTx_parts
  obtain ⟨v', w', h1, h2, h3, h4⟩ := app_any w 25 25 base 9 i0 _ 1 16 Tryd.underlying25 hi hz0 hz1 hz2 rfl (by decide) v L.length (tC L) hown sa M.length c (tC M) (tC_len M) hs (tC_one M) (by unfold maxLen; omega) (by omega) hbase
  refine ⟨v', w', h1, ?_, h3, h4⟩
  unfold Ost
  rw [List.length_append, tC_app]
  exact h2
theorem apN (w : World) (base : Nat) (v : Value) (key : ByteArray) (L : List ByteArray) (hown : Osn base w v key L) (sa : Option Addr) (c : Nat) (M : List ByteArray) (hs : Sc w sa M.length (nC key M)) (hb : L.length + M.length ≤ 1048576) (hbase : base ≤ w.heap.size) :
    ∃ v' w', (Builtin.append_ #[53, 53] 53 #[v, .slice sa M.length c]).run Tryd.prog w = .ok v' w' ∧ Osn base w' v' key (L ++ M) ∧ w.grownBy w' v.ownBlock ∧ (v'.ownBlock = v.ownBlock ∨ v'.ownBlock = some w.heap.size) := by
  obtain ⟨i0, hi, hz0, hz1, hz2⟩ := infoNm_parts
  obtain ⟨v', w', h1, h2, h3, h4⟩ := app_any w 53 53 base 3 i0 _ 1 8 Tryd.underlying53 hi hz0 hz1 hz2 rfl (by decide) v L.length (nC key L) hown sa M.length c (nC key M) (nC_len key M) hs (nC_one key M) (by unfold maxLen; omega) (by omega) hbase
  refine ⟨v', w', h1, ?_, h3, h4⟩
  unfold Osn
  rw [List.length_append, nC_app]
  exact h2
/-- a row of the call's own, opened -/
theorem ost_open {base : Nat} {w : World} {v : Value} {L : List ByteArray} (h : Ost base w v L) : ∃ a cap, v = .slice a L.length cap ∧ L.length ≤ cap ∧ cap ≤ maxLen ∧ (a = none ∧ cap = 0 ∧ L.length = 0 ∨ ∃ g, a = some ⟨g, 0, none⟩ ∧ ∀ i, i < L.length → w.cell? ⟨g, i, none⟩ = some (.string (tA L i))) := by
  rcases h.2 with ⟨rfl, e⟩ | ⟨g, cap, cur, rfl, hb, hg, hnc, hcm, _⟩
  · exact ⟨none, 0, by rw [e], by omega, Nat.zero_le _, Or.inl ⟨rfl, rfl, e⟩⟩
  · exact ⟨_, _, rfl, hnc, hcm, Or.inr ⟨g, rfl, fun k hk => (World.ownsRow.cellAt h k (by omega)).trans (tC_at L k hk)⟩⟩
theorem osn_open {base : Nat} {w : World} {v : Value} {key : ByteArray} {L : List ByteArray} (h : Osn base w v key L) : ∃ a cap, v = .slice a L.length cap ∧ L.length ≤ cap ∧ cap ≤ maxLen ∧ (a = none ∧ cap = 0 ∧ L.length = 0 ∨ ∃ g, a = some ⟨g, 0, none⟩ ∧ ∀ i, i < L.length → w.cell? ⟨g, i, none⟩ = some (.int .i64 (scN (tA L i) key : Nat))) := by
  rcases h.2 with ⟨rfl, e⟩ | ⟨g, cap, cur, rfl, hb, hg, hnc, hcm, _⟩
  · exact ⟨none, 0, by rw [e], by omega, Nat.zero_le _, Or.inl ⟨rfl, rfl, e⟩⟩
  · exact ⟨_, _, rfl, hnc, hcm, Or.inr ⟨g, rfl, fun k hk => (World.ownsRow.cellAt h k (by omega)).trans (nC_at key L k hk)⟩⟩
theorem add_no (b o j : Nat) : (⟨b, o, none⟩ : Addr).add j = ⟨b, o + j, none⟩ := by unfold Addr.add; split <;> simp_all
/-- a part of a row as a source -/
theorem sc_part {w : World} {g n : Nat} {xs ys : List Value} (o : Nat) (h : ∀ i u, xs[i]? = some u → w.cell? ⟨g, i, none⟩ = some u) (hy : ∀ j u, ys[j]? = some u → xs[o + j]? = some u) : Sc w (some ⟨g, o, none⟩) n ys := by
  refine Or.inr ⟨_, rfl, fun j u hu => ?_⟩
  rw [add_no]
  exact h _ _ (hy j u hu)
theorem own_cells {w : World} {base : Nat} {e : TypeId} {g n cap : Nat} {xs : List Value} (h : w.ownsRow base e 1 (.slice (some ⟨g, 0, none⟩) n cap) n xs) : ∀ i u, xs[i]? = some u → w.cell? ⟨g, i, none⟩ = some u := fun i u hu => by
  have hi : i < n := by
    have := (List.getElem?_eq_some_iff.1 hu).1
    have := h.1
    omega
  exact (World.ownsRow.cellAt h i (by omega)).trans hu
/-- the six appends of a round: how the rows come out -/
theorem six (w : World) (base : Nat) (v6 v7 : Value) (key s : ByteArray) (R : List ByteArray) (k : Nat) (hk : k ≤ R.length) (hR : R.length ≤ 1000) (hbase : base ≤ w.heap.size) (a6 : Option Addr) (c6 : Nat) (a7 : Option Addr) (c7 : Nat)
    (e6 : v6 = .slice a6 R.length c6) (e7 : v7 = .slice a7 R.length c7) (n6 : R.length ≤ c6) (n7 : R.length ≤ c7) (O6 : Ost base w v6 R) (O7 : Osn base w v7 key R) (s6 s7 : Option Addr) (h6 : s6 = if c6 = k then a6 else a6.map fun p => p.add k) (h7 : s7 = if c7 = k then a7 else a7.map fun p => p.add k) :
    ∃ x1 w1 y2 w2 x3 w3 y4 w4 x5 w5 y6 w6, (Builtin.append_ #[25, 25] 25 #[.slice none 0 0, .slice a6 k c6]).run Tryd.prog w = .ok x1 w1 ∧ (Builtin.append_ #[53, 53] 53 #[.slice none 0 0, .slice a7 k c7]).run Tryd.prog w1 = .ok y2 w2 ∧
      (Builtin.append_ #[25, 25] 25 #[x1, .slice (some ⟨w2.heap.size, 0, none⟩) 1 1]).run Tryd.prog (w2.alloc (.cells #[.string s] 9)) = .ok x3 w3 ∧ (Builtin.append_ #[53, 53] 53 #[y2, .slice (some ⟨w3.heap.size, 0, none⟩) 1 1]).run Tryd.prog (w3.alloc (.cells #[.int .i64 (scN s key : Nat)] 3)) = .ok y4 w4 ∧
      (Builtin.append_ #[25, 25] 25 #[x3, .slice s6 (R.length - k) (c6 - k)]).run Tryd.prog w4 = .ok x5 w5 ∧ (Builtin.append_ #[53, 53] 53 #[y4, .slice s7 (R.length - k) (c7 - k)]).run Tryd.prog w5 = .ok y6 w6 ∧
      Ost base w6 x5 (insL R k s) ∧ Osn base w6 y6 key (insL R k s) ∧ Below base w w6 := by
  have l1 : (R.take k).length = k := by rw [List.length_take]; omega
  have l2 : (R.drop k).length = R.length - k := by rw [List.length_drop]
  have tg : ∀ j u, (tC (R.take k))[j]? = some u → (tC R)[0 + j]? = some u := fun j u hu => by
    obtain ⟨hj, rfl⟩ := tC_get _ _ _ hu
    rw [l1] at hj
    rw [Nat.zero_add, tC_at R j (by omega), tA_take _ _ _ hj]
  have ng : ∀ j u, (nC key (R.take k))[j]? = some u → (nC key R)[0 + j]? = some u := fun j u hu => by
    obtain ⟨hj, rfl⟩ := nC_get _ _ _ _ hu
    rw [l1] at hj
    rw [Nat.zero_add, nC_at key R j (by omega), tA_take _ _ _ hj]
  have td : ∀ j u, (tC (R.drop k))[j]? = some u → (tC R)[k + j]? = some u := fun j u hu => by
    obtain ⟨hj, rfl⟩ := tC_get _ _ _ hu
    rw [l2] at hj
    rw [tC_at R (k + j) (by omega), tA_drop]
  have nd : ∀ j u, (nC key (R.drop k))[j]? = some u → (nC key R)[k + j]? = some u := fun j u hu => by
    obtain ⟨hj, rfl⟩ := nC_get _ _ _ _ hu
    rw [l2] at hj
    rw [nC_at key R (k + j) (by omega), tA_drop]
  subst e6 e7
  -- how a part of a row serves as a source
  have src : ∀ (W : World) (e : TypeId) (a : Option Addr) (c : Nat) (xs ys : List Value) (o n : Nat), W.ownsRow base e 1 (.slice a R.length c) R.length xs → (∀ j u, ys[j]? = some u → xs[o + j]? = some u) → (R.length = 0 → ys = [] ∧ n = 0) → Sc W (a.map fun p => p.add o) n ys := fun W e a c xs ys o n hO hy h0 => by
    rcases hO.2 with ⟨q, e0⟩ | ⟨g, cap, cur, q, _⟩
    · exact Or.inl ⟨(h0 e0).2, (h0 e0).1⟩
    · injection q with q1 q2 q3
      subst q1
      show Sc W (some ((⟨g, 0, none⟩ : Addr).add o)) n ys
      rw [add_no, Nat.zero_add]
      exact sc_part o (own_cells hO) hy
  have src0 : ∀ (W : World) (e : TypeId) (a : Option Addr) (c : Nat) (xs ys : List Value) (n : Nat), W.ownsRow base e 1 (.slice a R.length c) R.length xs → (∀ j u, ys[j]? = some u → xs[0 + j]? = some u) → (R.length = 0 → ys = [] ∧ n = 0) → Sc W a n ys := fun W e a c xs ys n hO hy h0 => by
    rcases hO.2 with ⟨q, e0⟩ | ⟨g, cap, cur, q, _⟩
    · exact Or.inl ⟨(h0 e0).2, (h0 e0).1⟩
    · injection q with q1 q2 q3
      subst q1
      exact sc_part 0 (own_cells hO) hy
  have z1 : R.length = 0 → tC (R.take k) = [] ∧ (R.take k).length = 0 := fun h => by
    obtain rfl : R = [] := List.length_eq_zero_iff.1 h
    exact ⟨by simp [tC], by simp⟩
  have z2 : R.length = 0 → nC key (R.take k) = [] ∧ (R.take k).length = 0 := fun h => by
    obtain rfl : R = [] := List.length_eq_zero_iff.1 h
    exact ⟨by simp [nC], by simp⟩
  have z3 : R.length = 0 → tC (R.drop k) = [] ∧ (R.drop k).length = 0 := fun h => by
    obtain rfl : R = [] := List.length_eq_zero_iff.1 h
    exact ⟨by simp [tC], by simp⟩
  have z4 : R.length = 0 → nC key (R.drop k) = [] ∧ (R.drop k).length = 0 := fun h => by
    obtain rfl : R = [] := List.length_eq_zero_iff.1 h
    exact ⟨by simp [nC], by simp⟩
  have o6 := own_lt O6
  have o7 := own_lt O7
  -- 1
  obtain ⟨x1, w1, r1, X1, g1, q1⟩ := apT w base (.slice none 0 0) [] (Ost.nil _ _) a6 c6 (R.take k) (src0 w 9 a6 c6 (tC R) (tC (R.take k)) (R.take k).length O6 tg z1) (by rw [l1]; show 0 + k ≤ _; omega) hbase
  rw [List.nil_append] at X1
  have B1 : Below base w w1 := gr_below g1 hbase (fun b e => by cases e)
  have V6 : Ost base w1 _ R := own_keep O6 g1 (fun b _ e => by cases e)
  have V7 : Osn base w1 _ key R := own_keep O7 g1 (fun b _ e => by cases e)
  have m1 : ∀ b, x1.ownBlock = some b → b = w.heap.size ∧ b < w1.heap.size := fun b e => by
    refine ⟨?_, (own_lt X1 b e).2⟩
    rcases q1 with q | q
    · rw [q] at e; cases e
    · rw [q] at e; injection e with e; exact e.symm
  -- 2
  obtain ⟨y2, w2, r2, Y2, g2, q2⟩ := apN w1 base (.slice none 0 0) key [] (World.ownsRow_nil _ _ _ _) a7 c7 (R.take k) (src0 w1 3 a7 c7 (nC key R) (nC key (R.take k)) (R.take k).length V7 ng z2) (by rw [l1]; show 0 + k ≤ _; omega) (Nat.le_trans hbase B1.size)
  rw [List.nil_append] at Y2
  have B2 : Below base w w2 := B1.trans (gr_below g2 (Nat.le_trans hbase B1.size) (fun b e => by cases e))
  have X2 : Ost base w2 x1 _ := own_keep X1 g2 (fun b _ e => by cases e)
  have V6 : Ost base w2 _ R := own_keep V6 g2 (fun b _ e => by cases e)
  have V7 : Osn base w2 _ key R := own_keep V7 g2 (fun b _ e => by cases e)
  have m2 : ∀ b, y2.ownBlock = some b → b = w1.heap.size ∧ b < w2.heap.size := fun b e => by
    refine ⟨?_, (own_lt Y2 b e).2⟩
    rcases q2 with q | q
    · rw [q] at e; cases e
    · rw [q] at e; injection e with e; exact e.symm
  have s12 := g2.size
  have s01 := g1.size
  -- 3
  have A3 : Below w2.heap.size w2 (w2.alloc (.cells #[.string s] 9)) := (Below.refl _ _).alloc (Nat.le_refl _) _
  have sA3 : (w2.alloc (.cells #[.string s] 9)).heap.size = w2.heap.size + 1 := by simp
  obtain ⟨x3, w3, r3, X3, g3, q3⟩ := apT (w2.alloc (.cells #[.string s] 9)) base x1 (R.take k) (own_below X2 A3) (some ⟨w2.heap.size, 0, none⟩) 1 [s] (sc_txt w2 s _) (by rw [l1]; show k + 1 ≤ _; omega) (by have := B2.size; omega)
  have B3 : Below base w w3 := (B2.trans (A3.mono (by have := B2.size; omega))).trans (gr_below g3 (by have := B2.size; omega) (fun b e => (own_lt X1 b e).1))
  have Y3 : Osn base w3 y2 key _ := own_keep (own_below Y2 A3) g3 (fun b e e' => by have := m2 b e; have := m1 b e'; omega)
  have V6 : Ost base w3 _ R := own_keep (own_below V6 A3) g3 (fun b e e' => by have := o6 b e; have := m1 b e'; omega)
  have V7 : Osn base w3 _ key R := own_keep (own_below V7 A3) g3 (fun b e e' => by have := o7 b e; have := m1 b e'; omega)
  have s23 := g3.size
  have m3 : ∀ b, x3.ownBlock = some b → b = w.heap.size ∧ b < w1.heap.size ∨ b = w2.heap.size + 1 ∧ b < w3.heap.size := fun b e => by
    have hb := (own_lt X3 b e).2
    rcases q3 with q | q
    · rw [q] at e; exact Or.inl (m1 b e)
    · rw [q] at e; injection e with e; exact Or.inr ⟨by omega, hb⟩
  -- 4
  have A4 : Below w3.heap.size w3 (w3.alloc (.cells #[.int .i64 (scN s key : Nat)] 3)) := (Below.refl _ _).alloc (Nat.le_refl _) _
  have sA4 : (w3.alloc (.cells #[.int .i64 (scN s key : Nat)] 3)).heap.size = w3.heap.size + 1 := by simp
  obtain ⟨y4, w4, r4, Y4, g4, q4⟩ := apN (w3.alloc (.cells #[.int .i64 (scN s key : Nat)] 3)) base y2 key (R.take k) (own_below Y3 A4) (some ⟨w3.heap.size, 0, none⟩) 1 [s] (by
    refine Or.inr ⟨_, rfl, fun j u hu => ?_⟩
    obtain ⟨hj, rfl⟩ := nC_get key [s] j u hu
    obtain rfl : j = 0 := by simpa using hj
    rw [add_no]
    simp [tA]) (by rw [l1]; show k + 1 ≤ _; omega) (by have := B3.size; omega)
  have B4 : Below base w w4 := (B3.trans (A4.mono (by have := B3.size; omega))).trans (gr_below g4 (by have := B3.size; omega) (fun b e => (own_lt Y2 b e).1))
  have X4 : Ost base w4 x3 _ := own_keep (own_below X3 A4) g4 (fun b e e' => by have h2 := m2 b e'; rcases m3 b e with h | h <;> omega)
  have V6 : Ost base w4 _ R := own_keep (own_below V6 A4) g4 (fun b e e' => by have := o6 b e; have := m2 b e'; omega)
  have V7 : Osn base w4 _ key R := own_keep (own_below V7 A4) g4 (fun b e e' => by have := o7 b e; have := m2 b e'; omega)
  have s34 := g4.size
  have m4 : ∀ b, y4.ownBlock = some b → b = w1.heap.size ∧ b < w2.heap.size ∨ b = w3.heap.size + 1 ∧ b < w4.heap.size := fun b e => by
    have hb := (own_lt Y4 b e).2
    rcases q4 with q | q
    · rw [q] at e; exact Or.inl (m2 b e)
    · rw [q] at e; injection e with e; exact Or.inr ⟨by omega, hb⟩
  have x4y : ∀ b, x3.ownBlock = some b → y4.ownBlock ≠ some b := fun b e e' => by
    rcases m3 b e with h | h <;> rcases m4 b e' with h' | h' <;> omega
  -- 5
  obtain ⟨x5, w5, r5, X5, g5, q5⟩ := apT w4 base x3 (R.take k ++ [s]) X4 s6 (c6 - k) (R.drop k) (by
    rw [h6]
    by_cases c : c6 = k
    · exact Or.inl ⟨by rw [l2]; omega, by rw [List.drop_eq_nil_of_le (by omega)]; rfl⟩
    · rw [if_neg c]; exact src w4 9 a6 c6 (tC R) (tC (R.drop k)) k (R.drop k).length V6 td z3) (by rw [List.length_append, l1, l2]; show k + 1 + _ ≤ _; omega) (Nat.le_trans hbase B4.size)
  have B5 : Below base w w5 := B4.trans (gr_below g5 (Nat.le_trans hbase B4.size) (fun b e => (own_lt X4 b e).1))
  have Y5 : Osn base w5 y4 key _ := own_keep Y4 g5 (fun b e e' => x4y b e' e)
  have V7 : Osn base w5 _ key R := own_keep V7 g5 (fun b e e' => by have h7 := o7 b e; rcases m3 b e' with h | h <;> omega)
  have s45 := g5.size
  -- 6
  obtain ⟨y6, w6, r6, Y6, g6, q6⟩ := apN w5 base y4 key (R.take k ++ [s]) Y5 s7 (c7 - k) (R.drop k) (by
    rw [h7]
    by_cases c : c7 = k
    · exact Or.inl ⟨by rw [l2]; omega, by rw [List.drop_eq_nil_of_le (by omega)]; rfl⟩
    · rw [if_neg c]; exact src w5 3 a7 c7 (nC key R) (nC key (R.drop k)) k (R.drop k).length V7 nd z4) (by rw [List.length_append, l1, l2]; show k + 1 + _ ≤ _; omega) (Nat.le_trans hbase B5.size)
  have B6 : Below base w w6 := B5.trans (gr_below g6 (Nat.le_trans hbase B5.size) (fun b e => (own_lt Y5 b e).1))
  have X6 : Ost base w6 x5 _ := own_keep X5 g6 (fun b e e' => by
    rcases q5 with q | q
    · rw [q] at e; exact x4y b e e'
    · rw [q] at e
      injection e with e
      have := (own_lt Y4 b e').2
      omega)
  rw [l1] at r1 r2
  rw [l2] at r5 r6
  exact ⟨x1, w1, y2, w2, x3, w3, y4, w4, x5, w5, y6, w6, r1, r2, r3, r4, r5, r6, X6, Y6, B6⟩
set_option maxHeartbeats 4000000 in
theorem specRl (a : Option Addr) (cap : Nat) (L : List ByteArray) (key : ByteArray) (w : World) (hN : L.length ≤ 12) (hgl : glB (tA L) L.length = true) (hk : key.size ≤ 100) (h : Ta w a L) :
    Calls Tryd.prog 16 #[.slice a L.length cap, .string key] w fun e w' => ∃ v, e = .returned (.tuple #[v, .bool true]) ∧ Ost w.heap.size w' v (rkL key L L.length) ∧ Below w.heap.size w w' := by
  have HG := hide (specGL a L.length cap (tA L) w (by omega) (fun i hi => by have := bk_size (gl_bk hgl hi); omega) h)
  rw [hgl] at HG
  have HQ : Hid (∀ W p gw cw gf cf, L4 W p gw cw gf cf → ∀ i, i < L.length → Calls Tryd.prog 31 #[.pointer (some ⟨p, 0, none⟩), .string (tA L i), .string key] W fun e w' => e = .returned (.int .i64 (scN (tA L i) key : Nat)) ∧ Below W.heap.size W w') := fun W p gw cw gf cf h4 i hi => specScore (tA L i) key (by have := bk_size (gl_bk hgl hi); omega) (by omega) W p gw cw gf cf h4
  have HR := hide h
  have hk1 : ¬ (100 : Int) < (key.size : Int) := by omega
  have HRL := hide (rkL_len key L)
  have HRS : Hid (∀ i, rkL key L (i + 1) = insL (rkL key L i) (rkI key (tA L i) (rkL key L i)) (tA L i)) := fun i => rfl
  have HR0 : Hid (rkL key L 0 = []) := rfl
  clear h hgl
  go_enter Tryd.func16, Tryd.ntmps16
  go_wp2_with fail
  refine (unhide HG).mono ?_
  rintro e w1 ⟨rfl, e1⟩
  subst w1
  go_wp2_with fail
  refine (specNew _).mono ?_
  rintro e w1 ⟨p, gw, cw, gf, cf, rfl, h4, b1⟩
  have H4 := hide h4
  have B1 := hide b1
  have hz1 := b1.size
  clear h4 b1
  go_wp2_with fail
  go_loopw [6, 7, 26] (fun ov sv iv wr => ∃ i : Nat, i ≤ L.length ∧ iv = .int .i64 i ∧ Ost w1.heap.size wr ov (rkL key L i) ∧ Osn w1.heap.size wr sv key (rkL key L i) ∧ Below w1.heap.size w1 wr) (fun _ _ iv _ => L.length - (intOf iv).toNat)
  case atStart => exact ⟨0, Nat.zero_le _, rfl, Ost.nil _ _, World.ownsRow_nil _ _ _ _, Below.refl _ _⟩
  case round =>
    obtain ⟨i, hil, rfl, hO, hS, hbel⟩ := hrel
    by_cases hlt : i < L.length
    · have hB0 := (unhide B1).trans (hbel.mono hz1)
      rcases (unhide HR).kept hB0 with h0 | ⟨b, off, rfl, hel⟩
      · omega
      have c0 := hel.c i hlt
      have hnk : (i : Int) < (L.length : Int) := by omega
      have PQ := hide (unhide HQ wr p gw cw gf cf ((unhide H4).kept hbel) i hlt)
      have HO := hide hO
      have HS := hide hS
      have HBl := hide hbel
      have hRl := unhide HRL i
      have HST := hide (unhide HRS i)
      clear hel hO hS hbel hB0
      generalize rkL key L i = R at *
      have HRK : Hid (∀ k, k ≤ R.length → (∀ t, t < k → geS key (tA L i) R t = true) → (k < R.length → geS key (tA L i) R k = false) → rkI key (tA L i) R = k) := fun k h1 h2 h3 => (ldP_is (geS key (tA L i) R) R.length).uniq ⟨h1, h2, h3⟩
      have HGE : Hid (∀ t, geS key (tA L i) R t = decide (scN (tA L i) key ≤ scN (tA R t) key)) := fun t => rfl
      generalize tA L i = s at *
      have hsl := scN_lt s key
      go_wp2_with fail
      refine (unhide PQ).mono ?_
      rintro e w2 ⟨rfl, b2⟩
      have O2 := hide ((unhide HO).kept b2)
      have S2 := hide (own_below (unhide HS) b2)
      have B2 := hide ((unhide HBl).trans (b2.mono (unhide HBl).size))
      clear b2 HO HS HBl PQ
      obtain ⟨a6, c6, e6, n6, m6, f6⟩ := ost_open (unhide O2)
      have F6 := hide f6
      obtain ⟨a7, c7, e7, n7, m7, f7⟩ := osn_open (unhide S2)
      have F7 := hide f7
      have E6 := hide e6
      have E7 := hide e7
      subst e6 e7
      clear f7 f6
      unfold maxLen at m6 m7
      rw [hRl] at n6 n7
      have hR12 : (i : Int) ≤ 12 := by omega
      go_wp2_with fail
      go_loopw [12] (fun kv wr => ∃ k : Nat, k ≤ i ∧ kv = .int .i64 k ∧ Hid (∀ t, t < k → geS key s R t = true) ∧ wr = w2) (fun kv _ => i - (intOf kv).toNat)
      case atStart => exact ⟨0, Nat.zero_le _, rfl, fun t ht => absurd ht (Nat.not_lt_zero _), rfl⟩
      case round =>
        obtain ⟨k, hki, rfl, hA, hwr⟩ := hrel
        subst hwr
        -- how a round ends with the place k
        have FIN : Hid (rkI key s R = k → ∃ x1 w1' y2 w2' x3 w3 y4 w4 x5 w5 y6 w6, (Builtin.append_ #[25, 25] 25 #[.slice none 0 0, .slice a6 k c6]).run Tryd.prog wr = .ok x1 w1' ∧ (Builtin.append_ #[53, 53] 53 #[.slice none 0 0, .slice a7 k c7]).run Tryd.prog w1' = .ok y2 w2' ∧
            (Builtin.append_ #[25, 25] 25 #[x1, .slice (some ⟨w2'.heap.size, 0, none⟩) 1 1]).run Tryd.prog (w2'.alloc (.cells #[.string s] 9)) = .ok x3 w3 ∧ (Builtin.append_ #[53, 53] 53 #[y2, .slice (some ⟨w3.heap.size, 0, none⟩) 1 1]).run Tryd.prog (w3.alloc (.cells #[.int .i64 (scN s key : Nat)] 3)) = .ok y4 w4 ∧
            (Builtin.append_ #[25, 25] 25 #[x3, .slice (if c6 = k then a6 else a6.map fun p => p.add k) (i - k) (c6 - k)]).run Tryd.prog w4 = .ok x5 w5 ∧ (Builtin.append_ #[53, 53] 53 #[y4, .slice (if c7 = k then a7 else a7.map fun p => p.add k) (i - k) (c7 - k)]).run Tryd.prog w5 = .ok y6 w6 ∧
            Ost w1.heap.size w6 x5 (rkL key L (i + 1)) ∧ Osn w1.heap.size w6 y6 key (rkL key L (i + 1)) ∧ Below w1.heap.size w1 w6) := fun hrk => by
          obtain ⟨x1, w1', y2, w2', x3, w3, y4, w4, x5, w5, y6, w6, r1, r2, r3, r4, r5, r6, X6, Y6, B6⟩ := six wr w1.heap.size _ _ key s R k (by omega) (by omega) (unhide B2).size a6 c6 a7 c7 rfl rfl (by omega) (by omega) (unhide O2) (unhide S2) _ _ rfl rfl
          rw [hRl] at r5 r6
          have e9 := unhide HST
          rw [hrk] at e9
          rw [← e9] at X6 Y6
          exact ⟨x1, w1', y2, w2', x3, w3, y4, w4, x5, w5, y6, w6, r1, r2, r3, r4, r5, r6, X6, Y6, (unhide B2).trans B6⟩
        by_cases hki2 : k < i
        · rcases unhide F7 with ⟨_, _, z⟩ | ⟨g7, rfl, h7⟩
          · omega
          rcases unhide F6 with ⟨_, _, z⟩ | ⟨g6, rfl, h6⟩
          · omega
          have c7k := h7 k (by omega)
          have hkI : (k : Int) < (i : Int) := by omega
          have hkc6 : (k : Int) ≤ (c6 : Int) := by omega
          have hkc7 : (k : Int) ≤ (c7 : Int) := by omega
          have hkI2 : (k : Int) ≤ (i : Int) := by omega
          have hge := unhide HGE k
          clear h6 h7
          by_cases c : scN s key ≤ scN (tA R k) key
          · rw [decide_eq_true c] at hge
            have hA2 : Hid (∀ t, t < k + 1 → geS key s R t = true) := fun t ht => by
              by_cases e : t = k
              · rw [e]; exact hge
              · exact unhide hA t (by omega)
            clear hA FIN hge
            have cI : ((scN s key : Nat) : Int) ≤ (scN (tA R k) key : Nat) := by omega
            generalize scN (tA R k) key = y at *
            generalize scN s key = x at *
            go_wp2
            exact ⟨⟨k + 1, by omega, by go_num, hA2, by trivial⟩, by simp [intOf]; omega⟩
          · rw [decide_eq_false c] at hge
            obtain ⟨x1, w1', y2, w2', x3, w3, y4, w4, x5, w5, y6, w6, r1, r2, r3, r4, r5, r6, X6, Y6, B6⟩ := unhide FIN (unhide HRK k (by omega) (unhide hA) (fun _ => hge))
            have cI : ¬ ((scN s key : Nat) : Int) ≤ (scN (tA R k) key : Nat) := by omega
            generalize scN (tA R k) key = y at *
            generalize scN s key = x at *
            have R1 := hide r1
            have R2 := hide r2
            have R3 := hide r3
            have R4 := hide r4
            have hc6k : ¬ c6 = k := by omega
            have hc7k : ¬ c7 = k := by omega
            have R5 : Hid ((Builtin.append_ #[25, 25] 25 #[x3, .slice (some ⟨g6, k, none⟩) (i - k) (c6 - k)]).run Tryd.prog w4 = .ok x5 w5) := by
              have := r5
              rw [if_neg hc6k, show ((some (⟨g6, 0, none⟩ : Addr)).map fun p => p.add k) = some ⟨g6, k, none⟩ from by show some ((⟨g6, 0, none⟩ : Addr).add k) = _; rw [add_no, Nat.zero_add]] at this
              exact this
            have R6 : Hid ((Builtin.append_ #[53, 53] 53 #[y4, .slice (some ⟨g7, k, none⟩) (i - k) (c7 - k)]).run Tryd.prog w5 = .ok y6 w6) := by
              have := r6
              rw [if_neg hc7k, show ((some (⟨g7, 0, none⟩ : Addr)).map fun p => p.add k) = some ⟨g7, k, none⟩ from by show some ((⟨g7, 0, none⟩ : Addr).add k) = _; rw [add_no, Nat.zero_add]] at this
              exact this
            have HX6 := hide X6
            have HY6 := hide Y6
            have HB6 := hide B6
            clear r1 r2 r3 r4 r5 r6 X6 Y6 B6 FIN hA hge O2 S2 B2
            go_upto_region 16 with (at_builtin; refine wpl_app rfl _ _ 25 rfl _ _ _ _ rfl rfl (unhide R1) ?_)
            go_upto_region 17 with (at_builtin; refine wpl_app rfl _ _ 53 rfl _ _ _ _ rfl rfl (unhide R2) ?_)
            go_upto_region 18 with (at_builtin; refine wpl_app rfl _ _ 25 rfl _ _ _ _ rfl rfl (unhide R3) ?_)
            go_upto_region 19 with (at_builtin; refine wpl_app rfl _ _ 53 rfl _ _ _ _ rfl rfl (unhide R4) ?_)
            go_upto_region 20 with (at_builtin; refine wpl_app rfl _ _ 25 rfl _ _ _ _ rfl rfl (unhide R5) ?_)
            go_wp2_with (at_builtin; refine wpl_app rfl _ _ 53 rfl _ _ _ _ rfl rfl (unhide R6) ?_)
            all_goals
              exact ⟨⟨i + 1, by omega, by go_num, unhide HX6, unhide HY6, unhide HB6⟩, by simp [intOf]; omega⟩
        · obtain rfl : k = i := by omega
          obtain ⟨x1, w1', y2, w2', x3, w3, y4, w4, x5, w5, y6, w6, r1, r2, r3, r4, r5, r6, X6, Y6, B6⟩ := unhide FIN (unhide HRK k (by omega) (unhide hA) (fun h => by omega))
          have hkI : ¬ (k : Int) < (k : Int) := by omega
          have HX6 := hide X6
          have HY6 := hide Y6
          have HB6 := hide B6
          generalize scN s key = x at *
          have f6 := unhide F6
          have f7 := unhide F7
          clear X6 Y6 B6 FIN hA O2 S2 B2 HRK HGE HST F6 F7 E6 E7 hki2
          rcases f6 with ⟨rfl, rfl, z6⟩ | ⟨g6, rfl, h6⟩
          · skip
            rcases f7 with ⟨rfl, rfl, z7⟩ | ⟨g7, rfl, h7⟩
            · skip
              obtain rfl : k = 0 := by omega
              have R5 : Hid ((Builtin.append_ #[25, 25] 25 #[x3, .slice none 0 0]).run Tryd.prog w4 = .ok x5 w5) := r5
              have R6 : Hid ((Builtin.append_ #[53, 53] 53 #[y4, .slice none 0 0]).run Tryd.prog w5 = .ok y6 w6) := r6
              have R1 := hide r1
              have R2 := hide r2
              have R3 := hide r3
              have R4 := hide r4
              clear r1 r2 r3 r4 r5 r6
              have hq6 : ((0 : Nat) : Int) ≤ (0 : Nat) := by omega
              have hq7 : ((0 : Nat) : Int) ≤ (0 : Nat) := by omega
              go_upto_region 16 with (at_builtin; refine wpl_app rfl _ _ 25 rfl _ _ _ _ rfl rfl (unhide R1) ?_)
              go_upto_region 17 with (at_builtin; refine wpl_app rfl _ _ 53 rfl _ _ _ _ rfl rfl (unhide R2) ?_)
              go_upto_region 18 with (at_builtin; refine wpl_app rfl _ _ 25 rfl _ _ _ _ rfl rfl (unhide R3) ?_)
              go_upto_region 19 with (at_builtin; refine wpl_app rfl _ _ 53 rfl _ _ _ _ rfl rfl (unhide R4) ?_)
              go_upto_region 20 with (at_builtin; refine wpl_app rfl _ _ 25 rfl _ _ _ _ rfl rfl (unhide R5) ?_)
              go_wp2_with (at_builtin; refine wpl_app rfl _ _ 53 rfl _ _ _ _ rfl rfl (unhide R6) ?_)
              all_goals
                exact ⟨⟨0 + 1, by omega, by go_num, unhide HX6, unhide HY6, unhide HB6⟩, by simp [intOf]; omega⟩
            · clear h7
              by_cases hc7k : c7 = k
              · have hx7 := hc7k.symm; subst hx7
                obtain rfl : k = 0 := by omega
                have R5 : Hid ((Builtin.append_ #[25, 25] 25 #[x3, .slice none 0 0]).run Tryd.prog w4 = .ok x5 w5) := r5
                have R6 : Hid ((Builtin.append_ #[53, 53] 53 #[y4, .slice (some ⟨g7, 0, none⟩) 0 0]).run Tryd.prog w5 = .ok y6 w6) := r6
                have R1 := hide r1
                have R2 := hide r2
                have R3 := hide r3
                have R4 := hide r4
                clear r1 r2 r3 r4 r5 r6
                have hq6 : ((0 : Nat) : Int) ≤ (0 : Nat) := by omega
                have hq7 : ((0 : Nat) : Int) ≤ (0 : Nat) := by omega
                go_upto_region 16 with (at_builtin; refine wpl_app rfl _ _ 25 rfl _ _ _ _ rfl rfl (unhide R1) ?_)
                go_upto_region 17 with (at_builtin; refine wpl_app rfl _ _ 53 rfl _ _ _ _ rfl rfl (unhide R2) ?_)
                go_upto_region 18 with (at_builtin; refine wpl_app rfl _ _ 25 rfl _ _ _ _ rfl rfl (unhide R3) ?_)
                go_upto_region 19 with (at_builtin; refine wpl_app rfl _ _ 53 rfl _ _ _ _ rfl rfl (unhide R4) ?_)
                go_upto_region 20 with (at_builtin; refine wpl_app rfl _ _ 25 rfl _ _ _ _ rfl rfl (unhide R5) ?_)
                go_wp2_with (at_builtin; refine wpl_app rfl _ _ 53 rfl _ _ _ _ rfl rfl (unhide R6) ?_)
                all_goals
                  exact ⟨⟨0 + 1, by omega, by go_num, unhide HX6, unhide HY6, unhide HB6⟩, by simp [intOf]; omega⟩
              · skip
                obtain rfl : k = 0 := by omega
                have R5 : Hid ((Builtin.append_ #[25, 25] 25 #[x3, .slice none 0 0]).run Tryd.prog w4 = .ok x5 w5) := r5
                have R6 : Hid ((Builtin.append_ #[53, 53] 53 #[y4, .slice (some ⟨g7, 0, none⟩) 0 c7]).run Tryd.prog w5 = .ok y6 w6) := by
                  rw [if_neg hc7k] at r6
                  exact r6
                have R1 := hide r1
                have R2 := hide r2
                have R3 := hide r3
                have R4 := hide r4
                clear r1 r2 r3 r4 r5 r6
                have hq6 : ((0 : Nat) : Int) ≤ (0 : Nat) := by omega
                have hq7 : ((0 : Nat) : Int) ≤ (c7 : Nat) := by omega
                go_upto_region 16 with (at_builtin; refine wpl_app rfl _ _ 25 rfl _ _ _ _ rfl rfl (unhide R1) ?_)
                go_upto_region 17 with (at_builtin; refine wpl_app rfl _ _ 53 rfl _ _ _ _ rfl rfl (unhide R2) ?_)
                go_upto_region 18 with (at_builtin; refine wpl_app rfl _ _ 25 rfl _ _ _ _ rfl rfl (unhide R3) ?_)
                go_upto_region 19 with (at_builtin; refine wpl_app rfl _ _ 53 rfl _ _ _ _ rfl rfl (unhide R4) ?_)
                go_upto_region 20 with (at_builtin; refine wpl_app rfl _ _ 25 rfl _ _ _ _ rfl rfl (unhide R5) ?_)
                go_wp2_with (at_builtin; refine wpl_app rfl _ _ 53 rfl _ _ _ _ rfl rfl (unhide R6) ?_)
                all_goals
                  exact ⟨⟨0 + 1, by omega, by go_num, unhide HX6, unhide HY6, unhide HB6⟩, by simp [intOf]; omega⟩
          · clear h6
            by_cases hc6k : c6 = k
            · have hx6 := hc6k.symm; subst hx6
              rcases f7 with ⟨rfl, rfl, z7⟩ | ⟨g7, rfl, h7⟩
              · skip
                obtain rfl : k = 0 := by omega
                have R5 : Hid ((Builtin.append_ #[25, 25] 25 #[x3, .slice (some ⟨g6, 0, none⟩) 0 0]).run Tryd.prog w4 = .ok x5 w5) := r5
                have R6 : Hid ((Builtin.append_ #[53, 53] 53 #[y4, .slice none 0 0]).run Tryd.prog w5 = .ok y6 w6) := r6
                have R1 := hide r1
                have R2 := hide r2
                have R3 := hide r3
                have R4 := hide r4
                clear r1 r2 r3 r4 r5 r6
                have hq6 : ((0 : Nat) : Int) ≤ (0 : Nat) := by omega
                have hq7 : ((0 : Nat) : Int) ≤ (0 : Nat) := by omega
                go_upto_region 16 with (at_builtin; refine wpl_app rfl _ _ 25 rfl _ _ _ _ rfl rfl (unhide R1) ?_)
                go_upto_region 17 with (at_builtin; refine wpl_app rfl _ _ 53 rfl _ _ _ _ rfl rfl (unhide R2) ?_)
                go_upto_region 18 with (at_builtin; refine wpl_app rfl _ _ 25 rfl _ _ _ _ rfl rfl (unhide R3) ?_)
                go_upto_region 19 with (at_builtin; refine wpl_app rfl _ _ 53 rfl _ _ _ _ rfl rfl (unhide R4) ?_)
                go_upto_region 20 with (at_builtin; refine wpl_app rfl _ _ 25 rfl _ _ _ _ rfl rfl (unhide R5) ?_)
                go_wp2_with (at_builtin; refine wpl_app rfl _ _ 53 rfl _ _ _ _ rfl rfl (unhide R6) ?_)
                all_goals
                  exact ⟨⟨0 + 1, by omega, by go_num, unhide HX6, unhide HY6, unhide HB6⟩, by simp [intOf]; omega⟩
              · clear h7
                by_cases hc7k : c7 = k
                · have hx7 := hc7k.symm; subst hx7
                  rw [if_pos rfl, Nat.sub_self] at r5
                  have R5 := hide r5
                  rw [if_pos rfl, Nat.sub_self] at r6
                  have R6 := hide r6
                  have R1 := hide r1
                  have R2 := hide r2
                  have R3 := hide r3
                  have R4 := hide r4
                  clear r1 r2 r3 r4 r5 r6
                  have hq6 : ((k : Nat) : Int) ≤ (k : Nat) := by omega
                  have hq7 : ((k : Nat) : Int) ≤ (k : Nat) := by omega
                  go_upto_region 16 with (at_builtin; refine wpl_app rfl _ _ 25 rfl _ _ _ _ rfl rfl (unhide R1) ?_)
                  go_upto_region 17 with (at_builtin; refine wpl_app rfl _ _ 53 rfl _ _ _ _ rfl rfl (unhide R2) ?_)
                  go_upto_region 18 with (at_builtin; refine wpl_app rfl _ _ 25 rfl _ _ _ _ rfl rfl (unhide R3) ?_)
                  go_upto_region 19 with (at_builtin; refine wpl_app rfl _ _ 53 rfl _ _ _ _ rfl rfl (unhide R4) ?_)
                  go_upto_region 20 with (at_builtin; refine wpl_app rfl _ _ 25 rfl _ _ _ _ rfl rfl (unhide R5) ?_)
                  go_wp2_with (at_builtin; refine wpl_app rfl _ _ 53 rfl _ _ _ _ rfl rfl (unhide R6) ?_)
                  all_goals
                    exact ⟨⟨k + 1, by omega, by go_num, unhide HX6, unhide HY6, unhide HB6⟩, by simp [intOf]; omega⟩
                · skip
                  rw [if_pos rfl, Nat.sub_self] at r5
                  have R5 := hide r5
                  rw [if_neg hc7k, show ((some (⟨g7, 0, none⟩ : Addr)).map fun p => p.add k) = some ⟨g7, k, none⟩ from by show some ((⟨g7, 0, none⟩ : Addr).add k) = _; rw [add_no, Nat.zero_add], Nat.sub_self] at r6
                  have R6 := hide r6
                  have R1 := hide r1
                  have R2 := hide r2
                  have R3 := hide r3
                  have R4 := hide r4
                  clear r1 r2 r3 r4 r5 r6
                  have hq6 : ((k : Nat) : Int) ≤ (k : Nat) := by omega
                  have hq7 : ((k : Nat) : Int) ≤ (c7 : Nat) := by omega
                  go_upto_region 16 with (at_builtin; refine wpl_app rfl _ _ 25 rfl _ _ _ _ rfl rfl (unhide R1) ?_)
                  go_upto_region 17 with (at_builtin; refine wpl_app rfl _ _ 53 rfl _ _ _ _ rfl rfl (unhide R2) ?_)
                  go_upto_region 18 with (at_builtin; refine wpl_app rfl _ _ 25 rfl _ _ _ _ rfl rfl (unhide R3) ?_)
                  go_upto_region 19 with (at_builtin; refine wpl_app rfl _ _ 53 rfl _ _ _ _ rfl rfl (unhide R4) ?_)
                  go_upto_region 20 with (at_builtin; refine wpl_app rfl _ _ 25 rfl _ _ _ _ rfl rfl (unhide R5) ?_)
                  go_wp2_with (at_builtin; refine wpl_app rfl _ _ 53 rfl _ _ _ _ rfl rfl (unhide R6) ?_)
                  all_goals
                    exact ⟨⟨k + 1, by omega, by go_num, unhide HX6, unhide HY6, unhide HB6⟩, by simp [intOf]; omega⟩
            · skip
              rcases f7 with ⟨rfl, rfl, z7⟩ | ⟨g7, rfl, h7⟩
              · skip
                obtain rfl : k = 0 := by omega
                have R5 : Hid ((Builtin.append_ #[25, 25] 25 #[x3, .slice (some ⟨g6, 0, none⟩) 0 c6]).run Tryd.prog w4 = .ok x5 w5) := by
                  rw [if_neg hc6k] at r5
                  exact r5
                have R6 : Hid ((Builtin.append_ #[53, 53] 53 #[y4, .slice none 0 0]).run Tryd.prog w5 = .ok y6 w6) := r6
                have R1 := hide r1
                have R2 := hide r2
                have R3 := hide r3
                have R4 := hide r4
                clear r1 r2 r3 r4 r5 r6
                have hq6 : ((0 : Nat) : Int) ≤ (c6 : Nat) := by omega
                have hq7 : ((0 : Nat) : Int) ≤ (0 : Nat) := by omega
                go_upto_region 16 with (at_builtin; refine wpl_app rfl _ _ 25 rfl _ _ _ _ rfl rfl (unhide R1) ?_)
                go_upto_region 17 with (at_builtin; refine wpl_app rfl _ _ 53 rfl _ _ _ _ rfl rfl (unhide R2) ?_)
                go_upto_region 18 with (at_builtin; refine wpl_app rfl _ _ 25 rfl _ _ _ _ rfl rfl (unhide R3) ?_)
                go_upto_region 19 with (at_builtin; refine wpl_app rfl _ _ 53 rfl _ _ _ _ rfl rfl (unhide R4) ?_)
                go_upto_region 20 with (at_builtin; refine wpl_app rfl _ _ 25 rfl _ _ _ _ rfl rfl (unhide R5) ?_)
                go_wp2_with (at_builtin; refine wpl_app rfl _ _ 53 rfl _ _ _ _ rfl rfl (unhide R6) ?_)
                all_goals
                  exact ⟨⟨0 + 1, by omega, by go_num, unhide HX6, unhide HY6, unhide HB6⟩, by simp [intOf]; omega⟩
              · clear h7
                by_cases hc7k : c7 = k
                · have hx7 := hc7k.symm; subst hx7
                  rw [if_neg hc6k, show ((some (⟨g6, 0, none⟩ : Addr)).map fun p => p.add k) = some ⟨g6, k, none⟩ from by show some ((⟨g6, 0, none⟩ : Addr).add k) = _; rw [add_no, Nat.zero_add], Nat.sub_self] at r5
                  have R5 := hide r5
                  rw [if_pos rfl, Nat.sub_self] at r6
                  have R6 := hide r6
                  have R1 := hide r1
                  have R2 := hide r2
                  have R3 := hide r3
                  have R4 := hide r4
                  clear r1 r2 r3 r4 r5 r6
                  have hq6 : ((k : Nat) : Int) ≤ (c6 : Nat) := by omega
                  have hq7 : ((k : Nat) : Int) ≤ (k : Nat) := by omega
                  go_upto_region 16 with (at_builtin; refine wpl_app rfl _ _ 25 rfl _ _ _ _ rfl rfl (unhide R1) ?_)
                  go_upto_region 17 with (at_builtin; refine wpl_app rfl _ _ 53 rfl _ _ _ _ rfl rfl (unhide R2) ?_)
                  go_upto_region 18 with (at_builtin; refine wpl_app rfl _ _ 25 rfl _ _ _ _ rfl rfl (unhide R3) ?_)
                  go_upto_region 19 with (at_builtin; refine wpl_app rfl _ _ 53 rfl _ _ _ _ rfl rfl (unhide R4) ?_)
                  go_upto_region 20 with (at_builtin; refine wpl_app rfl _ _ 25 rfl _ _ _ _ rfl rfl (unhide R5) ?_)
                  go_wp2_with (at_builtin; refine wpl_app rfl _ _ 53 rfl _ _ _ _ rfl rfl (unhide R6) ?_)
                  all_goals
                    exact ⟨⟨k + 1, by omega, by go_num, unhide HX6, unhide HY6, unhide HB6⟩, by simp [intOf]; omega⟩
                · skip
                  rw [if_neg hc6k, show ((some (⟨g6, 0, none⟩ : Addr)).map fun p => p.add k) = some ⟨g6, k, none⟩ from by show some ((⟨g6, 0, none⟩ : Addr).add k) = _; rw [add_no, Nat.zero_add], Nat.sub_self] at r5
                  have R5 := hide r5
                  rw [if_neg hc7k, show ((some (⟨g7, 0, none⟩ : Addr)).map fun p => p.add k) = some ⟨g7, k, none⟩ from by show some ((⟨g7, 0, none⟩ : Addr).add k) = _; rw [add_no, Nat.zero_add], Nat.sub_self] at r6
                  have R6 := hide r6
                  have R1 := hide r1
                  have R2 := hide r2
                  have R3 := hide r3
                  have R4 := hide r4
                  clear r1 r2 r3 r4 r5 r6
                  have hq6 : ((k : Nat) : Int) ≤ (c6 : Nat) := by omega
                  have hq7 : ((k : Nat) : Int) ≤ (c7 : Nat) := by omega
                  go_upto_region 16 with (at_builtin; refine wpl_app rfl _ _ 25 rfl _ _ _ _ rfl rfl (unhide R1) ?_)
                  go_upto_region 17 with (at_builtin; refine wpl_app rfl _ _ 53 rfl _ _ _ _ rfl rfl (unhide R2) ?_)
                  go_upto_region 18 with (at_builtin; refine wpl_app rfl _ _ 25 rfl _ _ _ _ rfl rfl (unhide R3) ?_)
                  go_upto_region 19 with (at_builtin; refine wpl_app rfl _ _ 53 rfl _ _ _ _ rfl rfl (unhide R4) ?_)
                  go_upto_region 20 with (at_builtin; refine wpl_app rfl _ _ 25 rfl _ _ _ _ rfl rfl (unhide R5) ?_)
                  go_wp2_with (at_builtin; refine wpl_app rfl _ _ 53 rfl _ _ _ _ rfl rfl (unhide R6) ?_)
                  all_goals
                    exact ⟨⟨k + 1, by omega, by go_num, unhide HX6, unhide HY6, unhide HB6⟩, by simp [intOf]; omega⟩
    · obtain rfl : i = L.length := by omega
      have HO := hide (Ost.kept hO (Below.refl _ _))
      have HB := hide ((unhide B1).trans (hbel.mono hz1))
      have hO2 : Hid (Ost w.heap.size wr u6 (rkL key L L.length)) := by
        refine ⟨hO.1, ?_⟩
        rcases hO.2 with hn | ⟨g, c, cur, e, hg, rest⟩
        · exact .inl hn
        · exact .inr ⟨g, c, cur, e, Nat.le_trans hz1 hg, rest⟩
      clear hO hS hbel HO
      go_wp2
      go_ret2
      exact ⟨_, rfl, unhide hO2, unhide HB⟩
end Go.Proofs.YtpjmnnaiegdjmaaDoor
namespace Go.Proofs.YtpjmnnaiegdjmaaDoor
open Go.ChangeShapes Go.WideShapes Go.ChangeAt Go.RowKit Go.Deep Go.Sort Go.Lib
set_option linter.unusedVariables false
set_option maxRecDepth 100000

set_option maxHeartbeats 1000000 in
theorem bsX (a b : ByteArray) (m n : Int) (w : World) :
    Calls Tryd.prog 45 #[.agg #[.string a, .int .i64 m], .agg #[.string b, .int .i64 n]] w fun e w' => e = .returned (.int .i64 (cmI m n)) ∧ ∃ os, w' = grow w os := by
  have HC := hide (cmpI m n)
  generalize cmI m n = r at *
  go_enter Tryd.func45, Tryd.ntmps45
  go_wp2_with fail
  refine (unhide HC _).mono ?_
  rintro e w1 ⟨rfl, e1⟩
  subst w1
  go_wp2
  go_ret
  exact ⟨rfl, _, by rw [alloc_eq_grow, alloc_eq_grow, grow_grow]⟩
set_option maxHeartbeats 1000000 in
theorem cmpX (a b : ByteArray) (m n : Int) (w : World) :
    Calls Tryd.prog 44 #[.agg #[.string a, .int .i64 m], .agg #[.string b, .int .i64 n]] w fun e w' => e = .returned (.int .i64 (cmI n m)) ∧ ∃ os, w' = grow w os := by
  have HC := hide (bsX b a n m)
  generalize cmI n m = r at *
  go_enter Tryd.func44, Tryd.ntmps44
  go_wp2_with fail
  refine (unhide HC _).mono ?_
  rintro e w1 ⟨rfl, os, e1⟩
  subst w1
  go_wp2
  go_ret
  exact ⟨rfl, _, by rw [alloc_eq_grow, alloc_eq_grow, grow_grow, grow_grow]⟩
/-- how the closure compares -/
def cfR (key : ByteArray) (x y : ByteArray) : Int := cmI (scN y key : Nat) (scN x key : Nat)
theorem lt_cf (key : ByteArray) : ltOf (cfR key) = ltR key := by
  funext x y
  unfold ltOf cfR ltR cmI
  by_cases h : scN y key < scN x key
  · rw [if_pos (by omega)]
    rw [decide_eq_true h]
    rfl
  · rw [if_neg (by omega), decide_eq_false h]
    by_cases h2 : ((scN x key : Nat) : Int) < (scN y key : Nat)
    · rw [if_pos h2]; rfl
    · rw [if_neg h2]; rfl
theorem enc_agg (key x : ByteArray) : Value.agg (sW key x).toArray = .agg #[.string x, .int .i64 (scN x key : Nat)] := rfl
theorem cmp_lays (key : ByteArray) (blk off size : Nat) (w : World) : CmpLays Tryd.prog 44 #[] (sW key) 2 (cfR key) blk off size w := by
  intro m os dk _ x y
  rw [enc_agg, enc_agg]
  refine (cmpX x y (scN x key : Nat) (scN y key : Nat) _).mono ?_
  rintro e w' ⟨rfl, os', rfl⟩
  exact ⟨rfl, 0, os', rfl⟩
theorem sx_holds {w : World} {g : Nat} {key : ByteArray} {L : List ByteArray} (h : Sx w g L.length key (tA L)) (hf : ∀ o, w.frozen? ⟨g, o, none⟩ = false) : HoldsK (sW key) 2 w g 0 L.toArray := by
  intro j hj
  rw [size_flatK] at hj
  have hd : L.toArray[j / 2]! = tA L (j / 2) := by
    have hq : j / 2 < L.length := by simp at hj; omega
    rw [getElem!_pos _ (j / 2) (by simpa using hq)]
    unfold tA
    rw [List.getD, List.getElem?_eq_getElem hq]
    simp
  refine ⟨?_, by rw [Nat.zero_add]; exact hf j⟩
  rw [get_flatK _ _ _ _ hj, hd, Nat.zero_add]
  have hq : j / 2 < L.length := by simp at hj; omega
  rcases Nat.mod_two_eq_zero_or_one j with e | e
  · have h0 := h.c0 (j / 2) hq
    rw [show j / 2 * 2 = j by omega] at h0
    rw [h0, e]
    rfl
  · have h0 := h.c1 (j / 2) hq
    rw [show j / 2 * 2 + 1 = j by omega] at h0
    rw [h0, e]
    rfl
theorem holds_sx {w : World} {g : Nat} {key : ByteArray} {D : Array ByteArray} {F : Nat → ByteArray} (h : HoldsK (sW key) 2 w g 0 D) (hg : g < w.heap.size) (hF : ∀ q, q < D.size → D[q]! = F q) : Sx w g D.size key F := by
  refine ⟨hg, fun i hi => ?_, fun i hi => ?_⟩
  · have h0 := (h (i * 2) (by rw [size_flatK]; omega)).1
    rw [get_flatK _ _ _ _ (by omega), Nat.zero_add, show i * 2 / 2 = i by omega, show i * 2 % 2 = 0 by omega, hF i hi] at h0
    exact h0
  · have h0 := (h (i * 2 + 1) (by rw [size_flatK]; omega)).1
    rw [get_flatK _ _ _ _ (by omega), Nat.zero_add, show (i * 2 + 1) / 2 = i by omega, show (i * 2 + 1) % 2 = 1 by omega, hF i hi] at h0
    exact h0
theorem sw_block (enc : ByteArray → List Value) (w : World) (blk off m : Nat) (D : Array ByteArray) (os : Array Obj) (k : Nat) (h1 : k < w.heap.size) (h2 : k ≠ blk) : (sortWorldK enc 2 w blk off m D os).heap[k]? = w.heap[k]? := by
  unfold sortWorldK grow
  show ((putRowK enc 2 (Sort.ahead w m) blk off D).heap ++ os)[k]? = _
  rw [Array.getElem?_append_left (by rw [size_putRowK]; exact h1)]
  unfold putRowK putRow mapBlock
  show ((Sort.ahead w m).heap.modify blk _)[k]? = _
  rw [Array.getElem?_modify, if_neg (fun e => h2 e.symm)]
  rfl
theorem sw_below (enc : ByteArray → List Value) (w : World) (blk off m B : Nat) (D : Array ByteArray) (os : Array Obj) (hB : B ≤ blk) (hb : blk < w.heap.size) : Below B w (sortWorldK enc 2 w blk off m D os) :=
  ⟨rfl, rfl, rfl, size_sortWorldK_c enc 2 w blk off m D os, fun k hk => sw_block enc w blk off m D os k (by omega) (by omega)⟩
/-- a row of scores sorted -/
def Sd (base : Nat) (w : World) (g : Nat) (key : ByteArray) (L : List ByteArray) (e : Ending) (w' : World) : Prop := e = .returned (.tuple #[]) ∧ Sx w' g L.length key (tA (rkL key L L.length)) ∧ Below base w w'
theorem insS (base g cap : Nat) (key : ByteArray) (L : List ByteArray) (w : World) (hN : L.length ≤ 1000) (hg : base ≤ g) (h : Sx w g L.length key (tA L)) (hf : ∀ o, w.frozen? ⟨g, o, none⟩ = false) :
    Calls Tryd.prog 82 #[.slice (some ⟨g, 0, none⟩) L.length cap, .int .i64 0, .int .i64 L.length, .func (.func 44) #[] #[]] w (Sd base w g key L) := by
  have hh := sx_holds h hf
  have hz : L.toArray.size = L.length := by simp
  have H := AnyQ.insertionSortCmpFunc Tryd.laysF20 2 Tryd.isAgg47 Tryd.sizeOf47 (sW key) (sW_len key) (fun x v hv => by simp [sW] at hv; rcases hv with rfl | rfl <;> rfl) (cfR key) 44 #[] g 0 cap 0 L.length L.toArray w (enters_of Tryd.func44 (by kernel_rfl) rfl) (cmp_lays key g 0 L.toArray.size w) hh h.lt (by omega) (by simp) (by rw [hz]; omega)
  rw [lt_cf] at H
  obtain ⟨s1, s2⟩ := sort_is key L
  rw [hz] at H
  refine H.mono ?_
  rintro e w' ⟨rfl, n, os, rfl⟩
  refine ⟨rfl, ?_, sw_below _ _ _ _ _ _ _ _ hg h.lt⟩
  have hk := holdsK_sortWorldK_c (sW key) 2 w g 0 L.toArray (insertionSort (ltR key) L.toArray 0 L.length) n os hh h.lt (by rw [s1, hz])
  have := holds_sx hk (Nat.lt_of_lt_of_le h.lt (size_sortWorldK_c (sW key) 2 w g 0 n _ os)) (F := tA (rkL key L L.length)) (fun q hq => s2 q (by omega))
  rw [s1] at this
  exact this
end Go.Proofs.YtpjmnnaiegdjmaaDoor
namespace Go.Proofs.YtpjmnnaiegdjmaaDoor
open Go.ChangeShapes Go.WideShapes Go.ChangeAt Go.RowKit Go.Deep
set_option linter.unusedVariables false
set_option maxRecDepth 100000

set_option maxHeartbeats 1000000 in
theorem stbS (base g cap : Nat) (key : ByteArray) (L : List ByteArray) (w : World) (hN : L.length ≤ 12) (hg : base ≤ g) (h : Sx w g L.length key (tA L)) (hf : ∀ o, w.frozen? ⟨g, o, none⟩ = false) :
    Calls Tryd.prog 66 #[.slice (some ⟨g, 0, none⟩) L.length cap, .int .i64 L.length, .func (.func 44) #[] #[]] w (Sd base w g key L) := by
  have HI := hide (insS base g cap key L w (by omega) hg h hf)
  have hI : (L.length : Int) ≤ 12 := by omega
  clear h hf
  go_enter Tryd.func66, Tryd.ntmps66
  go_wp2
  refine wp_loop_rounds 1 ?_
  rw [rounds_succ]
  go_wp2_with fail
  refine (unhide HI).mono ?_
  rintro e w1 ⟨rfl, s1, b1⟩
  have S1 := hide s1
  have B1 := hide b1
  clear s1 b1
  go_wp2
  refine wp_loop_rounds 1 ?_
  rw [rounds_succ]
  go_wp2
  go_end0
  exact ⟨rfl, unhide S1, unhide B1⟩
set_option maxHeartbeats 1000000 in
theorem soS (base g cap : Nat) (key : ByteArray) (L : List ByteArray) (w : World) (hN : L.length ≤ 12) (hg : base ≤ g) (h : Sx w g L.length key (tA L)) (hf : ∀ o, w.frozen? ⟨g, o, none⟩ = false) :
    Calls Tryd.prog 43 #[.slice (some ⟨g, 0, none⟩) L.length cap, .func (.func 44) #[] #[]] w (Sd base w g key L) := by
  have HI := hide (stbS base g cap key L w hN hg h hf)
  clear h hf
  go_enter Tryd.func43, Tryd.ntmps43
  go_wp2_with fail
  refine (unhide HI).mono ?_
  rintro e w1 ⟨rfl, s1, b1⟩
  have S1 := hide s1
  have B1 := hide b1
  clear s1 b1
  go_wp2
  go_end0
  exact ⟨rfl, unhide S1, unhide B1⟩
set_option maxHeartbeats 1000000 in
theorem soN (a : Option Addr) (cap : Nat) (w : World) :
    Calls Tryd.prog 43 #[.slice a 0 cap, .func (.func 44) #[] #[]] w fun e w' => e = .returned (.tuple #[]) ∧ w' = w := by
  have H1 : Hid (Calls Tryd.prog 82 #[.slice a 0 cap, .int .i64 0, .int .i64 0, .func (.func 44) #[] #[]] w fun e w' => e = .returned (.tuple #[]) ∧ w' = w) := by
    go_enter Tryd.func82, Tryd.ntmps82
    go_wp2
    refine wp_loop_rounds 1 ?_
    rw [rounds_succ]
    go_wp2
    go_end0
    exact ⟨rfl, rfl⟩
  have H2 : Hid (Calls Tryd.prog 66 #[.slice a 0 cap, .int .i64 0, .func (.func 44) #[] #[]] w fun e w' => e = .returned (.tuple #[]) ∧ w' = w) := by
    go_enter Tryd.func66, Tryd.ntmps66
    go_wp2
    refine wp_loop_rounds 1 ?_
    rw [rounds_succ]
    go_wp2_with fail
    refine (unhide H1).mono ?_
    rintro e w1 ⟨rfl, e1⟩
    subst w1
    go_wp2
    refine wp_loop_rounds 1 ?_
    rw [rounds_succ]
    go_wp2
    go_end0
    exact ⟨rfl, rfl⟩
  go_enter Tryd.func43, Tryd.ntmps43
  go_wp2_with fail
  refine (unhide H2).mono ?_
  rintro e w1 ⟨rfl, e1⟩
  subst w1
  go_wp2
  go_end0
  exact ⟨rfl, rfl⟩
/-- whether RankBackends says yes; what it answers -/
def rbB (L : List ByteArray) (key : ByteArray) : Bool := glB (tA L) L.length && decide (key.size ≤ 100)
def rbM (L : List ByteArray) (key : ByteArray) : List ByteArray := if rbB L key = true then rkL key L L.length else []
theorem rb_no {L : List ByteArray} {key : ByteArray} (h : rbB L key = false) : rbM L key = [] := by unfold rbM; rw [h]; rfl
theorem rb_yes {L : List ByteArray} {key : ByteArray} (h : rbB L key = true) : rbM L key = rkL key L L.length := by unfold rbM; rw [h]; rfl
/-- who is in rank is in the list -/
theorem rk_mem (key : ByteArray) (L : List ByteArray) : ∀ i, i ≤ L.length → ∀ q, q < i → ∃ j, j < i ∧ tA (rkL key L i) q = tA L j
  | 0, _, q, hq => absurd hq (Nat.not_lt_zero _)
  | i + 1, hi, q, hq => by
    rw [rkL, insL_an _ _ _ _ (rkI_le _ _ _)]
    have hk := rkI_le key (tA L i) (rkL key L i)
    rw [rkL_len] at hk
    split
    · obtain ⟨j, h1, h2⟩ := rk_mem key L i (by omega) q (by omega)
      exact ⟨j, by omega, h2⟩
    · split
      · exact ⟨i, by omega, rfl⟩
      · obtain ⟨j, h1, h2⟩ := rk_mem key L i (by omega) (q - 1) (by omega)
        exact ⟨j, by omega, h2⟩
set_option maxHeartbeats 2000000 in
theorem implRk (a : Option Addr) (cap : Nat) (L : List ByteArray) (key : ByteArray) (w : World) (hN : L.length ≤ 1048576) (hz : ∀ i, i < L.length → (tA L i).size ≤ 1048576) (hk : key.size ≤ 1048576) (h : Ta w a L) (hT : Rt w) :
    Calls Tryd.prog 17 #[.slice a L.length cap, .string key] w (Rs (rbM L key) (rbB L key) w) := by
  have HG := hide (implGL a L.length cap (tA L) w hN hz h)
  cases hgl : glB (tA L) L.length with
  | false =>
    have hb : rbB L key = false := by unfold rbB; rw [hgl]; rfl
    rw [rb_no hb, hb]
    rw [hgl] at HG
    clear h hz hgl hT hb
    go_enter Tryd.func17, Tryd.ntmps17
    go_wp2_with fail
    refine (unhide HG).mono ?_
    rintro e w1 ⟨rfl, e1⟩
    subst w1
    go_wp2
    go_ret2
    exact Rs.none (Below.refl _ _)
  | true =>
  rw [hgl] at HG
  have HW := hide (fun W g q hc => within_one key 100 (by omega) hk W g q hc)
  by_cases h1 : key.size ≤ 100
  case neg =>
    have hb : rbB L key = false := by unfold rbB; rw [decide_eq_false h1, Bool.and_false]
    rw [rb_no hb, hb]
    rw [decide_eq_false h1] at HW
    clear h hz hgl hT hb
    go_enter Tryd.func17, Tryd.ntmps17
    go_wp2_with fail
    refine (unhide HG).mono ?_
    rintro e w1 ⟨rfl, e1⟩
    subst w1
    go_wp2_with fail
    refine (unhide HW _ _ _ (by simp)).mono ?_
    rintro e w2 ⟨rfl, e2⟩
    subst w2
    go_wp2
    go_ret2
    exact Rs.none ((Below.refl _ _).alloc (Nat.le_refl _) _)
  have hb : rbB L key = true := by unfold rbB; rw [hgl, decide_eq_true h1]; rfl
  rw [rb_yes hb, hb]
  rw [decide_eq_true h1] at HW
  have h12 := gl_12 hgl
  have HS := hide (fun W (q : Below w.heap.size w W) => implSs a cap L key W (by omega) (fun i hi => by have := bk_size (gl_bk hgl hi); omega) (by omega) (h.kept q) (hT.kept q))
  have HC : Hid (∀ q, q < L.length → ∀ W, Calls Tryd.prog 39 #[.string (tA (rkL key L L.length) q)] W fun e w' => e = .returned (.string (tA (rkL key L L.length) q)) ∧ Below W.heap.size W w') := fun q hq W => by
    obtain ⟨j, hj, e⟩ := rk_mem key L L.length (Nat.le_refl _) q hq
    refine clnT _ ?_ W
    rw [e]
    have := bk_size (gl_bk hgl hj)
    omega
  have hRl := rkL_len key L L.length
  have HSO := hide (fun base g c W hg hx hf => soS base g c key L W h12 hg hx hf)
  unfold Sd at HSO
  clear h hz hgl hT hb
  generalize rkL key L L.length = R at *
  go_enter Tryd.func17, Tryd.ntmps17
  go_wp2_with fail
  refine (unhide HG).mono ?_
  rintro e w1 ⟨rfl, e1⟩
  subst w1
  go_wp2_with fail
  refine (unhide HW _ _ _ (by simp)).mono ?_
  rintro e w2 ⟨rfl, e2⟩
  subst w2
  go_wp2_with fail
  refine (unhide HS _ ((Below.refl _ _).alloc (Nat.le_refl _) _)).mono ?_
  rintro e w3 ⟨v, rfl, hO, b3⟩
  have B3 := hide (((Below.refl w.heap.size w).alloc (Nat.le_refl _) _).trans (b3.mono (by simp)))
  obtain ⟨a3, c3, rfl, n3, m3, hf3⟩ := hO.form
  clear hO b3
  by_cases h0 : L.length = 0
  · obtain rfl : L = [] := List.length_eq_zero_iff.1 h0
    obtain rfl : R = [] := List.length_eq_zero_iff.1 (by omega)
    have HSN := hide (soN a3 c3 w3)
    clear hf3 HSO HC
    go_wp2_with fail
    refine (unhide HSN).mono ?_
    rintro e w4 ⟨rfl, e4⟩
    subst w4
    go_wp2
    refine wp_loop_rounds 1 ?_
    rw [rounds_succ]
    go_wp2
    go_ret2
    exact ⟨none, 0, rfl, Or.inl rfl, unhide B3⟩
  rcases hf3 with hf3 | ⟨g, rfl, hg, hx, hfz⟩
  · exact absurd hf3 h0
  have hg' : w.heap.size ≤ g := by simp at hg; omega
  have HS4 := hide (unhide HSO w.heap.size g c3 w3 hg' hx hfz)
  clear hx hfz HSO HS
  go_wp2_with fail
  refine (unhide HS4).mono ?_
  rintro e w4 ⟨rfl, x4, b4⟩
  have X4 := hide x4
  have B4 := hide ((unhide B3).trans b4)
  have hgl4 := x4.lt
  clear x4 b4 HS4
  go_wp2_with fail
  go_loopw [7, 26] (fun v i wr => ∃ k : Nat, k ≤ L.length ∧ i = .int .i64 k ∧ Ost w4.heap.size wr v (R.take k) ∧ Below w4.heap.size w4 wr) (fun _ i _ => L.length - (intOf i).toNat)
  case atStart => exact ⟨0, Nat.zero_le _, rfl, Ost.nil _ _, Below.refl _ _⟩
  case round =>
    obtain ⟨k, hkl, rfl, hO, hbel⟩ := hrel
    by_cases hlt : k < L.length
    · have hx := (unhide X4).kept hbel
      have c0 := hx.c0 k hlt
      have c1 := hx.c1 k hlt
      have hnk : (k : Int) < (L.length : Int) := by omega
      have PC := hide (unhide HC k hlt)
      have TK := hide (take_tA R k (by omega))
      have A0 := hide ((Below.refl wr.heap.size wr).alloc (Nat.le_refl _) (.cells #[.string (tA R k), .int .i64 (scN (tA R k) key : Nat)] 47))
      have HO := hide (hO.kept (unhide A0))
      have HB := hide (hbel.trans ((unhide A0).mono hbel.size))
      have hlen : (R.take k).length = k := by rw [List.length_take]; omega
      clear hx hO hbel
      generalize scN (tA R k) key = sn at *
      generalize tA R k = D at *
      go_wp2_with fail
      refine (unhide PC _).mono ?_
      rintro e w5 ⟨rfl, b5⟩
      have B5 := hide ((unhide HB).trans (b5.mono (unhide HB).size))
      obtain ⟨v', w', hrun, hO', hg6, _⟩ := appS (w5.alloc (.cells #[.string D] 9)) 25 w4.heap.size u7 (R.take k) (((unhide HO).kept b5).kept ((Below.refl _ _).alloc (Nat.le_refl _) _)) (some ⟨w5.heap.size, 0, none⟩) 1 [D] (sc_txt w5 D _) (by rw [hlen]; show k + 1 ≤ _; omega) (by have := (unhide B5).size; simp; omega)
      have RUN : Hid ((Builtin.append_ #[25, 25] 25 #[u7, .slice (some ⟨w5.heap.size, 0, none⟩) 1 1]).run Tryd.prog (w5.alloc (.cells #[.string D] 9)) = .ok v' w') := hrun
      rw [unhide TK] at hO'
      have HO2 := hide hO'
      have HB2 := hide (((unhide B5).alloc (unhide B5).size (.cells #[.string D] 9)).trans hg6)
      clear hrun hO' hg6 b5 HO HB PC TK B5 A0
      go_wp2_with (at_builtin; refine wpl_app rfl _ _ 25 rfl _ _ _ _ rfl rfl (unhide RUN) ?_)
      exact ⟨⟨k + 1, by omega, by go_num, unhide HO2, unhide HB2⟩, by simp [intOf]; omega⟩
    · obtain rfl : k = L.length := by omega
      have eR : R.take L.length = R := by rw [← hRl, List.take_length]
      rw [eR] at hO
      obtain ⟨a9, c9, rfl, _, _, s9⟩ := hO.form
      have S9 := hide (s9.from (unhide B4).size)
      have B9 := hide ((unhide B4).trans (hbel.mono (unhide B4).size))
      clear hO hbel s9
      go_wp2
      go_ret2
      exact ⟨a9, c9, rfl, unhide S9, unhide B9⟩
end Go.Proofs.YtpjmnnaiegdjmaaDoor
namespace Go.Proofs.YtpjmnnaiegdjmaaDoor
open Go.ChangeShapes Go.WideShapes Go.ChangeAt Go.RowKit Go.Deep
set_option linter.unusedVariables false
set_option maxRecDepth 100000

theorem rbM_len (L : List ByteArray) (key : ByteArray) : (rbM L key).length ≤ 12 := by
  by_cases h : rbB L key = true
  · rw [rb_yes h, rkL_len]
    unfold rbB at h
    rw [Bool.and_eq_true] at h
    exact gl_12 h.1
  · rw [rb_no (Bool.eq_false_iff.2 h)]; exact Nat.zero_le _
set_option maxHeartbeats 1000000 in
theorem specRk (a : Option Addr) (cap : Nat) (L : List ByteArray) (key : ByteArray) (w : World) (hN : L.length ≤ 1048576) (hz : ∀ i, i < L.length → (tA L i).size ≤ 1048576) (hk : key.size ≤ 1048576) (h : Ta w a L) :
    Calls Tryd.prog 16 #[.slice a L.length cap, .string key] w (Rs (rbM L key) (rbB L key) w) := by
  have HG := hide (specGL a L.length cap (tA L) w hN hz h)
  cases hgl : glB (tA L) L.length with
  | false =>
    have hb : rbB L key = false := by unfold rbB; rw [hgl]; rfl
    rw [rb_no hb, hb]
    rw [hgl] at HG
    clear h hz hgl hb
    go_enter Tryd.func16, Tryd.ntmps16
    go_wp2_with fail
    refine (unhide HG).mono ?_
    rintro e w1 ⟨rfl, e1⟩
    subst w1
    go_wp2
    go_ret2
    exact Rs.none (Below.refl _ _)
  | true =>
  by_cases h1 : key.size ≤ 100
  case neg =>
    have hb : rbB L key = false := by unfold rbB; rw [decide_eq_false h1, Bool.and_false]
    rw [rb_no hb, hb]
    rw [hgl] at HG
    have h2 : (100 : Int) < (key.size : Int) := by omega
    clear h hz hgl hb
    go_enter Tryd.func16, Tryd.ntmps16
    go_wp2_with fail
    refine (unhide HG).mono ?_
    rintro e w1 ⟨rfl, e1⟩
    subst w1
    go_wp2
    go_ret2
    exact Rs.none (Below.refl _ _)
  have hb : rbB L key = true := by unfold rbB; rw [hgl, decide_eq_true h1]; rfl
  rw [rb_yes hb, hb]
  refine (specRl a cap L key w (gl_12 hgl) hgl h1 h).mono ?_
  rintro e w' ⟨v, rfl, hO, q⟩
  obtain ⟨a9, c9, rfl, _, _, s9⟩ := hO.form
  exact ⟨a9, c9, rfl, s9, q⟩
end Go.Proofs.YtpjmnnaiegdjmaaDoor
namespace Go.Proofs.YtpjmnnaiegdjmaaDoor
open Go.ChangeShapes Go.WideShapes Go.ChangeAt Go.RowKit
set_option linter.unusedVariables false

/-- where who is in rank lies in the list -/
structure Rx (key : ByteArray) (L : List ByteArray) (i : Nat) (f : Nat → Nat) : Prop where
  lt : ∀ q, q < i → f q < i
  at' : ∀ q, q < i → tA (rkL key L i) q = tA L (f q)
  all : ∀ j, j < i → ∃ q, q < i ∧ f q = j
  ord : ∀ q q', q < q' → q' < i → scN (tA L (f q')) key < scN (tA L (f q)) key ∨ scN (tA L (f q')) key = scN (tA L (f q)) key ∧ f q < f q'
theorem rx_any (key : ByteArray) (L : List ByteArray) : ∀ i, ∃ f, Rx key L i f
  | 0 => ⟨id, fun q h => absurd h (Nat.not_lt_zero _), fun q h => absurd h (Nat.not_lt_zero _), fun q h => absurd h (Nat.not_lt_zero _), fun q q' _ h => absurd h (Nat.not_lt_zero _)⟩
  | i + 1 => by
    obtain ⟨f, h1, h2, h3, h4⟩ := rx_any key L i
    obtain ⟨p1, p2, p3⟩ := ldP_is (geS key (tA L i) (rkL key L i)) (rkL key L i).length
    have hp : rkI key (tA L i) (rkL key L i) = ldP (geS key (tA L i) (rkL key L i)) (rkL key L i).length := rfl
    rw [← hp] at p1 p2 p3
    have hr : rkL key L (i + 1) = insL (rkL key L i) (rkI key (tA L i) (rkL key L i)) (tA L i) := rfl
    have hF := fal_rk key L i
    have hl := rkL_len key L i
    generalize rkI key (tA L i) (rkL key L i) = p at *
    have q2 : ∀ t, t < p → scN (tA L i) key ≤ scN (tA L (f t)) key := fun t ht => by
      have := of_decide_eq_true (p2 t ht)
      rw [h2 t (by omega)] at this
      exact this
    have q3 : ∀ t, p ≤ t → t < i → scN (tA L (f t)) key < scN (tA L i) key := fun t a b => by
      have c := of_decide_eq_false (p3 (by omega))
      have d := hF p t a (by omega)
      rw [h2 t b] at d
      omega
    have hat : ∀ q, q < i + 1 → tA (rkL key L (i + 1)) q = tA L (if q < p then f q else if q = p then i else f (q - 1)) := fun q hq => by
      rw [hr, insL_an _ _ _ _ p1]
      by_cases c : q < p
      · rw [if_pos c, if_pos c, h2 q (by omega)]
      · rw [if_neg c, if_neg c]
        by_cases e : q = p
        · rw [if_pos e, if_pos e]
        · rw [if_neg e, if_neg e, h2 (q - 1) (by omega)]
    refine ⟨fun q => if q < p then f q else if q = p then i else f (q - 1), fun q hq => ?_, hat, fun j hj => ?_, fun q q' hqq hq' => ?_⟩
    · show (if q < p then f q else if q = p then i else f (q - 1)) < i + 1
      split
      · have := h1 q (by omega); omega
      · split
        · omega
        · have := h1 (q - 1) (by omega); omega
    · by_cases e : j = i
      · exact ⟨p, by omega, by show (if p < p then f p else if p = p then i else f (p - 1)) = j; rw [if_neg (Nat.lt_irrefl _), if_pos rfl, e]⟩
      · obtain ⟨q, a, b⟩ := h3 j (by omega)
        by_cases c : q < p
        · exact ⟨q, by omega, by show (if q < p then f q else if q = p then i else f (q - 1)) = j; rw [if_pos c, b]⟩
        · exact ⟨q + 1, by omega, by show (if q + 1 < p then f (q + 1) else if q + 1 = p then i else f (q + 1 - 1)) = j; rw [if_neg (by omega), if_neg (by omega), Nat.add_sub_cancel, b]⟩
    · show scN (tA L (if q' < p then f q' else if q' = p then i else f (q' - 1))) key < scN (tA L (if q < p then f q else if q = p then i else f (q - 1))) key ∨ scN (tA L (if q' < p then f q' else if q' = p then i else f (q' - 1))) key = scN (tA L (if q < p then f q else if q = p then i else f (q - 1))) key ∧ (if q < p then f q else if q = p then i else f (q - 1)) < (if q' < p then f q' else if q' = p then i else f (q' - 1))
      by_cases c1 : q' < p
      · rw [if_pos c1, if_pos (show q < p by omega)]
        exact h4 q q' hqq (by omega)
      · rw [if_neg c1]
        by_cases c2 : q' = p
        · rw [if_pos c2, if_pos (show q < p by omega)]
          have a := q2 q (by omega)
          have b := h1 q (by omega)
          by_cases e : scN (tA L i) key = scN (tA L (f q)) key
          · exact Or.inr ⟨e, b⟩
          · exact Or.inl (by omega)
        · rw [if_neg c2]
          by_cases c3 : q < p
          · rw [if_pos c3]
            exact h4 q (q' - 1) (by omega) (by omega)
          · rw [if_neg c3]
            by_cases c4 : q = p
            · rw [if_pos c4]
              exact Or.inl (q3 (q' - 1) (by omega) (by omega))
            · rw [if_neg c4]
              exact h4 (q - 1) (q' - 1) (by omega) (by omega)
/-- who is first in rank is picked -/
theorem rk_first {key : ByteArray} {L : List ByteArray} {f : Nat → Nat} (h : Rx key L L.length f) (h0 : 0 < L.length) : pkI (tA L) key (L.length - 1) = f 0 := by
  refine (pk_is (tA L) key L.length h0).uniq ⟨h.lt 0 h0, fun j hj => ?_, fun j hj => ?_⟩
  · obtain ⟨q, hq, rfl⟩ := h.all j hj
    by_cases e : q = 0
    · rw [e]; exact Nat.le_refl _
    · rcases h.ord 0 q (by omega) hq with a | a <;> omega
  · have hl := h.lt 0 h0
    obtain ⟨q, hq, rfl⟩ := h.all j (by omega)
    by_cases e : q = 0
    · rw [e] at hj; omega
    · rcases h.ord 0 q (by omega) hq with a | a <;> omega
/-- who is second is picked of the others -/
theorem rk_second {key : ByteArray} {L : List ByteArray} {f : Nat → Nat} (h : Rx key L L.length f) (h1 : 1 < L.length) : pkT (tA (drL L (f 0))) key (drL L (f 0)).length = tA L (f 1) := by
  have hk := h.lt 0 (by omega)
  have hk1 := h.lt 1 h1
  have hl := drL_len L (f 0) hk
  have hne : f 1 ≠ f 0 := fun e => by
    rcases h.ord 0 1 (by omega) h1 with a | a
    · rw [e] at a; omega
    · omega
  have hlow : ∀ j, j < L.length → j ≠ f 0 → scN (tA L j) key ≤ scN (tA L (f 1)) key ∧ (j < f 1 → scN (tA L j) key < scN (tA L (f 1)) key) := fun j hj hj0 => by
    obtain ⟨q, hq, rfl⟩ := h.all j hj
    by_cases e0 : q = 0
    · rw [e0] at hj0; exact absurd rfl hj0
    · by_cases e1 : q = 1
      · rw [e1]; exact ⟨Nat.le_refl _, fun a => by omega⟩
      · rcases h.ord 1 q (by omega) hq with a | a
        · exact ⟨by omega, fun _ => a⟩
        · exact ⟨by omega, fun b => by omega⟩
  obtain ⟨i, hi⟩ : ∃ i, i = if f 1 < f 0 then f 1 else f 1 - 1 := ⟨_, rfl⟩
  have hat : tA (drL L (f 0)) i = tA L (f 1) := by
    rw [drL_at L (f 0) i hk, hi]
    by_cases q : f 1 < f 0
    · rw [if_pos q, if_pos q]
    · rw [if_neg q, if_neg (by omega)]
      congr 1
      omega
  have hT : IsT (tA (drL L (f 0))) key (drL L (f 0)).length i := by
    refine ⟨by rw [hl, hi]; split <;> omega, fun q hq => ?_, fun q hq => ?_⟩
    · rw [hat, drL_at L (f 0) q hk]
      split
      · exact (hlow q (by omega) (by omega)).1
      · exact (hlow (q + 1) (by omega) (by omega)).1
    · have hil : i < L.length - 1 := by rw [hi]; split <;> omega
      rw [hat, drL_at L (f 0) q hk]
      split
      · refine (hlow q (by omega) (by omega)).2 ?_
        rw [hi] at hq
        split at hq <;> omega
      · refine (hlow (q + 1) (by omega) (by omega)).2 ?_
        rw [hi] at hq
        split at hq <;> omega
  have hu := (pk_is (tA (drL L (f 0))) key (drL L (f 0)).length (by omega)).uniq hT
  unfold pkT
  rw [hu, hat]
/-- what is asked of ranks -/
theorem ranked {key : ByteArray} {L : List ByteArray} (hg : glB (tA L) L.length = true) (hk : key.size ≤ 100) (h0 : 0 < L.length) :
    pbR (tA L) L.length key = .tuple #[.string (tA (rkL key L L.length) 0), .bool true] ∧ (∀ q, q < L.length → bkB (tA (rkL key L L.length) q) = true) ∧
    (1 < L.length → dbB L (tA (rkL key L L.length) 0) = true ∧ (dbM L (tA (rkL key L L.length) 0)).length ≤ 12 ∧ (∀ i, i < (dbM L (tA (rkL key L L.length) 0)).length → (tA (dbM L (tA (rkL key L L.length) 0)) i).size ≤ 1048576) ∧ pbR (tA (dbM L (tA (rkL key L L.length) 0))) (dbM L (tA (rkL key L L.length) 0)).length key = .tuple #[.string (tA (rkL key L L.length) 1), .bool true]) := by
  obtain ⟨f, h⟩ := rx_any key L L.length
  have hl0 := h.lt 0 h0
  have e0 := h.at' 0 h0
  refine ⟨?_, fun q hq => ?_, fun h1 => ?_⟩
  · unfold pbR pkT
    rw [if_pos ⟨h0, hg, hk⟩, rk_first h h0, e0]
  · rw [h.at' q hq]
    exact gl_bk hg (h.lt q hq)
  · have hp : lnP (tA L) (tA L (f 0)) L.length = f 0 := IsP.eq ⟨by omega, fun t ht => gl_lt hg ht hl0, fun _ => lsT_irr _⟩
    have hb : dbB L (tA L (f 0)) = true := by
      unfold dbB hsP
      rw [hg, hp, decide_eq_true hl0, decide_eq_true rfl]
      rfl
    have hM : dbM L (tA L (f 0)) = drL L (f 0) := by unfold dbM; rw [if_pos hb, hp]
    have hg2 := gl_dr hg hl0
    have hl := drL_len L (f 0) hl0
    rw [e0, hM, h.at' 1 h1]
    refine ⟨hb, gl_12 hg2, fun i hi => by have := bk_size (gl_bk hg2 hi); omega, ?_⟩
    unfold pbR
    rw [if_pos ⟨by omega, hg2, hk⟩, rk_second h h1]
end Go.Proofs.YtpjmnnaiegdjmaaDoor
