/-
  Contracts: words put behind bytes; a text that is filled up for its hash, the program's.
-/
import Derived.Test.YtpjmnnaiegdjmaaDoorSgs
import Derived.Test.YtpjmnnaiegdjmaaDoorAri
namespace Go.Proofs.YtpjmnnaiegdjmaaDoor
open Go.ChangeShapes Go.WideShapes Go.ChangeAt Go.RowKit
set_option linter.unusedVariables false

/-- the byte k of a number, the lowest being 0 -/
def byW (v k : Nat) : Nat := v / 256 ^ k % 256
theorem byW_lt (v k : Nat) : byW v k < 256 := Nat.mod_lt _ (by omega)
theorem wpList_append_run {P : Program} (w : World) {ops : Array Oper} {rest : List Oper} {o : Oper} {a : Act} {Q : Exit → Act → World → Prop} (hgd : o.guard = none) (d x : Operand) (t : TypeId)
    (ho : o.op = .call { callee := .builtin .append, args := #[d, x], argTypes := #[t, t] }) (v u : Value) (hd : a.eval d = v) (hx : a.eval x = u) {v' : Value} {w' : World}
    (hr : (Builtin.append_ #[t, t] o.type #[v, u]).run P w = .ok v' w') (h : wpList P ops Q rest (a.put o.dst v') w') : wpList P ops Q (o :: rest) a w :=
  wpList_plain hgd fun _ hK => by
    unfold Oper.wp execOp
    simp only [ho, resolve, invoke, builtin, Sem.run_bind, Sem.run_pure, Result.andThen_ok, List.map_toArray, List.map_cons, List.map_nil, hd, hx, hr]
    exact hK _ _ h
theorem Ob.sg {base : Nat} {w : World} {v : Value} {n : Nat} {f : Nat → Nat} (h : Ob base w v n f) (hn : 0 < n) : ∃ g cap, v = .slice (some ⟨g, 0, none⟩) n cap ∧ base ≤ g ∧ Sg w g 0 n cap f := by
  have h0 : w.ownsRow base 5 1 v n (us n f) := h
  rcases h.2 with ⟨_, h1⟩ | ⟨g', cap', cur, rfl, hg', hgg, hnc, hcm, hcs, htk⟩
  · omega
  · refine ⟨g', cap', rfl, hg', ⟨⟨fun i hi => ?_, fun i hi => ?_, ?_⟩, hnc, fun j h1 h2 => ?_⟩⟩
    · rw [Nat.zero_add, h0.cellAt i (by omega)]
      simp [us_def, hi]
    · rw [Nat.zero_add]; exact h0.frozenAt i
    · exact (Array.getElem?_eq_some_iff.1 hgg).1
    · rw [Nat.zero_add]
      exact ⟨isSome_of_row hgg j (by omega), h0.frozenAt j⟩
/-- a slice of bytes of the call's own, or none -/
def Sv (base : Nat) (w : World) (v : Value) (n : Nat) (f : Nat → Nat) : Prop := (n = 0 ∧ v = .slice none 0 0) ∨ ∃ g o cap, v = .slice (some ⟨g, o, none⟩) n cap ∧ base ≤ g ∧ Sg w g o n cap f
theorem Sv.kept {base : Nat} {w w' : World} {v : Value} {n : Nat} {f : Nat → Nat} (h : Sv base w v n f) (hb : Below w.heap.size w w') : Sv base w' v n f := by
  rcases h with h | ⟨g, o, cap, e, hg, hs⟩
  · exact Or.inl h
  · exact Or.inr ⟨g, o, cap, e, hg, hs.below hb hs.ar.lt⟩
theorem Sv.drew {base : Nat} {w : World} {v : Value} {n : Nat} {f : Nat → Nat} (h : Sv base w v n f) : Sv base w.drew v n f := by
  rcases h with h | ⟨g, o, cap, e, hg, hs⟩
  · exact Or.inl h
  · exact Or.inr ⟨g, o, cap, e, hg, hs.drew⟩
/-- m bytes put behind it -/
theorem Sv.pushs {base : Nat} {w : World} {v : Value} {n : Nat} {f : Nat → Nat} (h : Sv base w v n f) (hbase : base ≤ w.heap.size) (ad : Addr) (m c : Nat) (hm : 0 < m) (hx : ∀ j u, (us m (fun i => f (n + i)))[j]? = some u → w.cell? (ad.add j) = some u) (hn : n + m ≤ 1048576) (ty : TypeId) :
    ∃ v' w', (Builtin.append_ #[36, 36] ty #[v, .slice (some ad) m c]).run Tryd.prog w = .ok v' w' ∧ Sv base w' v' (n + m) f ∧ Below base w w' ∧ (∀ b, b < w.heap.size → v.ownBlock ≠ some b → w'.heap[b]? = w.heap[b]? ∧ v'.ownBlock ≠ some b) := by
  rcases h with ⟨rfl, rfl⟩ | ⟨g, o, cap, rfl, hg, hs⟩
  · obtain ⟨i0, hi, hz0, hz1, hz2⟩ := info_u8j
    have hown : Ob base w (.slice none 0 0) 0 f := Ob.nil base w f
    obtain ⟨g, cap, w', hrun, h2, h3, h4, _⟩ := run_append_lies (P := Tryd.prog) w 36 ty base 5 i0 (.int .u8 0) 1 1 Tryd.underlying36 hi hz0 hz1 hz2 rfl (by decide) _ 0 (us 0 f) hown ad m c (us m (fun i => f (0 + i))) (by rw [us_length, Nat.mul_one]) hx (us_oneL _ _) hm (by unfold maxLen; omega) (by omega) hbase w.heap.size rfl
    rw [us_append] at h2
    obtain ⟨g', cap', he, hg, hs⟩ := Ob.sg (f := f) h2 (by omega)
    obtain ⟨rfl, rfl⟩ : g = g' ∧ cap = cap' := by simpa using he
    have h5 : g = w.heap.size := by
      rcases h4 with h4 | h4
      · simp [Value.ownBlock] at h4
      · exact h4
    exact ⟨_, w', hrun, Or.inr ⟨g, 0, cap, rfl, hg, hs⟩, Ob.below hown h3 hbase, fun b hb _ => ⟨h3.block b hb (by simp [Value.ownBlock]), fun e => by simp [Value.ownBlock] at e; omega⟩⟩
  · obtain ⟨g', o', cap', w', hrun, hor, hs', hb', hot⟩ := hs.pushs hg hbase ad m c hx hn ty
    refine ⟨_, w', hrun, Or.inr ⟨g', o', cap', rfl, ?_, hs'⟩, hb', fun b hb hne => ?_⟩
    · rcases hor with rfl | e
      · exact hg
      · omega
    · have hne' : b ≠ g := fun e => hne (by rw [e]; rfl)
      refine ⟨hot.2 b hb hne', fun e => ?_⟩
      have e2 : g' = b := by simpa [Value.ownBlock] using e
      rcases hor with e3 | e3
      · omega
      · omega
set_option maxRecDepth 100000 in
set_option maxHeartbeats 1000000 in
/-- appendWords: what is behind n bytes is f's, if f tells the words' bytes there -/
theorem appendWords_sv (v : Value) (n base gi m ci : Nat) (f V : Nat → Nat) (w : World) (h : Sv base w v n f) (hbase : base ≤ w.heap.size) (hgi : v.ownBlock ≠ some gi) (hi : Ai w gi 0 m V) (hV : ∀ i, i < m → V i < 4294967296) (hn : n + 4 * m ≤ 100000)
    (hf : ∀ i, i < m → ∀ j, j < 4 → f (n + 4 * i + j) = byW (V i) (3 - j)) :
    Calls Tryd.prog 91 #[v, .slice (some ⟨gi, 0, none⟩) m ci] w fun e w' => ∃ v', e = .returned v' ∧ Sv base w' v' (n + 4 * m) f ∧ Below base w w' := by
  have HS := hide h
  have HI := hide hi
  have HF := hide hf
  have HV := hide hV
  clear h hi hf hV
  go_enter Tryd.func91, Tryd.ntmps91
  go_wp2_with fail
  go_loopw [0, 9] (fun sv iv wr => ∃ i : Nat, i ≤ m ∧ iv = .int .i64 i ∧ Sv base wr sv (n + 4 * i) f ∧ Ai wr gi 0 m V ∧ sv.ownBlock ≠ some gi ∧ Below base w wr) (fun _ iv _ => m - (intOf iv).toNat)
  case atStart => exact ⟨0, by omega, rfl, unhide HS, unhide HI, hgi, Below.refl _ _⟩
  case round =>
    obtain ⟨i, him, rfl, hs, hai, hne, hb⟩ := hrel
    by_cases hlt : i < m
    · have hc := hai.c0 i hlt
      have hv := unhide HV i hlt
      have g0 := unhide HF i hlt 0 (by omega)
      have g1 := unhide HF i hlt 1 (by omega)
      have g2 := unhide HF i hlt 2 (by omega)
      have g3 := unhide HF i hlt 3 (by omega)
      generalize V i = x at *
      have hwz := hb.size
      have hal := (Below.refl wr.heap.size wr).alloc (Nat.le_refl _) (.cells #[.int .u8 ((x / 16777216 : Nat) : Int), .int .u8 ((x / 65536 % 256 : Nat) : Int), .int .u8 ((x / 256 % 256 : Nat) : Int), .int .u8 ((x % 256 : Nat) : Int)] 5)
      have hnew : ∀ j u, (us 4 (fun k => f (n + 4 * i + k)))[j]? = some u → (wr.alloc (.cells #[.int .u8 ((x / 16777216 : Nat) : Int), .int .u8 ((x / 65536 % 256 : Nat) : Int), .int .u8 ((x / 256 % 256 : Nat) : Int), .int .u8 ((x % 256 : Nat) : Int)] 5)).cell? ((⟨wr.heap.size, 0, none⟩ : Addr).add j) = some u := by
        intro j u hu
        rw [Addr.add_mid, Nat.zero_add]
        have hj : j < 4 := by
          have := (List.getElem?_eq_some_iff.1 hu).1
          rwa [us_length] at this
        simp only [us_def, List.getElem?_map, List.getElem?_range hj, Option.map_some, Option.some.injEq] at hu
        subst hu
        have ej : j = 0 ∨ j = 1 ∨ j = 2 ∨ j = 3 := by omega
        rcases ej with rfl | rfl | rfl | rfl
        · rw [g0]; unfold byW; simp; omega
        · rw [g1]; unfold byW; simp
        · rw [g2]; unfold byW; simp
        · rw [g3]; unfold byW; simp
      obtain ⟨v', w', hrun, hs', hb', hot⟩ := (hs.kept hal).pushs (by rw [World.size_alloc]; omega) ⟨wr.heap.size, 0, none⟩ 4 4 (by omega) hnew (by omega) 36
      have RUN := hide hrun
      have HS' := hide hs'
      have HB' := hide ((hb.trans (hal.mono (by omega))).trans hb')
      have hgl := hai.lt
      have e1 := (hot gi (by rw [World.size_alloc]; omega) hne)
      have hblk : w'.heap[gi]? = wr.heap[gi]? := e1.1.trans (hal.block gi hgl)
      have HA' : Hid (Ai w' gi 0 m V) := ⟨fun k hk => (World.cell?_of_block (a := ⟨gi, 0 + k, none⟩) hblk).trans (hai.c k hk), fun k hk => (World.frozen?_of_block (a := ⟨gi, 0 + k, none⟩) hblk).trans (hai.fz k hk), by have := (unhide HB').size; have := hb'.size; rw [World.size_alloc] at this; omega⟩
      have HN' := hide e1.2
      have ea : ((x / 16777216 : Nat) : Int) = (x : Int) / 16777216 := by omega
      have eb : ((x / 65536 % 256 : Nat) : Int) = (x : Int) / 65536 % 256 := by omega
      have ec : ((x / 256 % 256 : Nat) : Int) = (x : Int) / 256 % 256 := by omega
      have ed : ((x % 256 : Nat) : Int) = (x : Int) % 256 := by omega
      rw [ea, eb, ec, ed] at RUN
      clear hrun hs' hb' hot hs hai hne hb hal hnew g0 g1 g2 g3 e1 hblk ea eb ec ed
      go_wp2_with (at_builtin; refine wpList_append_run _ rfl _ _ 36 rfl _ _ rfl rfl (unhide RUN) ?_)
      go_wp2
      exact ⟨⟨i + 1, by omega, by go_num, by rw [show n + 4 * (i + 1) = n + 4 * i + 4 by omega]; exact unhide HS', unhide HA', unhide HN', unhide HB'⟩, by simp [intOf]; omega⟩
    · obtain rfl : i = m := by omega
      have q1 := hide hs
      have q2 := hide hb
      clear hs hai hne hb
      go_wp2
      go_ret
      exact ⟨_, rfl, unhide q1, unhide q2⟩
end Go.Proofs.YtpjmnnaiegdjmaaDoor
