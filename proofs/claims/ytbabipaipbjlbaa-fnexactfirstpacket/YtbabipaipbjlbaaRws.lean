/-
  Rows of allocs and of entries of the call's own.
-/
import Derived.Test.YtbabipaipbjlbaaTcp
import Derived.Test.YtbabipaipbjlbaaTmmX
import Derived.Deep.Slices
namespace Go.Proofs.Ytbabipaipbjlbaa
open Go.ChangeShapes Go.WideShapes Go.ChangeAt Go.RowKit Go.Deep
set_option linter.unusedVariables false
set_option maxRecDepth 100000

/-- an entry and where its servers lie -/
structure EnR where
  D : EnD
  ra : Option Addr
  cap : Nat
def rD : EnR := ⟨eD, none, 0⟩
def rA (R : List EnR) (k : Nat) : EnR := R.getD k rD
def alV (D : AlD) : List Value := [.string D.i, .string D.b]
def enV (r : EnR) : List Value := [.int .i64 r.D.sl, .int .i64 r.D.sv, .int .i64 r.D.nc, .string r.D.k, .bool r.D.t, .slice r.ra r.D.S.length r.cap, .int .i64 r.D.nx]
def alC (L : List AlD) : List Value := L.flatMap alV
def enC (R : List EnR) : List Value := R.flatMap enV
theorem flat_len {α : Type} (f : α → List Value) (n : Nat) (hf : ∀ x, (f x).length = n) : ∀ L : List α, (L.flatMap f).length = L.length * n
  | [] => by simp
  | x :: L => by rw [List.flatMap_cons, List.length_append, hf, flat_len f n hf L, List.length_cons, Nat.add_mul]; omega
theorem flat_at {α : Type} (f : α → List Value) (n : Nat) (hf : ∀ x, (f x).length = n) (d : α) : ∀ (L : List α) (k j : Nat), k < L.length → j < n → (L.flatMap f)[k * n + j]? = (f (L.getD k d))[j]?
  | [], k, j, h, _ => absurd h (Nat.not_lt_zero _)
  | x :: L, 0, j, _, hj => by
    rw [List.flatMap_cons, Nat.zero_mul, Nat.zero_add, List.getElem?_append_left (by rw [hf]; exact hj)]
    rfl
  | x :: L, k + 1, j, h, hj => by
    rw [List.flatMap_cons, List.getElem?_append_right (by rw [hf, Nat.add_mul]; omega), hf, show (k + 1) * n + j - n = k * n + j by rw [Nat.add_mul]; omega, flat_at f n hf d L k j (by simpa using h) hj]
    rfl
theorem flat_get {α : Type} (f : α → List Value) (n : Nat) (hn : 0 < n) (hf : ∀ x, (f x).length = n) (d : α) (L : List α) (q : Nat) (u : Value) (h : (L.flatMap f)[q]? = some u) : ∃ k j, k < L.length ∧ j < n ∧ q = k * n + j ∧ (f (L.getD k d))[j]? = some u := by
  have hq : q < L.length * n := by
    have := (List.getElem?_eq_some_iff.1 h).1
    rw [flat_len f n hf] at this
    exact this
  have hk : q / n < L.length := Nat.div_lt_of_lt_mul (by rw [Nat.mul_comm]; exact hq)
  have hj : q % n < n := Nat.mod_lt _ hn
  have e : q = q / n * n + q % n := by rw [Nat.mul_comm]; exact (Nat.div_add_mod q n).symm
  refine ⟨q / n, q % n, hk, hj, e, ?_⟩
  rw [← flat_at f n hf d L _ _ hk hj, ← e]
  exact h
theorem alC_len (L : List AlD) : (alC L).length = L.length * 2 := flat_len alV 2 (fun _ => rfl) L
theorem enC_len (R : List EnR) : (enC R).length = R.length * 7 := flat_len enV 7 (fun _ => rfl) R
theorem alC_app (L M : List AlD) : alC (L ++ M) = alC L ++ alC M := List.flatMap_append
theorem enC_app (R Q : List EnR) : enC (R ++ Q) = enC R ++ enC Q := List.flatMap_append
theorem alC_one (L : List AlD) : ∀ u ∈ alC L, u.oneCell' = true := by
  intro u hu
  obtain ⟨D, _, h⟩ := List.mem_flatMap.1 hu
  simp [alV] at h
  rcases h with rfl | rfl <;> rfl
theorem enC_one (R : List EnR) : ∀ u ∈ enC R, u.oneCell' = true := by
  intro u hu
  obtain ⟨D, _, h⟩ := List.mem_flatMap.1 hu
  simp [enV] at h
  rcases h with rfl | rfl | rfl | rfl | rfl | rfl | rfl <;> rfl
theorem add_none (b o j : Nat) : (⟨b, o, none⟩ : Addr).add j = ⟨b, o + j, none⟩ := by unfold Addr.add; split <;> simp_all
/-- a slice of allocs as a source -/
theorem Aa.sc {w : World} {a : Option Addr} {L : List AlD} (h : Aa w a L) : Sc w a L.length (alC L) := by
  rcases h with rfl | ⟨b, o, rfl, h⟩
  · exact Or.inl ⟨rfl, rfl⟩
  · refine Or.inr ⟨_, rfl, fun q u hu => ?_⟩
    obtain ⟨k, j, hk, hj, rfl, e⟩ := flat_get alV 2 (by omega) (fun _ => rfl) aD L q u hu
    rw [add_none]
    match j, hj, e with
    | 0, _, e => rw [Nat.add_zero, h.ci k hk]; exact e
    | 1, _, e => rw [← Nat.add_assoc, h.cb k hk]; exact e
/-- allocs of the call's own -/
def Oa (base : Nat) (w : World) (v : Value) (L : List AlD) : Prop := w.ownsRow base 129 2 v L.length (alC L)
theorem Oa.nil (base : Nat) (w : World) : Oa base w (.slice none 0 0) [] := World.ownsRow_nil _ _ _ _
theorem Oa.form {base : Nat} {w : World} {v : Value} {L : List AlD} (h : Oa base w v L) : ∃ a cap, v = .slice a L.length cap ∧ L.length ≤ cap ∧ (L = [] ∨ ∃ g, a = some ⟨g, 0, none⟩ ∧ Ao base w g L) := by
  rcases h.2 with ⟨rfl, e⟩ | ⟨g, cap, cur, rfl, hb, hg, hnc, _⟩
  · exact ⟨none, 0, by rw [e], by omega, Or.inl (List.length_eq_zero_iff.1 e)⟩
  · refine ⟨_, _, rfl, hnc, Or.inr ⟨g, rfl, hb, ⟨(Array.getElem?_eq_some_iff.1 hg).1, fun k hk => ?_, fun k hk => ?_⟩, fun o => World.ownsRow.frozenAt h o⟩⟩
    · rw [Nat.zero_add]
      exact (World.ownsRow.cellAt h (k * 2 + 0) (by omega)).trans (flat_at alV 2 (fun _ => rfl) aD L k 0 hk (by omega))
    · rw [Nat.zero_add]
      exact (World.ownsRow.cellAt h (k * 2 + 1) (by omega)).trans (flat_at alV 2 (fun _ => rfl) aD L k 1 hk (by omega))
theorem Oa.aa {base : Nat} {w : World} {a : Option Addr} {n cap : Nat} {L : List AlD} (h : Oa base w (.slice a n cap) L) : n = L.length ∧ L.length ≤ cap ∧ Aa w a L := by
  obtain ⟨a', c', e, h1, h2⟩ := h.form
  injection e with e1 e2 e3
  subst e1 e2 e3
  refine ⟨rfl, h1, ?_⟩
  rcases h2 with h2 | ⟨g, rfl, h2⟩
  · exact Or.inl h2
  · exact Or.inr ⟨g, 0, rfl, h2.al⟩
/-- entries that lie in a row, to be read -/
def Er (w : World) (a : Option Addr) (R : List EnR) : Prop := R = [] ∨ ∃ b o, a = some ⟨b, o, none⟩ ∧ ∀ i, i < R.length → Ce w b (o + i * 7) (rA R i).D (.slice (rA R i).ra (rA R i).D.S.length (rA R i).cap)
theorem Er.below {w w' : World} {a : Option Addr} {R : List EnR} (h : Er w a R) (hb : Below w.heap.size w w') : Er w' a R :=
  h.imp id fun ⟨b, o, e, h⟩ => ⟨b, o, e, fun i hi => (h i hi).below hb⟩
theorem Er.sc {w : World} {a : Option Addr} {R : List EnR} (h : Er w a R) : Sc w a R.length (enC R) := by
  rcases h with rfl | ⟨b, o, rfl, h⟩
  · exact Or.inl ⟨rfl, rfl⟩
  · refine Or.inr ⟨_, rfl, fun q u hu => ?_⟩
    obtain ⟨k, j, hk, hj, rfl, e⟩ := flat_get enV 7 (by omega) (fun _ => rfl) rD R q u hu
    rw [add_none]
    have hc := h k hk
    match j, hj, e with
    | 0, _, e => rw [Nat.add_zero, hc.c0]; exact e
    | 1, _, e => rw [← Nat.add_assoc, hc.c1]; exact e
    | 2, _, e => rw [← Nat.add_assoc, hc.c2]; exact e
    | 3, _, e => rw [← Nat.add_assoc, hc.c3]; exact e
    | 4, _, e => rw [← Nat.add_assoc, hc.c4]; exact e
    | 5, _, e => rw [← Nat.add_assoc, hc.c5]; exact e
    | 6, _, e => rw [← Nat.add_assoc, hc.c6]; exact e
/-- entries of the call's own, in one row -/
def Oe (base : Nat) (w : World) (v : Value) (R : List EnR) : Prop := w.ownsRow base 126 7 v R.length (enC R)
theorem Oe.nil (base : Nat) (w : World) : Oe base w (.slice none 0 0) [] := World.ownsRow_nil _ _ _ _
theorem Oe.form {base : Nat} {w : World} {v : Value} {R : List EnR} (h : Oe base w v R) : ∃ a cap, v = .slice a R.length cap ∧ R.length ≤ cap ∧ (R = [] ∨ ∃ g, a = some ⟨g, 0, none⟩ ∧ base ≤ g ∧ g < w.heap.size ∧ (∀ o, w.frozen? ⟨g, o, none⟩ = false) ∧ ∀ i, i < R.length → Ce w g (i * 7) (rA R i).D (.slice (rA R i).ra (rA R i).D.S.length (rA R i).cap)) := by
  rcases h.2 with ⟨rfl, e⟩ | ⟨g, cap, cur, rfl, hb, hg, hnc, _⟩
  · exact ⟨none, 0, by rw [e], by omega, Or.inl (List.length_eq_zero_iff.1 e)⟩
  · refine ⟨_, _, rfl, hnc, Or.inr ⟨g, rfl, hb, (Array.getElem?_eq_some_iff.1 hg).1, fun o => World.ownsRow.frozenAt h o, fun k hk => ?_⟩⟩
    have e : ∀ j, j < 7 → w.cell? ⟨g, k * 7 + j, none⟩ = (enV (rA R k))[j]? := fun j hj => (World.ownsRow.cellAt h (k * 7 + j) (by omega)).trans (flat_at enV 7 (fun _ => rfl) rD R k j hk hj)
    exact ⟨e 0 (by omega), e 1 (by omega), e 2 (by omega), e 3 (by omega), e 4 (by omega), e 5 (by omega), e 6 (by omega)⟩
theorem Oe.er {base : Nat} {w : World} {a : Option Addr} {n cap : Nat} {R : List EnR} (h : Oe base w (.slice a n cap) R) : n = R.length ∧ R.length ≤ cap ∧ Er w a R := by
  obtain ⟨a', c', e, h1, h2⟩ := h.form
  injection e with e1 e2 e3
  subst e1 e2 e3
  refine ⟨rfl, h1, ?_⟩
  rcases h2 with h2 | ⟨g, rfl, _, _, _, h2⟩
  · exact Or.inl h2
  · exact Or.inr ⟨g, 0, rfl, fun i hi => by rw [Nat.zero_add]; exact h2 i hi⟩
theorem Oa.below {base : Nat} {w w' : World} {v : Value} {L : List AlD} (h : Oa base w v L) (hb : Below w.heap.size w w') : Oa base w' v L := by
  refine ⟨h.1, ?_⟩
  rcases h.2 with hn | ⟨g, cap, cur, rfl, hg, hgg, rest⟩
  · exact .inl hn
  · exact .inr ⟨g, cap, cur, rfl, hg, (hb.block g (Array.getElem?_eq_some_iff.1 hgg).1).trans hgg, rest⟩
theorem Oe.below {base : Nat} {w w' : World} {v : Value} {R : List EnR} (h : Oe base w v R) (hb : Below w.heap.size w w') : Oe base w' v R := by
  refine ⟨h.1, ?_⟩
  rcases h.2 with hn | ⟨g, cap, cur, rfl, hg, hgg, rest⟩
  · exact .inl hn
  · exact .inr ⟨g, cap, cur, rfl, hg, (hb.block g (Array.getElem?_eq_some_iff.1 hgg).1).trans hgg, rest⟩
/-- a slice of entries that is read, with its rows -/
theorem Ea.rows {w : World} {a : Option Addr} {L : List EnD} (h : Ea w a L) : ∃ R : List EnR, R.map (·.D) = L ∧ Er w a R ∧ ∀ r ∈ R, r.D.S.length ≤ r.cap ∧ Aa w r.ra r.D.S := by
  rcases h with rfl | ⟨b, o, rfl, h⟩
  · exact ⟨[], rfl, Or.inl rfl, fun r hr => by cases hr⟩
  · have each : ∀ i, i < L.length → ∃ r : EnR, r.D = eA L i ∧ Ce w b (o + i * 7) r.D (.slice r.ra r.D.S.length r.cap) ∧ r.D.S.length ≤ r.cap ∧ Aa w r.ra r.D.S := fun i hi => by
      obtain ⟨ra, cap, h1, h2, h3⟩ := h i hi
      exact ⟨⟨eA L i, ra, cap⟩, rfl, h1, h2, h3⟩
    obtain ⟨G, hG⟩ := @choose_lt EnR ⟨rD⟩ _ _ each
    refine ⟨(List.range L.length).map G, ?_, Or.inr ⟨b, o, rfl, fun i hi => ?_⟩, fun r hr => ?_⟩
    · apply List.ext_getElem?
      intro i
      by_cases hi : i < L.length
      · rw [List.map_map, List.getElem?_map, List.getElem?_range hi, Option.map_some, Function.comp, (hG i hi).1, List.getElem?_eq_getElem hi]
        simp [eA, List.getD, List.getElem?_eq_getElem hi]
      · rw [List.getElem?_eq_none (by simp; omega), List.getElem?_eq_none (by omega)]
    · have hi' : i < L.length := by simpa using hi
      have e : rA ((List.range L.length).map G) i = G i := by simp [rA, List.getD, hi']
      rw [e]
      exact (hG i hi').2.1
    · obtain ⟨i, hi, rfl⟩ := List.mem_map.1 hr
      exact (hG i (by simpa using hi)).2.2
/-- .. and back -/
theorem Er.ea {w : World} {a : Option Addr} {R : List EnR} (h : Er w a R) (hr : ∀ r ∈ R, r.D.S.length ≤ r.cap ∧ Aa w r.ra r.D.S) : Ea w a (R.map (·.D)) := by
  rcases h with rfl | ⟨b, o, rfl, h⟩
  · exact Or.inl rfl
  · refine Or.inr ⟨b, o, rfl, fun i hi => ?_⟩
    have hi' : i < R.length := by simpa using hi
    have e : eA (R.map (·.D)) i = (rA R i).D := by simp [eA, rA, List.getD, List.getElem?_map, List.getElem?_eq_getElem hi']
    have hm : rA R i ∈ R := by simp [rA, List.getD, List.getElem?_eq_getElem hi']
    rw [e]
    exact ⟨_, _, h i hi', hr _ hm⟩
/-! ### appended -/
theorem appA (w : World) (ty : TypeId) (base : Nat) (v : Value) (L : List AlD) (hown : Oa base w v L) (sa : Option Addr) (c : Nat) (M : List AlD) (hs : Sc w sa M.length (alC M)) (hb : L.length + M.length ≤ 1048576) (hbase : base ≤ w.heap.size) :
    ∃ v' w', (Builtin.append_ #[124, 124] ty #[v, .slice sa M.length c]).run Try.prog w = .ok v' w' ∧ Oa base w' v' (L ++ M) ∧ w.grownBy w' v.ownBlock ∧ (v'.ownBlock = v.ownBlock ∨ v'.ownBlock = some w.heap.size) := by
  obtain ⟨i0, hi, hz0, hz1, hz2⟩ := info_parts Try.infoAl
  obtain ⟨v', w', h1, h2, h3, h4⟩ := app_any w 124 ty base 129 i0 _ 2 32 Try.underlying124 hi hz0 hz1 hz2 rfl (by decide) v L.length (alC L) hown sa M.length c (alC M) (alC_len M) hs (alC_one M) (by unfold maxLen; omega) (by omega) hbase
  refine ⟨v', w', h1, ?_, h3, h4⟩
  unfold Oa
  rw [List.length_append, alC_app]
  exact h2
theorem appE (w : World) (ty : TypeId) (base : Nat) (v : Value) (R : List EnR) (hown : Oe base w v R) (sa : Option Addr) (c : Nat) (Q : List EnR) (hs : Sc w sa Q.length (enC Q)) (hb : R.length + Q.length ≤ 1048576) (hbase : base ≤ w.heap.size) :
    ∃ v' w', (Builtin.append_ #[31, 31] ty #[v, .slice sa Q.length c]).run Try.prog w = .ok v' w' ∧ Oe base w' v' (R ++ Q) ∧ w.grownBy w' v.ownBlock ∧ (v'.ownBlock = v.ownBlock ∨ v'.ownBlock = some w.heap.size) := by
  obtain ⟨i0, hi, hz0, hz1, hz2⟩ := info_parts Try.infoEn
  obtain ⟨v', w', h1, h2, h3, h4⟩ := app_any w 31 ty base 126 i0 _ 7 80 Try.underlying31 hi hz0 hz1 hz2 rfl (by decide) v R.length (enC R) hown sa Q.length c (enC Q) (enC_len Q) hs (enC_one Q) (by unfold maxLen; omega) (by omega) hbase
  refine ⟨v', w', h1, ?_, h3, h4⟩
  unfold Oe
  rw [List.length_append, enC_app]
  exact h2
end Go.Proofs.Ytbabipaipbjlbaa
