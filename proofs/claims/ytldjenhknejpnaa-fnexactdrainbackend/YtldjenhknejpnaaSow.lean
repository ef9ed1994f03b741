/-
  Contracts: the model's own copy of a table, and where a slot's entry stands.
-/
import Derived.Test.YtldjenhknejpnaaRmc
import Derived.Test.YtldjenhknejpnaaTgs
namespace Go.Proofs.Ytldjenhknejpnaa
open Go.ChangeShapes Go.WideShapes Go.ChangeAt Go.RowKit Go.Deep
set_option linter.unusedVariables false
set_option maxRecDepth 100000

/-- an entry's servers lie in a row, beside the row of v -/
def Pr (w : World) (v : Value) (r : EnR) : Prop := r.D.S.length ≤ r.cap ∧ (r.D.S = [] ∨ ∃ g, r.ra = some ⟨g, 0, none⟩ ∧ Al w g 0 r.D.S ∧ some g ≠ v.ownBlock)
theorem Pr.aa {w : World} {v : Value} {r : EnR} (h : Pr w v r) : r.D.S.length ≤ r.cap ∧ Aa w r.ra r.D.S :=
  ⟨h.1, h.2.imp id fun ⟨g, e, a, _⟩ => ⟨g, 0, e, a⟩⟩
theorem Pr.below {w w' : World} {v : Value} {r : EnR} (h : Pr w v r) (hb : Below w.heap.size w w') : Pr w' v r :=
  ⟨h.1, h.2.imp id fun ⟨g, e, a, n⟩ => ⟨g, e, a.below hb, n⟩⟩
theorem Pr.grown {w w' : World} {v v' : Value} {r : EnR} (h : Pr w v r) (hg : w.grownBy w' v.ownBlock) (hv : v'.ownBlock = v.ownBlock ∨ v'.ownBlock = some w.heap.size) : Pr w' v' r := by
  refine ⟨h.1, h.2.imp id fun ⟨g, e, a, n⟩ => ⟨g, e, a.move hg.size (fun j => World.cell?_of_block (a := ⟨g, j, none⟩) (hg.block g a.lt n)), ?_⟩⟩
  rcases hv with q | q
  · rw [q]; exact n
  · rw [q]; intro c; injection c with c; have := a.lt; omega
theorem oa_lit0 (w : World) (base : Nat) (hb : base ≤ w.heap.size) : Oa base (w.alloc (.cells #[] 76)) (.slice (some ⟨w.heap.size, 0, none⟩) 0 0) [] :=
  World.ownsRow_lit (base := base) (e := 76) (size := 2) w #[] 0 hb (by unfold maxLen; omega) rfl
theorem oe_lit0 (w : World) (base : Nat) (hb : base ≤ w.heap.size) : Oe base (w.alloc (.cells #[] 73)) (.slice (some ⟨w.heap.size, 0, none⟩) 0 0) [] :=
  World.ownsRow_lit (base := base) (e := 73) (size := 7) w #[] 0 hb (by unfold maxLen; omega) rfl
set_option maxHeartbeats 8000000 in
theorem ownTb (a : Option Addr) (cap : Nat) (L : List EnD) (w : World) (hN : L.length ≤ 1000000) (hS : ∀ i, i < L.length → (eA L i).S.length ≤ 1000000) (h : Ea w a L) :
    Calls Try.prog 33 #[.agg #[.slice a L.length cap]] w fun e w' => ∃ v R, e = .returned (.agg #[v]) ∧ Oe (w.heap.size + 1 + 1) w' v R ∧ R.map (·.D) = L ∧ (∀ r ∈ R, Pr w' v r) ∧ Below w.heap.size w w' := by
  have HR := hide h
  have HS := hide hS
  clear h hS
  have BX0 : Hid (Bx ((w.alloc (.cells #[.slice a L.length cap] 32)).alloc (.cells #[.slice none 0 0] 32)) (w.heap.size + 1) [.slice none 0 0]) := Bx.newAt (w.alloc _) _ _ _ (by simp)
  have HB0 := hide (((Below.refl w.heap.size w).alloc (Nat.le_refl _) (.cells #[.slice a L.length cap] 32)).alloc (by simp) (.cells #[.slice none 0 0] 32))
  go_enter Try.func33, Try.ntmps33
  go_wp2
  go_loopw [3, 9] (fun v i wr => ∃ (k : Nat) (R : List EnR), k ≤ L.length ∧ i = .int .i64 k ∧ Oe (w.heap.size + 1 + 1) wr v R ∧ R.map (·.D) = L.take k ∧ (∀ r ∈ R, Pr wr v r) ∧ Bx wr (w.heap.size + 1) [.slice none 0 0] ∧ Below w.heap.size w wr) (fun _ i _ => L.length - (intOf i).toNat)
  case atStart => exact ⟨0, [], Nat.zero_le _, rfl, Oe.nil _ _, rfl, fun r hr => (by cases hr), unhide BX0, unhide HB0⟩
  case round =>
    obtain ⟨k, R, hk, rfl, hO, hR, hP, hX, hbel⟩ := hrel
    clear BX0 HB0
    by_cases hlt : k < L.length
    · rcases (unhide HR).below hbel with h0 | ⟨bb, o, rfl, hel⟩
      · rw [h0] at hlt; exact absurd hlt (Nat.not_lt_zero _)
      obtain ⟨ra, cp, hc, hcp, hra⟩ := hel k hlt
      have hnk : (k : Int) < (L.length : Int) := by omega
      have hSk := unhide HS k hlt
      have TK := hide (take_map L k hlt)
      have hRl : R.length = k := by have := congrArg List.length hR; simp at this; omega
      obtain ⟨c0, c1, c2, c3, c4, c5, c6⟩ := hc
      clear hel
      generalize eA L k = D at *
      have hxs := hX.lt
      -- the entry, the empty row, the copy of the servers
      have A1 : Below wr.heap.size wr (wr.alloc (.cells #[.int .i64 D.sl, .int .i64 D.sv, .int .i64 D.nc, .string D.k, .bool D.t, .slice ra D.S.length cp, .int .i64 D.nx] 73)) := (Below.refl _ _).alloc (Nat.le_refl _) _
      have E1 := Bx.new wr [.int .i64 D.sl, .int .i64 D.sv, .int .i64 D.nc, .string D.k, .bool D.t, .slice ra D.S.length cp, .int .i64 D.nx] 73
      have z1 : (wr.alloc (.cells #[.int .i64 D.sl, .int .i64 D.sv, .int .i64 D.nc, .string D.k, .bool D.t, .slice ra D.S.length cp, .int .i64 D.nx] 73)).heap.size = wr.heap.size + 1 := by simp
      obtain ⟨W1, hW1⟩ : ∃ W1, W1 = wr.alloc (.cells #[.int .i64 D.sl, .int .i64 D.sv, .int .i64 D.nc, .string D.k, .bool D.t, .slice ra D.S.length cp, .int .i64 D.nx] 73) := ⟨_, rfl⟩
      have A1' : Below wr.heap.size wr W1 := by rw [hW1]; exact A1
      have E1' : Bx W1 wr.heap.size [.int .i64 D.sl, .int .i64 D.sv, .int .i64 D.nc, .string D.k, .bool D.t, .slice ra D.S.length cp, .int .i64 D.nx] := by rw [hW1]; exact E1
      have z1' : W1.heap.size = wr.heap.size + 1 := by rw [hW1]; exact z1
      have A2 : Below W1.heap.size W1 (W1.alloc (.cells #[] 76)) := (Below.refl _ _).alloc (Nat.le_refl _) _
      obtain ⟨v5, w5, hrun5, hO5, hg5, hv5⟩ := appA (W1.alloc (.cells #[] 76)) 71 W1.heap.size (.slice (some ⟨W1.heap.size, 0, none⟩) 0 0) [] (oa_lit0 W1 W1.heap.size (Nat.le_refl _)) ra cp D.S ((hra.below A1').below A2).sc (by show 0 + _ ≤ _; omega) (by simp)
      have A5 : Below W1.heap.size W1 w5 := A2.trans (grown_below hg5 (by simp) (fun q e => by simp [Value.ownBlock] at e; omega))
      obtain ⟨a5, c5', e5, hc5, hr5⟩ := hO5.form
      rw [List.nil_append] at e5 hc5 hr5
      have E5 := E1'.below A5
      obtain ⟨w6, hw6⟩ : ∃ w6, w6 = w5.setCell ⟨wr.heap.size, 5, none⟩ v5 := ⟨_, rfl⟩
      have E6 : Bx w6 wr.heap.size [.int .i64 D.sl, .int .i64 D.sv, .int .i64 D.nc, .string D.k, .bool D.t, v5, .int .i64 D.nx] := by rw [hw6]; exact E5.set (i := 5) (by simp)
      have A6 : Below wr.heap.size wr w6 := by rw [hw6]; exact (A1'.trans (A5.mono (by omega))).setCell (Nat.le_refl _) _
      have R6 : D.S = [] ∨ ∃ g, a5 = some ⟨g, 0, none⟩ ∧ Al w6 g 0 D.S ∧ wr.heap.size < g := by
        rcases hr5 with q | ⟨g, q1, q2⟩
        · exact Or.inl q
        · refine Or.inr ⟨g, q1, q2.al.move (by rw [hw6]; simp) (fun j => ?_), by have := q2.ge; omega⟩
          rw [hw6]
          exact set_blk (by have := q2.ge; omega)
      have hs6 : wr.heap.size < w6.heap.size := E6.lt
      -- the entry put behind the others
      have O6 := hO.below A6
      have P6 : ∀ r ∈ R, Pr w6 u3 r := fun r hr => (hP r hr).below A6
      have A7 : Below w6.heap.size w6 (w6.alloc (.cells #[.int .i64 D.sl, .int .i64 D.sv, .int .i64 D.nc, .string D.k, .bool D.t, .slice a5 D.S.length c5', .int .i64 D.nx] 73)) := (Below.refl _ _).alloc (Nat.le_refl _) _
      obtain ⟨v8, w8, hrun8, hO8, hg8, hv8⟩ := appE (w6.alloc (.cells #[.int .i64 D.sl, .int .i64 D.sv, .int .i64 D.nc, .string D.k, .bool D.t, .slice a5 D.S.length c5', .int .i64 D.nx] 73)) 30 (w.heap.size + 1 + 1) u3 R (O6.below A7) (some ⟨w6.heap.size, 0, none⟩) 1 [EnR.mk D a5 c5'] (sc_en w6 (EnR.mk D a5 c5') _) (by rw [hRl]; show k + 1 ≤ _; omega) (by have := A7.size; omega)
      have hnb : ∀ q, u3.ownBlock = some q → q < wr.heap.size := fun q e => (World.ownsRow.lt hO q e).2
      have FIN : Hid (Oe (w.heap.size + 1 + 1) w8 v8 (R ++ [EnR.mk D a5 c5']) ∧ (R ++ [EnR.mk D a5 c5']).map (·.D) = L.take (k + 1) ∧ (∀ r ∈ R ++ [EnR.mk D a5 c5'], Pr w8 v8 r) ∧ Bx w8 (w.heap.size + 1) [.slice none 0 0] ∧ Below w.heap.size w w8) := by
        have B8 : Below (w.heap.size + 1 + 1) wr w8 := ((A6.mono (by omega)).trans (A7.mono (by omega))).trans (grown_below hg8 (by have := A7.size; omega) (fun q e => (World.ownsRow.lt hO q e).1))
        refine ⟨hO8, by rw [List.map_append, hR]; exact unhide TK, fun r hr => ?_, hX.kept B8.size (B8.block _ (by omega)), hbel.trans (B8.mono (by omega))⟩
        rcases List.mem_append.1 hr with hr | hr
        · exact ((P6 r hr).below A7).grown hg8 hv8
        · simp at hr
          subst hr
          refine Pr.grown (v := u3) ⟨hc5, R6.imp id fun ⟨g, q1, q2, q3⟩ => ⟨g, q1, q2.below A7, fun e => ?_⟩⟩ hg8 hv8
          have := hnb g e.symm
          omega
      have z6 : w6.heap.size = w5.heap.size := by rw [hw6]; simp
      have hrun8' : (Builtin.append_ #[30, 30] 30 #[u3, .slice (some ⟨w6.heap.size, 0, none⟩) 1 1]).run Try.prog (w6.alloc (.cells #[.int .i64 D.sl, .int .i64 D.sv, .int .i64 D.nc, .string D.k, .bool D.t, .slice a5 D.S.length c5', .int .i64 D.nx] 73)) = .ok v8 w8 := hrun8
      rw [z6] at hrun8'
      rw [z1'] at hrun5
      have RUN5 := hide hrun5
      have RUN8 := hide hrun8'
      obtain ⟨a8, c8, e8, _⟩ := hO8.form
      generalize (R ++ [EnR.mk D a5 c5']).length = l8 at e8
      have e5c := E5.cv
      have e5f := E5.fz
      have e5l := E5.lt
      have e6c := E6.cv
      have z5 := A5.size
      clear hrun5 hrun8 hrun8' z6 hO8 hg8 hv8 A7 P6 O6 R6 A6 E6 E5 A5 hO5 hg5 hv5 A2 E1 E1' A1 A1' hra hO hP hX hbel hR hr5 hc5 hRl TK hnb z1
      subst hW1
      subst e5 e8
      subst hw6
      go_wp2_with (first | (at_builtin; refine wpl_app rfl _ _ 71 rfl _ _ _ _ rfl rfl (unhide RUN5) ?_) | (at_builtin; refine wpl_app rfl _ _ 30 rfl _ _ _ _ rfl rfl (unhide RUN8) ?_))
      exact ⟨⟨k + 1, _, by omega, by go_num, unhide FIN⟩, by simp [intOf]; omega⟩
    · obtain rfl : k = L.length := by omega
      rw [List.take_length] at hR
      have hx := hX.lt
      have O9 : Oe (w.heap.size + 1 + 1) (wr.setCell ⟨w.heap.size + 1, 0, none⟩ u3) u3 R := by
        refine ⟨hO.1, ?_⟩
        rcases hO.2 with q | ⟨g9, cap9, cur9, q1, q2, q3, q4⟩
        · exact Or.inl q
        · exact Or.inr ⟨g9, cap9, cur9, q1, q2, (Below.heap_setCell wr ⟨w.heap.size + 1, 0, none⟩ u3 g9 (by show g9 ≠ w.heap.size + 1; omega)).trans q3, q4⟩
      have P9 : ∀ r ∈ R, Pr (wr.setCell ⟨w.heap.size + 1, 0, none⟩ u3) u3 r := fun r hr => by
        refine ⟨(hP r hr).1, ?_⟩
        rcases (hP r hr).2 with q | ⟨g, q1, q2, q3⟩
        · exact Or.inl q
        · by_cases hS9 : r.D.S = []
          · exact Or.inl hS9
          refine Or.inr ⟨g, q1, q2.move (by simp) (fun j => set_blk ?_), q3⟩
          intro e9
          have h1 := q2.ci 0 (List.length_pos_iff.2 hS9)
          rw [← e9, hX.cv] at h1
          simp at h1
      have FIN := hide (And.intro O9 (And.intro hR (And.intro P9 (show Below w.heap.size w (wr.setCell ⟨w.heap.size + 1, 0, none⟩ u3) from hbel.setCell (by show w.heap.size ≤ w.heap.size + 1; omega) u3))))
      obtain ⟨a9, c9, e9, _⟩ := hO.form
      generalize R.length = l9 at e9
      have x1 := hX.cv
      have x2 := hX.fz
      clear hO hR hP hX hbel O9 P9
      subst e9
      go_wp2
      refine bodyPost_ret (v := .agg #[.slice a9 l9 c9]) (by simp [results, Try.results33, go_sem, x1]) rfl ⟨_, R, rfl, unhide FIN⟩
/-- where a slot's entry stands -/
def atP (L : List EnD) (s : Int) (j : Int) : Prop := (j = -1 ∧ ∀ i, i < L.length → (eA L i).sl ≠ s) ∨ ∃ i : Nat, i < L.length ∧ (eA L i).sl = s ∧ j = i
end Go.Proofs.Ytldjenhknejpnaa
