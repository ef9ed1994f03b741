/-
  Contract of the program: the desk hands out what can be read.
-/
import Derived.Test.YtmicpknilhiliaaTgp4
import Derived.Lib.AppendStr
namespace Go.Proofs.Ytmicpknilhiliaa.Rc
open Go.ChangeShapes Go.WideShapes Go.ChangeAt Go.RowKit Go.Deep Go.Conc
set_option linter.unusedVariables false
set_option maxRecDepth 100000

/-- a row of bytes of the call's own, with its room -/
def Bo (base : Nat) (w : World) (v : Value) (s : ByteArray) : Prop := w.ownsRow base 5 1 v s.size (Lib.strCells s)
theorem Bo.nil (base : Nat) (w : World) : Bo base w (.slice none 0 0) ⟨#[]⟩ := World.ownsRow_nil _ _ _ _
theorem Bo.kq {base : Nat} {w w' : World} {v : Value} {s : ByteArray} {P : Nat → Prop} (h : Bo base w v s) (k : Kq P w w') (hP : ∀ q, P q → q < base) : Bo base w' v s := by
  refine ⟨h.1, ?_⟩
  rcases h.2 with hn | ⟨g, cap, cur, rfl, hg, hgg, rest⟩
  · exact .inl hn
  · exact .inr ⟨g, cap, cur, rfl, hg, (k.block g (Array.getElem?_eq_some_iff.1 hgg).1 (fun p => by have := hP g p; omega)).trans hgg, rest⟩
theorem Bo.below {base : Nat} {w w' : World} {v : Value} {s : ByteArray} (h : Bo base w v s) (b : Below w.heap.size w w') : Bo base w' v s := h.kq (Kq.of (P := fun _ => False) b) (fun _ h => h.elim)
theorem Bo.opens {base : Nat} {w : World} {v : Value} {s : ByteArray} (h : Bo base w v s) : ∃ a n c, v = .slice a n c := by
  rcases h.2 with ⟨rfl, e0⟩ | ⟨g, cap, cur, rfl, _⟩
  · exact ⟨none, 0, 0, rfl⟩
  · exact ⟨_, _, _, rfl⟩
theorem good_ok {D : InflowD} (g : GoodI D) : okF D := by
  obtain ⟨h1, h2⟩ := good_small g
  have l0 := g.l0
  have l1 := g.l1
  have r0 := g.r0
  have r1 := g.r1
  have fi := g.fi
  refine ⟨⟨by omega, by omega⟩, ⟨by omega, by omega⟩, ⟨by omega, by omega⟩, fun p hp => ?_, by omega⟩
  have h3 := can_lo g.can p hp
  have h4 := (g.hi p hp).1
  unfold pE at h4
  refine ⟨⟨by omega, by omega⟩, by omega⟩
theorem Try.infoU8 : (Try.prog.info? 5).map (fun i => (i.zero, i.size, i.bytes)) = some (some (.int .u8 0), 1, 1) := by kernel_rfl
/-- a text behind a row of bytes -/
theorem Bo.app {base : Nat} {w : World} {v : Value} {s : ByteArray} (h : Bo base w v s) (u : ByteArray) (hz : s.size + u.size ≤ 1048576) (hb : base ≤ w.heap.size) :
    ∃ v' w', (Builtin.append_ #[22, 9] 22 #[v, .string u]).run Try.prog w = .ok v' w' ∧ Bo base w' v' (s ++ u) ∧ w.grownBy w' v.ownBlock := by
  obtain ⟨i, hi, hz0, hz1, hz2⟩ := info_parts Try.infoU8
  obtain ⟨v', w', h1, h2, h3, _⟩ := Lib.run_append_own_string (P := Try.prog) w base 22 9 22 5 i Try.underlying22 Try.underlying9 hi hz0 hz1 hz2 v s.size (Lib.strCells s) h u (by unfold maxLen; omega) (by omega) hb
  refine ⟨v', w', h1, ?_, h3⟩
  unfold Bo
  rw [ByteArray.size_append]
  have e : Lib.strCells (s ++ u) = Lib.strCells s ++ Lib.strCells u := by
    unfold Lib.strCells
    rw [ByteArray.data_append, Array.toList_append, List.map_append]
  rw [e]
  exact h2
theorem wpl_apps {P : Program} {ops : Array Oper} {rest : List Oper} {o : Oper} {a : Act} {w : World} {Q : Exit → Act → World → Prop} (hg : o.guard = none) (d x : Operand) (t u : TypeId)
    (hop : o.op = Op.call { callee := Callee.builtin Builtin.append, args := #[d, x], argTypes := #[t, u] }) (v1 v2 v' : Value) (w' : World) (hd : a.eval d = v1) (hx : a.eval x = v2)
    (hrun : (Builtin.append_ #[t, u] o.type #[v1, v2]).run P w = .ok v' w') (h : wpList P ops Q rest (a.put o.dst v') w') : wpList P ops Q (o :: rest) a w :=
  wpList_plain hg fun K hK => by
    unfold Oper.wp
    simp [execOp, hop, resolve, invoke, builtin, hd, hx, hrun, Result.andThen]
    exact hK _ _ h
set_option maxHeartbeats 8000000 in
theorem implDH (D : InflowD) (a : Option Addr) (c x y q : Nat) (v : Value) (S : ByteArray) (W : World) (g : GoodI D) (hz : S.size ≤ 1000000) (hX : Bx W q (deskC D a c x y v)) (hO : Ro pieceK 53 (q + 1) W (.slice a D.P.length c) D.P) (hS : Bo (q + 1) W v S) :
    Calls Try.prog 25 #[.pointer (some ⟨q, 0, none⟩), .int .i64 4000] W fun e w' => e = .returned (.tuple #[]) ∧ ∃ (a' : Option Addr) (c' : Nat) (v' : Value), Bx w' q (deskC (rdE D 4000) a' c' x y v') ∧ Ro pieceK 53 (q + 1) w' (.slice a' (rdE D 4000).P.length c') (rdE D 4000).P ∧ Bo (q + 1) w' v' (S ++ rdO D 4000) ∧ Below q W w' := by
  have hA : rsA D 4000 = true := by
    unfold rsA
    rw [giB_iff.2 g]
    rfl
  have hRS := implRS D a c 4000 W (good_ok g) hO.sl.2.2
  have e1 : rsE D 4000 = rdE D 4000 := by unfold rsE; rw [if_pos hA]
  have e2 : rsO D 4000 = rdO D 4000 := by unfold rsO; rw [if_pos hA]
  rw [hA, e1, e2] at hRS
  have hsz : ((rdO D 4000).size : Int) ≤ 4000 := (rd_good g (by omega)).2.2
  clear e1 e2 hA g
  have HRS := hide hRS
  have A0 := hide hX
  have S0 := hide hS
  have sq := hX.lt
  generalize rdE D 4000 = E at *
  generalize rdO D 4000 = u at *
  clear hRS hX hO hS
  obtain ⟨li, re, fi, P⟩ := D
  have x0 := (unhide A0).cv
  have x0l := (unhide A0).lt
  go_enter Try.func25, Try.ntmps25
  go_wp2_with fail
  refine (unhide HRS).mono ?_
  rintro e w1 ⟨a1, c1, rfl, o1, b1⟩
  obtain ⟨V2, hV2⟩ : ∃ V, V = w1.alloc (.cells #[.int .i64 E.li, .int .i64 E.re, .int .i64 E.fi, .slice a1 E.P.length c1] 39) := ⟨_, rfl⟩
  have al2 : Below w1.heap.size w1 V2 := by rw [hV2]; exact (Below.refl _ _).alloc (Nat.le_refl _) _
  have b2 : Below W.heap.size W V2 := b1.trans (al2.mono b1.size)
  have N2 := hide (show Bx V2 w1.heap.size (inflowC E a1 c1) by rw [hV2]; exact Bx.new w1 _ _)
  have A2 := hide ((unhide A0).below b2)
  have o2 := o1.below al2
  have HV2 := hide hV2
  have pq : q < w1.heap.size := Nat.lt_of_lt_of_le sq b1.size
  clear hV2 x0 x0l al2
  go_upto_region 1 with fail
  rw [← unhide HV2]
  clear HV2
  generalize w1.heap.size = p at *
  obtain ⟨V3, hV3⟩ : ∃ V, V = (((V2.setCell ⟨q, 0, none⟩ (.int .i64 E.li)).setCell ⟨q, 1, none⟩ (.int .i64 E.re)).setCell ⟨q, 2, none⟩ (.int .i64 E.fi)).setCell ⟨q, 3, none⟩ (.slice a1 E.P.length c1) := ⟨_, rfl⟩
  have A3 := hide (show Bx V3 q (deskC E a1 c1 x y v) by rw [hV3]; exact ((((unhide A2).set (i := 0) (u := .int .i64 E.li) (by simp)).set (i := 1) (u := .int .i64 E.re) (by simp)).set (i := 2) (u := .int .i64 E.fi) (by simp)).set (i := 3) (u := .slice a1 E.P.length c1) (by simp))
  have k3 : Kq (fun b => b = q) V2 V3 := by rw [hV3]; exact ((((Kq.refl (fun b => b = q) V2).set (g := q) (i := 0) (u := .int .i64 E.li) rfl).set (g := q) (i := 1) (u := .int .i64 E.re) rfl).set (g := q) (i := 2) (u := .int .i64 E.fi) rfl).set (g := q) (i := 3) (u := .slice a1 E.P.length c1) rfl
  have b3 : Below q W V3 := (b2.mono (by omega)).trans (k3.below (by have := b2.size; omega) (fun b (h : b = q) => by omega))
  have o3 := o2.kq k3 (fun b (h : b = q) => by omega)
  have s3 : Bo (q + 1) V3 v S := ((unhide S0).below b2).kq k3 (fun b (h : b = q) => by omega)
  have sz3 : W.heap.size ≤ V3.heap.size := by have := b2.size; have := k3.size; omega
  have HV3 := hide hV3
  have n2 := (unhide N2).cv
  have n2l := (unhide N2).lt
  have a2 := (unhide A2).cv
  have a2l := (unhide A2).lt
  have a2f := (unhide A2).fz
  obtain ⟨v4, w4, run4, s4, g4⟩ := s3.app u (by omega) (by omega)
  obtain ⟨va, vn, vc, rfl⟩ := s4.opens
  have ow3 : v.ownBlock = none ∨ ∃ gg, v.ownBlock = some gg ∧ q + 1 ≤ gg ∧ gg < W.heap.size := by
    cases hv : v.ownBlock with
    | none => exact Or.inl rfl
    | some gg => exact Or.inr ⟨gg, rfl, World.ownsRow.lt (w := W) (unhide S0) gg hv⟩
  have o4 : Ro pieceK 53 (q + 1) w4 (.slice a1 E.P.length c1) E.P := by
    refine Ro.mono (base := W.heap.size) ?_ (by omega)
    refine World.ownsRow.kept (row := v.ownBlock) o3 g4 ?_
    cases hb : (Value.slice a1 E.P.length c1).ownBlock with
    | none => exact Or.inl rfl
    | some hh =>
      have h1 := (World.ownsRow.lt (w := V3) o3 hh hb).1
      refine Or.inr (fun e => ?_)
      rcases ow3 with h2 | ⟨gg, h2, _, h3⟩
      · rw [h2] at e; cases e
      · rw [h2] at e; injection e with e; omega
  have A4 := hide (show Bx w4 q (deskC E a1 c1 x y v) from (unhide A3).kept g4.size (g4.block q (unhide A3).lt (fun e => by
    rcases ow3 with h2 | ⟨gg, h2, h3, _⟩
    · rw [h2] at e; cases e
    · rw [h2] at e; injection e with e; omega)))
  have b4 : Below q W w4 := by
    refine b3.trans ⟨g4.os, g4.tape, g4.output, g4.size, fun k hk => g4.block k (by omega) (fun e => ?_)⟩
    rcases ow3 with h2 | ⟨gg, h2, h3, _⟩
    · rw [h2] at e; cases e
    · rw [h2] at e; injection e with e; omega
  have O4 := hide o4
  have S4 := hide s4
  have B4 := hide b4
  have RUN4 := hide run4
  clear o1 b1 b2 o2 o3 k3 b3 s3 run4 s4 g4 ow3 o4 b4 S0 hV3
  go_upto_region 3 with fail
  rw [← unhide HV3]
  clear HV3 n2 n2l a2 a2l a2f N2 A2
  have a3 := (unhide A3).cv
  have a3l := (unhide A3).lt
  have a4 := (unhide A4).cv
  have a4l := (unhide A4).lt
  have a4f := (unhide A4).fz
  go_wp2_with (at_builtin; refine wpl_apps rfl _ _ 22 9 rfl _ _ _ _ rfl rfl (unhide RUN4) ?_)
  go_end0
  have k5 : Kq (fun b => b = q) w4 (w4.setCell ⟨q, 6, none⟩ (.slice va vn vc)) := (Kq.refl (fun b => b = q) w4).set (g := q) (i := 6) (u := .slice va vn vc) rfl
  exact ⟨rfl, a1, c1, _, (unhide A4).set (i := 6) (u := .slice va vn vc) (by simp), (unhide O4).kq k5 (fun b (h : b = q) => by omega), (unhide S4).kq k5 (fun b (h : b = q) => by omega), (unhide B4).setCell (Nat.le_refl _) _⟩
end Go.Proofs.Ytmicpknilhiliaa.Rc
