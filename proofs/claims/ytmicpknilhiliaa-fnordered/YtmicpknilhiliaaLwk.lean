/-
  A region that talks over channels, for one goroutine: 'Lw' is what Code.wp asks of a region that is under way; the operations that the walk reckons come in by 'upon', a send and a select by the machine's own steps.
-/
import Derived.Test.YtmicpknilhiliaaTgm4
import Derived.Conc.LoneCalls
import Derived.Conc.LoneSelectN
namespace Go.Proofs.Ytmicpknilhiliaa.Rc
open Go.Conc
set_option linter.unusedVariables false

section
variable {P : Program} {ops : Array Oper} {Q : Exit → Act → World → Prop}
def Lw (P : Program) (ops : Array Oper) (Q : Exit → Act → World → Prop) (l : List Nat) (a : Act) (w : World) : Prop :=
  ∀ (b : Frame) (k : List Item) (cs : List Frame), ∃ e a' w', Q e a' w' ∧ Arrives P (lone (b.at a (.inRegion ops l :: k)) cs w) b k cs e a' w'

theorem Lw.done {a : Act} {w : World} (h : Q .normal a w) : Lw P ops Q [] a w := fun _ _ _ => ⟨.normal, a, w, h, .one step_region_end⟩
theorem Lw.ofOps {l : List Nat} {a : Act} {w : World} (h : wpOps P ops Q l a w) : Lw P ops Q l a w := fun b k cs => wp_ops l a w h b k cs

/-- the end of one step -/
theorem fin_at {b : Frame} {a : Act} {i : Nat} {rest : List Nat} {k : List Item} {o : Oper} (ho : ops[i]? = some o) (v : Value) :
    (b.at a (.inRegion ops (i :: rest) :: k)).finish v = b.at (a.put o.dst v) (.inRegion ops rest :: k) := by
  rw [Frame.finish_at, ho]; rfl

theorem Lw.value {a : Act} {w w' : World} {i : Nat} {rest : List Nat} {o : Oper} {v : Value} (ho : ops[i]? = some o) (hw : Region.wanted o (yielded ops a.tmps) = true)
    (hr : (execOp a.eval o).run P w = .ok (.value v) w') (h : Lw P ops Q rest (a.put o.dst v) w') : Lw P ops Q (i :: rest) a w := by
  intro b k cs
  obtain ⟨e, a', w'', hq, harr⟩ := h b k cs
  refine ⟨e, a', w'', hq, .of_steps (.one (step_lone_go ?_)) harr⟩
  rw [stepG_op (P := P) (b := b) (k := k) (cs := cs) (w := w) (rest := rest) ho hw, ← fin_at ho]
  simp [stepG.apply, hr]

theorem Lw.pass {a : Act} {w : World} {i : Nat} {rest : List Nat} {o : Oper} (ho : ops[i]? = some o) (hw : Region.wanted o (yielded ops a.tmps) = false)
    (h : Lw P ops Q rest (a.put o.dst undef) w) : Lw P ops Q (i :: rest) a w := by
  intro b k cs
  obtain ⟨e, a', w', hq, harr⟩ := h b k cs
  have hs := step_op_skip (P := P) (b := b) (a := a) (k := k) (cs := cs) (w := w) (ops := ops) (i := i) (rest := rest) (by simp [ho, hw])
  rw [ho] at hs
  exact ⟨e, a', w', hq, .of_steps (.one hs) harr⟩

/-- a communication is handed up to the machine, in whatever frame -/
theorem comm_up {b : Frame} {k : List Item} {cs : List Frame} {a : Act} {w w₁ : World} {i : Nat} {rest : List Nat} {o : Oper} {cases : Array CommCase} {blocking : Bool} {shape : CommShape}
    (ho : ops[i]? = some o) (hw : Region.wanted o (yielded ops a.tmps) = true) (hr : (execOp a.eval o).run P w = .ok (.comm cases blocking shape) w₁) :
    ∃ es, stepG P true (G (b.at a (.inRegion ops (i :: rest) :: k)) cs) w = .comm (G (b.at a (.inRegion ops (i :: rest) :: k)) cs) cases blocking shape w₁ es := by
  rw [stepG_oper ho hw]
  simp [stepG.apply, hr, G, Frame.at, GStep.after]

/-- a send into a buffer with room -/
theorem Lw.send {a : Act} {w w₁ : World} {i : Nat} {rest : List Nat} {o : Oper} {v z : Value} {c cap s r : Nat} {buf : Array Value} {tm : Bool} (ho : ops[i]? = some o) (hw : Region.wanted o (yielded ops a.tmps) = true)
    (hr : (execOp a.eval o).run P w = .ok (.comm #[scase c v z] true .send) w₁) (hc : w₁.heap[c]? = some (.chan cap buf false s r tm)) (hroom : buf.size < cap)
    (h : Lw P ops Q rest (a.put o.dst undef) (w₁.setChan c cap (buf.push v) false (s + 1) r tm)) : Lw P ops Q (i :: rest) a w := by
  intro b k cs
  obtain ⟨e, a', w'', hq, harr⟩ := h b k cs
  obtain ⟨es, hes⟩ := comm_up (P := P) (b := b) (k := k) (cs := cs) (rest := rest) ho hw hr
  have hs := step_lone_send_room hes hc hroom
  rw [fin_at ho] at hs
  exact ⟨e, a', w'', hq, .of_steps (.one hs) harr⟩

/-- a select, one receive of which finds something in its buffer, where no other case can go on -/
theorem Lw.select {a : Act} {w w₁ : World} {i j : Nat} {rest : List Nat} {o : Oper} {z : Value} {c cap s r : Nat} {buf : Array Value} {closed tm blocking : Bool} {cases : Array CommCase} (ho : ops[i]? = some o)
    (hw : Region.wanted o (yielded ops a.tmps) = true) (hr : (execOp a.eval o).run P w = .ok (.comm cases blocking .select) w₁) (hk : cases[j]? = some (rcase c z))
    (hn : ∀ (m : Nat) (c' : CommCase), m ≠ j → cases[m]? = some c' → NoWay w₁ c') (hc : w₁.heap[c]? = some (.chan cap buf closed s r tm)) (hsome : 0 < buf.size)
    (h : Lw P ops Q rest (a.put o.dst (commResult cases .select j (buf.getD 0 undef) true)) (w₁.setChan c cap (buf.extract 1 buf.size) closed s (r + 1) tm)) : Lw P ops Q (i :: rest) a w := by
  intro b k cs
  obtain ⟨e, a', w'', hq, harr⟩ := h b k cs
  obtain ⟨es, hes⟩ := comm_up (P := P) (b := b) (k := k) (cs := cs) (rest := rest) ho hw hr
  have hs := step_lone_sel_recv_buf hes hk hn hc hsome
  rw [fin_at ho] at hs
  exact ⟨e, a', w'', hq, .of_steps (.one hs) harr⟩

/-- the region itself -/
theorem wp_lw {id : Nat} {a : Act} {w : World} (h : Lw P ops Q (List.range ops.size) a w) : (Code.region id ops false).wp P Q a w :=
  fun b k cs => let ⟨e, a', w', hq, harr⟩ := h b k cs; ⟨e, a', w', hq, .of_steps (.one step_region) harr⟩
theorem wp_lwd {id : Nat} {a : Act} {w : World} (h : ∀ t, Lw P ops Q (Region.schedule (P.follows .mixedOrders) ops t) a { w with drawn := w.drawn + 1 }) : (Code.region id ops true).wp P Q a w :=
  fun b k cs => let ⟨e, a', w', hq, harr⟩ := h _ b k cs; ⟨e, a', w', hq, .of_steps (.one step_region_draw) harr⟩
end
end Go.Proofs.Ytmicpknilhiliaa.Rc
