/-
  A row of bytes of the call's own, told as a list: a byte put behind it, a text put behind it, as a text.
-/
import Derived.Test.YtidgjjbdabifnabDoorFpp
import Derived.Test.YtidgjjbdabifnabDoorFix
import Derived.Test.YtidgjjbdabifnabDoorRcs
import Derived.Lib.AppendStr
import Derived.ArgAppend
import Derived.Lib.SlBytesConst
namespace Go.Proofs.YtidgjjbdabifnabDoor.Rc
open Go.ChangeShapes Go.WideShapes Go.ChangeAt Go.RowKit Go.Deep
set_option linter.unusedVariables false
set_option maxRecDepth 100000

theorem Tryd.infoU8q : (Tryd.prog.info? 5).map (fun i => (i.zero, i.size, i.bytes)) = some (some (.int .u8 0), 1, 1) := by kernel_rfl
def Bq (base : Nat) (w : World) (v : Value) (xs : List UInt8) : Prop := w.ownsRow base 5 1 v xs.length (bs xs)
theorem Bq.nil (base : Nat) (w : World) : Bq base w (.slice none 0 0) [] := World.ownsRow_nil _ _ _ _
theorem Bq.kq {base : Nat} {w w' : World} {v : Value} {xs : List UInt8} {P : Nat → Prop} (h : Bq base w v xs) (k : Kq P w w') (hP : ∀ q, P q → q < base) : Bq base w' v xs := by
  refine ⟨h.1, ?_⟩
  rcases h.2 with hn | ⟨g, cap, cur, rfl, hg, hgg, rest⟩
  · exact .inl hn
  · exact .inr ⟨g, cap, cur, rfl, hg, (k.block g (Array.getElem?_eq_some_iff.1 hgg).1 (fun p => by have := hP g p; omega)).trans hgg, rest⟩
theorem Bq.below {base : Nat} {w w' : World} {v : Value} {xs : List UInt8} (h : Bq base w v xs) (b : Below w.heap.size w w') : Bq base w' v xs := h.kq (Kq.of (P := fun _ => False) b) (fun _ h => h.elim)
theorem Bq.opens {base : Nat} {w : World} {v : Value} {xs : List UInt8} (h : Bq base w v xs) : ∃ a c, v = .slice a xs.length c := by
  rcases h.2 with ⟨rfl, e0⟩ | ⟨g, cap, cur, rfl, _⟩
  · exact ⟨none, 0, by rw [e0]⟩
  · exact ⟨_, _, rfl⟩
theorem Bq.mono {base base' : Nat} {w : World} {v : Value} {xs : List UInt8} (h : Bq base w v xs) (hb : base' ≤ base) : Bq base' w v xs := World.ownsRow.mono h hb
theorem Bq.grew {base : Nat} {w w' : World} {v : Value} {xs : List UInt8} (h : Bq base w v xs) (hg : w.grownBy w' v.ownBlock) (hb : base ≤ w.heap.size) : Below base w w' :=
  ⟨hg.os, hg.tape, hg.output, hg.size, fun k hk => hg.block k (by omega) (fun e0 => by have := (World.ownsRow.lt (w := w) h k e0.symm).1; omega)⟩
/-- What an append to v that gives v' leaves: all but v's own row is as it was; v' lies where v lay, or in a new row. -/
structure Gq (w w' : World) (v v' : Value) : Prop where
  grown : w.grownBy w' v.ownBlock
  lies : v'.ownBlock = v.ownBlock ∨ ∃ g, v'.ownBlock = some g ∧ w.heap.size ≤ g
theorem Gq.refl (w : World) (v : Value) : Gq w w v v := ⟨⟨rfl, rfl, rfl, Nat.le_refl _, fun _ _ _ => rfl⟩, Or.inl rfl⟩
theorem Gq.trans {a b c : World} {u v x : Value} (h : Gq a b u v) (k : Gq b c v x) : Gq a c u x := by
  refine ⟨⟨k.grown.os.trans h.grown.os, k.grown.tape.trans h.grown.tape, k.grown.output.trans h.grown.output, Nat.le_trans h.grown.size k.grown.size, fun i hi hc => ?_⟩, ?_⟩
  · have e := h.grown.block i hi hc
    rw [k.grown.block i (Nat.lt_of_lt_of_le hi h.grown.size) ?_, e]
    rcases h.lies with l | ⟨g, l, hg⟩
    · rw [l]; exact hc
    · rw [l]; intro e; simp at e; omega
  · rcases k.lies with l | ⟨g, l, hg⟩
    · rw [l]; exact h.lies
    · exact Or.inr ⟨g, l, Nat.le_trans h.grown.size hg⟩
theorem Gq.alloc {a w : World} {u v : Value} (h : Gq a w u v) (o : Obj) : Gq a (w.alloc o) u v :=
  h.trans ⟨⟨rfl, rfl, rfl, by simp, fun k hk _ => Below.heap_alloc _ _ _ hk⟩, Or.inl rfl⟩
theorem Gq.drew {a w : World} {u v : Value} (h : Gq a w u v) : Gq a w.drew u v :=
  h.trans ⟨⟨rfl, rfl, rfl, Nat.le_refl _, fun k hk _ => rfl⟩, Or.inl rfl⟩
theorem Gq.of_below {w w' : World} (v : Value) (h : Below w.heap.size w w') : Gq w w' v v := ⟨⟨h.os, h.tape, h.output, h.size, fun k hk _ => h.block k hk⟩, Or.inl rfl⟩
/-- a box that is not v's own row stays -/
theorem Gq.bx {w w' : World} {v v' : Value} (h : Gq w w' v v') {b : Nat} {xs : List Value} (hx : Bx w b xs) (hne : v.ownBlock ≠ some b) : Bx w' b xs :=
  hx.kept h.grown.size (h.grown.block b hx.lt (fun e => hne e.symm))
theorem Bq.push {base : Nat} {w : World} {v : Value} {xs : List UInt8} (h : Bq base w v xs) (c : UInt8) (x : Int) (hx : x = (c.toNat : Int)) (hz : xs.length ≤ 2097152) (hb : base ≤ w.heap.size) :
    ∃ v' w', (Builtin.append_ #[28, 28] 28 #[v, .slice (some ⟨w.heap.size, 0, none⟩) 1 1]).run Tryd.prog (w.alloc (.cells #[.int .u8 x] 5)) = .ok v' w' ∧ Bq base w' v' (xs ++ [c]) ∧ Below base w w' ∧ Gq w w' v v' := by
  obtain ⟨i, hi, hz0, hz1, hz2⟩ := info_parts Tryd.infoU8q
  subst hx
  have hA := (Below.refl w.heap.size w).alloc (Nat.le_refl _) (.cells #[.int .u8 (c.toNat : Int)] 5)
  have h1 := h.below hA
  obtain ⟨v', w', r1, r2, r3, r4⟩ := app_any (w.alloc (.cells #[.int .u8 (c.toNat : Int)] 5)) 28 28 base 5 i _ 1 1 Tryd.underlying28 hi hz0 hz1 hz2 rfl (by decide) v xs.length (bs xs) h1 (some ⟨w.heap.size, 0, none⟩) 1 1 (bs [c]) rfl (Or.inr ⟨_, rfl, fun j u hu => by
    rw [add_none, Nat.zero_add]
    exact ((Bx.new w [.int .u8 (c.toNat : Int)] 5).cv j).trans hu⟩) (by intro u hu; simp [bs] at hu; subst hu; rfl) (by unfold maxLen; omega) (by omega) (by simp; omega)
  refine ⟨v', w', r1, ?_, (hA.mono hb).trans (h1.grew r3 (by simp; omega)), (Gq.of_below v hA).trans ⟨r3, r4.imp id (fun e => ⟨_, e, Nat.le_refl _⟩)⟩⟩
  unfold Bq
  rw [bs_append, List.length_append]
  exact r2
theorem strCells_bs (s : ByteArray) : Lib.strCells s = bs s.data.toList := by
  unfold Lib.strCells bs
  rfl
theorem Bq.text {base : Nat} {w : World} {v : Value} {xs : List UInt8} (h : Bq base w v xs) (u : ByteArray) (hz : xs.length ≤ 2097152) (hu : u.size ≤ 1048576) (hb : base ≤ w.heap.size) :
    ∃ v' w', (Builtin.append_ #[28, 9] 28 #[v, .string u]).run Tryd.prog w = .ok v' w' ∧ Bq base w' v' (xs ++ u.data.toList) ∧ Below base w w' ∧ w.grownBy w' v.ownBlock := by
  obtain ⟨i, hi, hz0, hz1, hz2⟩ := info_parts Tryd.infoU8q
  obtain ⟨v', w', h1, h2, h3, _⟩ := Lib.run_append_own_string (P := Tryd.prog) w base 28 9 28 5 i Tryd.underlying28 Tryd.underlying9 hi hz0 hz1 hz2 v xs.length (bs xs) h u (by unfold maxLen; omega) (by omega) hb
  refine ⟨v', w', h1, ?_, h.grew h3 hb, h3⟩
  unfold Bq
  rw [bs_append, List.length_append, ← strCells_bs u]
  exact h2
theorem Bq.string {base : Nat} {w : World} {v : Value} {xs : List UInt8} (h : Bq base w v xs) : (convert 28 9 v).run Tryd.prog w = .ok (.string ⟨xs.toArray⟩) w :=
  own_string Tryd.prog w base 28 9 5 v xs.length xs Tryd.underlying28 Tryd.underlying5 Tryd.underlying9 h
/-- a row that is full, in a block of the call's own that may bear a mark -/
def Fl (base : Nat) (w : World) (v : Value) (xs : List UInt8) : Prop := ∃ g, v = .slice (some ⟨g, 0, none⟩) xs.length xs.length ∧ base ≤ g ∧ g < w.heap.size ∧ ∀ j u, (bs xs)[j]? = some u → w.cell? ⟨g, j, none⟩ = some u
/-- a row of the call's own to be appended to -/
def Bw (base : Nat) (w : World) (v : Value) (xs : List UInt8) : Prop := Bq base w v xs ∨ Fl base w v xs
theorem Bw.below {base : Nat} {w w' : World} {v : Value} {xs : List UInt8} (h : Bw base w v xs) (b : Below w.heap.size w w') : Bw base w' v xs := by
  rcases h with h | ⟨g, e, hg, hl, hc⟩
  · exact Or.inl (h.below b)
  · exact Or.inr ⟨g, e, hg, Nat.lt_of_lt_of_le hl b.size, fun j u hu => (b.cell (p := ⟨g, j, none⟩) hl).trans (hc j u hu)⟩
theorem Bw.lt {base : Nat} {w : World} {v : Value} {xs : List UInt8} (h : Bw base w v xs) : ∀ k, v.ownBlock = some k → base ≤ k ∧ k < w.heap.size := by
  rcases h with h | ⟨g, rfl, hg, hl, hc⟩
  · exact fun k e => World.ownsRow.lt (w := w) h k e
  · intro k e
    injection e with e
    subst e
    exact ⟨hg, hl⟩
theorem Bw.push {base : Nat} {w : World} {v : Value} {xs : List UInt8} (h : Bw base w v xs) (c : UInt8) (x : Int) (hx : x = (c.toNat : Int)) (hz : xs.length ≤ 2097152) (hb : base ≤ w.heap.size) :
    ∃ v' w', (Builtin.append_ #[28, 28] 28 #[v, .slice (some ⟨w.heap.size, 0, none⟩) 1 1]).run Tryd.prog (w.alloc (.cells #[.int .u8 x] 5)) = .ok v' w' ∧ Bq base w' v' (xs ++ [c]) ∧ Below base w w' ∧ Gq w w' v v' := by
  rcases h with h | ⟨g, rfl, hg, hl, hc⟩
  · exact h.push c x hx hz hb
  · obtain ⟨i, hi, hz0, hz1, hz2⟩ := info_parts Tryd.infoU8q
    subst hx
    have hA := (Below.refl w.heap.size w).alloc (Nat.le_refl _) (.cells #[.int .u8 (c.toNat : Int)] 5)
    obtain ⟨v', w', hrun, hown, hgrow⟩ := run_append_arg_grows (P := Tryd.prog) (w.alloc (.cells #[.int .u8 (c.toNat : Int)] 5)) 28 28 5 i (.int .u8 0) 1 1 Tryd.underlying28 hi hz0 hz1 hz2 rfl (by decide) ⟨g, 0, none⟩ xs.length xs.length (bs xs) (by rw [bs_length, Nat.mul_one])
      (fun j u hu => by rw [add_none, Nat.zero_add]; exact (hA.cell (p := ⟨g, j, none⟩) hl).trans (hc j u hu)) ⟨w.heap.size, 0, none⟩ 1 1 (bs [c]) rfl (fun j u hu => by
        rw [add_none, Nat.zero_add]
        exact ((Bx.new w [.int .u8 (c.toNat : Int)] 5).cv j).trans hu) (by omega) (by unfold maxLen; omega) (by omega)
    have hs : (w.alloc (.cells #[.int .u8 (c.toNat : Int)] 5)).heap.size = w.heap.size + 1 := by simp
    rw [hs] at hown
    refine ⟨v', w', hrun, ?_, (hA.mono hb).trans ⟨hgrow.os, hgrow.tape, hgrow.output, hgrow.size, fun k hk => hgrow.block k (by rw [hs]; omega) (by simp)⟩, (Gq.of_below _ hA).trans ⟨⟨hgrow.os, hgrow.tape, hgrow.output, hgrow.size, fun k hk _ => hgrow.block k hk (by simp)⟩, ?_⟩⟩
    · unfold Bq
      rw [bs_append, List.length_append]
      exact World.ownsRow.mono hown (by omega)
    · right
      rcases hown.2 with ⟨_, h0⟩ | ⟨g', cap', cur, rfl, hg', _⟩
      · omega
      · exact ⟨g', rfl, by rw [hs]; exact hg'⟩
/-- '[]byte' of a constant text: the row, its mark -/
theorem Fl.const {base : Nat} (w : World) (xs : List UInt8) (hb : base ≤ w.heap.size) (p q : Nat) : Fl base (w.alloc (.cells (bs xs).toArray 5 (p, q))) (.slice (some ⟨w.heap.size, 0, none⟩) xs.length xs.length) xs := by
  refine ⟨w.heap.size, rfl, hb, by simp, fun j u hu => ?_⟩
  have := World.cell?_alloc_mark w (bs xs).toArray 5 (p, q) j
  rw [this]
  simpa using hu
theorem Bw.string {base : Nat} {w : World} {v : Value} {xs : List UInt8} (h : Bw base w v xs) : (convert 28 9 v).run Tryd.prog w = .ok (.string ⟨xs.toArray⟩) w := by
  rcases h with h | ⟨g, rfl, hg, hl, hc⟩
  · exact h.string
  · refine run_convert_bytes_back w 28 9 5 ⟨g, 0, none⟩ xs.length xs Tryd.underlying28 Tryd.underlying5 Tryd.underlying9 ?_
    intro j hj
    rw [add_none, Nat.zero_add]
    exact hc j _ (by simp [bs, hj])
end Go.Proofs.YtidgjjbdabifnabDoor.Rc
