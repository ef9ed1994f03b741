/-
  A row of bytes of the call's own, told as a list: a byte put behind it, a text put behind it, as a text.
-/
import Derived.Test.YtidgjjbdabifnaaDoorFpp
import Derived.Test.YtidgjjbdabifnaaDoorFix
import Derived.Test.YtidgjjbdabifnaaDoorRcs
import Derived.Lib.AppendStr
namespace Go.Proofs.YtidgjjbdabifnaaDoor.Rc
open Go.ChangeShapes Go.WideShapes Go.ChangeAt Go.RowKit Go.Deep
set_option linter.unusedVariables false
set_option maxRecDepth 100000

theorem Tryd.infoU8q : (Tryd.prog.info? 5).map (fun i => (i.zero, i.size, i.bytes)) = some (some (.int .u8 0), 1, 1) := by kernel_rfl
def Bq (base : Nat) (w : World) (v : Value) (xs : List UInt8) : Prop := w.ownsRow base 5 1 v xs.length (bs xs)
theorem Bq.nil (base : Nat) (w : World) : Bq base w (.slice none 0 0) [] := World.ownsRow_nil _ _ _ _
theorem Bq.kq {base : Nat} {w w' : World} {v : Value} {xs : List UInt8} {P : Nat → Prop} (h : Bq base w v xs) (k : Kq P w w') (hP : ∀ q, P q → q < base) : Bq base w' v xs := by
  refine ⟨h.1, ?_⟩
  rcases h.2 with hn | ⟨g, cap, cur, rfl, hg, hgg, rest⟩
  · exact .inl hn
  · exact .inr ⟨g, cap, cur, rfl, hg, (k.block g (Array.getElem?_eq_some_iff.1 hgg).1 (fun p => by have := hP g p; omega)).trans hgg, rest⟩
theorem Bq.below {base : Nat} {w w' : World} {v : Value} {xs : List UInt8} (h : Bq base w v xs) (b : Below w.heap.size w w') : Bq base w' v xs := h.kq (Kq.of (P := fun _ => False) b) (fun _ h => h.elim)
theorem Bq.opens {base : Nat} {w : World} {v : Value} {xs : List UInt8} (h : Bq base w v xs) : ∃ a c, v = .slice a xs.length c := by
  rcases h.2 with ⟨rfl, e0⟩ | ⟨g, cap, cur, rfl, _⟩
  · exact ⟨none, 0, by rw [e0]⟩
  · exact ⟨_, _, rfl⟩
theorem Bq.mono {base base' : Nat} {w : World} {v : Value} {xs : List UInt8} (h : Bq base w v xs) (hb : base' ≤ base) : Bq base' w v xs := World.ownsRow.mono h hb
theorem Bq.grew {base : Nat} {w w' : World} {v : Value} {xs : List UInt8} (h : Bq base w v xs) (hg : w.grownBy w' v.ownBlock) (hb : base ≤ w.heap.size) : Below base w w' :=
  ⟨hg.os, hg.tape, hg.output, hg.size, fun k hk => hg.block k (by omega) (fun e0 => by have := (World.ownsRow.lt (w := w) h k e0.symm).1; omega)⟩
theorem Bq.push {base : Nat} {w : World} {v : Value} {xs : List UInt8} (h : Bq base w v xs) (c : UInt8) (x : Int) (hx : x = (c.toNat : Int)) (hz : xs.length ≤ 2097152) (hb : base ≤ w.heap.size) :
    ∃ v' w', (Builtin.append_ #[48, 48] 48 #[v, .slice (some ⟨w.heap.size, 0, none⟩) 1 1]).run Tryd.prog (w.alloc (.cells #[.int .u8 x] 5)) = .ok v' w' ∧ Bq base w' v' (xs ++ [c]) ∧ Below base w w' := by
  obtain ⟨i, hi, hz0, hz1, hz2⟩ := info_parts Tryd.infoU8q
  subst hx
  have hA := (Below.refl w.heap.size w).alloc (Nat.le_refl _) (.cells #[.int .u8 (c.toNat : Int)] 5)
  have h1 := h.below hA
  obtain ⟨v', w', r1, r2, r3, _⟩ := app_any (w.alloc (.cells #[.int .u8 (c.toNat : Int)] 5)) 48 48 base 5 i _ 1 1 Tryd.underlying48 hi hz0 hz1 hz2 rfl (by decide) v xs.length (bs xs) h1 (some ⟨w.heap.size, 0, none⟩) 1 1 (bs [c]) rfl (Or.inr ⟨_, rfl, fun j u hu => by
    rw [add_none, Nat.zero_add]
    exact ((Bx.new w [.int .u8 (c.toNat : Int)] 5).cv j).trans hu⟩) (by intro u hu; simp [bs] at hu; subst hu; rfl) (by unfold maxLen; omega) (by omega) (by simp; omega)
  refine ⟨v', w', r1, ?_, (hA.mono hb).trans (h1.grew r3 (by simp; omega))⟩
  unfold Bq
  rw [bs_append, List.length_append]
  exact r2
theorem strCells_bs (s : ByteArray) : Lib.strCells s = bs s.data.toList := by
  unfold Lib.strCells bs
  rfl
theorem Bq.text {base : Nat} {w : World} {v : Value} {xs : List UInt8} (h : Bq base w v xs) (u : ByteArray) (hz : xs.length ≤ 2097152) (hu : u.size ≤ 1048576) (hb : base ≤ w.heap.size) :
    ∃ v' w', (Builtin.append_ #[48, 9] 48 #[v, .string u]).run Tryd.prog w = .ok v' w' ∧ Bq base w' v' (xs ++ u.data.toList) ∧ Below base w w' := by
  obtain ⟨i, hi, hz0, hz1, hz2⟩ := info_parts Tryd.infoU8q
  obtain ⟨v', w', h1, h2, h3, _⟩ := Lib.run_append_own_string (P := Tryd.prog) w base 48 9 48 5 i Tryd.underlying48 Tryd.underlying9 hi hz0 hz1 hz2 v xs.length (bs xs) h u (by unfold maxLen; omega) (by omega) hb
  refine ⟨v', w', h1, ?_, h.grew h3 hb⟩
  unfold Bq
  rw [bs_append, List.length_append, ← strCells_bs u]
  exact h2
theorem Bq.string {base : Nat} {w : World} {v : Value} {xs : List UInt8} (h : Bq base w v xs) : (convert 48 9 v).run Tryd.prog w = .ok (.string ⟨xs.toArray⟩) w :=
  own_string Tryd.prog w base 48 9 5 v xs.length xs Tryd.underlying48 Tryd.underlying5 Tryd.underlying9 h
end Go.Proofs.YtidgjjbdabifnaaDoor.Rc
