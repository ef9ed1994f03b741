/-
  Rows of impl.Capsule: read, copied by the laws, weighed, held against each other, marked.
-/
import Derived.Test.YtgieglpjkjncfabDoorRcs
import Derived.Test.YtgieglpjkjncfabDoorStx
import Derived.Deep.QuietTactic
import Derived.Deep.RegionWith
import Derived.BigQuiet
namespace Go.Proofs.YtgieglpjkjncfabDoor.Rc
open Go.ChangeShapes Go.WideShapes Go.ChangeAt Go.RowKit Go.Deep
set_option linter.unusedVariables false
set_option maxRecDepth 100000

/-- a record -/
structure CapsuleD where
  f0 : Int
  f1 : ByteArray
/-- its cells -/
abbrev capsuleC (D : CapsuleD) : List Value := [.int .i64 D.f0, .string D.f1]
/-- as a value -/
abbrev capsuleV (D : CapsuleD) : Value := .agg #[.int .i64 D.f0, .string D.f1]
/-- how it lies in cells -/
def capsuleK : Kd CapsuleD := ⟨fun D => [.int .i64 D.f0, .string D.f1], 2, ⟨0, ⟨#[]⟩⟩, fun _ => rfl, by decide, fun x u hu => by
  simp at hu
  rcases hu with rfl | rfl <;> rfl⟩

theorem capsule_c0 (L : List CapsuleD) (k : Nat) : cl capsuleK L (k * 2) = .int .i64 (gt capsuleK L k).f0 := cl_at capsuleK L k 0 (by decide)
theorem capsule_c1 (L : List CapsuleD) (k : Nat) : cl capsuleK L (k * 2 + 1) = .string (gt capsuleK L k).f1 := cl_at capsuleK L k 1 (by decide)
theorem capsule_r0 {w : World} {b o k : Nat} {L : List CapsuleD} (h : ∀ q, q < L.length * capsuleK.m → w.cell? ⟨b, o + q, none⟩ = some (cl capsuleK L q)) (hk : k < L.length) : w.cell? ⟨b, o + k * 2, none⟩ = some (.int .i64 (gt capsuleK L k).f0) := by
  have h1 := h (k * 2) (kq_at capsuleK (j := 0) hk (by decide))
  rw [capsule_c0] at h1
  exact h1
theorem capsule_r1 {w : World} {b o k : Nat} {L : List CapsuleD} (h : ∀ q, q < L.length * capsuleK.m → w.cell? ⟨b, o + q, none⟩ = some (cl capsuleK L q)) (hk : k < L.length) : w.cell? ⟨b, o + k * 2 + 1, none⟩ = some (.string (gt capsuleK L k).f1) := by
  have h1 := h (k * 2 + 1) (kq_at capsuleK (j := 1) hk (by decide))
  rw [capsule_c1, ← Nat.add_assoc] at h1
  exact h1
theorem Tryd.infoCapsule : (Tryd.prog.info? 30).map (fun i => (i.zero, i.size, i.bytes)) = some (some (.agg #[.int .i64 0, .string ⟨#[]⟩]), 2, 24) := by kernel_rfl
/-- one more is put behind -/
theorem pushCapsule (w : World) (base : Nat) (v : Value) (L : List CapsuleD) (D : CapsuleD) (hown : Ro capsuleK 30 base w v L) (hb : L.length ≤ 1048576) (hbase : base ≤ w.heap.size) :
    ∃ v' w', (Builtin.append_ #[23, 23] 23 #[v, .slice (some ⟨w.heap.size, 0, none⟩) 1 1]).run Tryd.prog (w.alloc (.cells #[.int .i64 D.f0, .string D.f1] 30)) = .ok v' w' ∧ Ro capsuleK 30 base w' v' (L ++ [D]) ∧ Below base w w' ∧ ∀ q, q < w.heap.size → (∀ g, v.ownBlock = some g → q ≠ g) → w'.heap[q]? = w.heap[q]? := by
  obtain ⟨i0, hi, hz0, hz1, hz2⟩ := info_parts Tryd.infoCapsule
  have hA := (Below.refl w.heap.size w).alloc (Nat.le_refl _) (.cells #[.int .i64 D.f0, .string D.f1] 30)
  obtain ⟨v', w', h1, h2, h3, _, h5⟩ := app capsuleK (w.alloc (.cells #[.int .i64 D.f0, .string D.f1] 30)) 23 23 30 base i0 _ 24 Tryd.underlying23 hi hz0 hz1 hz2 rfl (by decide) v L (hown.below hA) (some ⟨w.heap.size, 0, none⟩) 1 [D] (Or.inr ⟨_, rfl, fun j u hu => by
    have e : ([D] : List CapsuleD).flatMap capsuleK.f = capsuleC D := by simp [capsuleK]
    rw [e] at hu
    rw [add_none, Nat.zero_add]
    have := (Bx.new w (capsuleC D) 30).cv j
    exact this.trans hu⟩) (by simp; omega) (by simp; omega)
  exact ⟨v', w', h1, h2, (hA.mono hbase).trans h3, fun q hq hn => (h5.block q (by simp; omega) (fun e => hn q e.symm rfl)).trans (hA.block q hq)⟩

/-- a row of none, and all of a row put behind it -/
theorem lit0Capsule (w : World) (base : Nat) (hb : base ≤ w.heap.size) : Ro capsuleK 30 base (w.alloc (.cells #[] 30)) (.slice (some ⟨w.heap.size, 0, none⟩) 0 0) [] :=
  World.ownsRow_lit (base := base) (e := 30) (size := 2) w #[] 0 hb (by unfold maxLen; omega) rfl
theorem joinCapsule (w : World) (base : Nat) (v : Value) (L M : List CapsuleD) (a : Option Addr) (c : Nat) (hown : Ro capsuleK 30 base w v L) (h : Rd capsuleK w a M) (hb : L.length + M.length ≤ 2097152) (hbase : base ≤ w.heap.size) :
    ∃ v' w', (Builtin.append_ #[23, 23] 23 #[v, .slice a M.length c]).run Tryd.prog w = .ok v' w' ∧ Ro capsuleK 30 base w' v' (L ++ M) ∧ Below base w w' ∧ ∀ q, q < w.heap.size → (∀ g, v.ownBlock = some g → q ≠ g) → w'.heap[q]? = w.heap[q]? := by
  obtain ⟨i0, hi, hz0, hz1, hz2⟩ := info_parts Tryd.infoCapsule
  obtain ⟨v', w', h1, h2, h3, _, h5⟩ := app capsuleK w 23 23 30 base i0 _ 24 Tryd.underlying23 hi hz0 hz1 hz2 rfl (by decide) v L hown a c M h.sc hb hbase
  exact ⟨v', w', h1, h2, h3, fun q hq hn => h5.block q hq (fun e => hn q e.symm rfl)⟩

/-- one more is put behind, out of a row of one that lies there -/
theorem pushAtCapsule (w : World) (base : Nat) (v : Value) (L : List CapsuleD) (D : CapsuleD) (g : Nat) (hg : Bx w g (capsuleC D)) (hown : Ro capsuleK 30 base w v L) (hb : L.length ≤ 1048576) (hbase : base ≤ w.heap.size) :
    ∃ v' w', (Builtin.append_ #[23, 23] 23 #[v, .slice (some ⟨g, 0, none⟩) 1 1]).run Tryd.prog w = .ok v' w' ∧ Ro capsuleK 30 base w' v' (L ++ [D]) ∧ Below base w w' ∧ ∀ q, q < w.heap.size → (∀ g, v.ownBlock = some g → q ≠ g) → w'.heap[q]? = w.heap[q]? := by
  obtain ⟨i0, hi, hz0, hz1, hz2⟩ := info_parts Tryd.infoCapsule
  obtain ⟨v', w', h1, h2, h3, _, h5⟩ := app capsuleK w 23 23 30 base i0 _ 24 Tryd.underlying23 hi hz0 hz1 hz2 rfl (by decide) v L hown (some ⟨g, 0, none⟩) 1 [D] (Or.inr ⟨_, rfl, fun j u hu => by
    have e : ([D] : List CapsuleD).flatMap capsuleK.f = capsuleC D := by simp [capsuleK]
    rw [e] at hu
    rw [add_none, Nat.zero_add]
    exact (hg.cv j).trans hu⟩) (by simp; omega) hbase
  exact ⟨v', w', h1, h2, h3, fun q hq hn => h5.block q hq (fun e => hn q e.symm rfl)⟩


/-- what its texts weigh, and those of a row -/
def capsuleT (D : CapsuleD) : Nat := D.f1.size
def capsuleW (L : List CapsuleD) : Nat := (L.map capsuleT).sum
theorem capsuleW_take {L : List CapsuleD} {k : Nat} (h : k < L.length) : capsuleW (L.take (k + 1)) = capsuleW (L.take k) + capsuleT (gt capsuleK L k) := by
  have e : L.take (k + 1) = L.take k ++ [gt capsuleK L k] := by rw [gt_of capsuleK L k h]; exact (List.take_append_getElem h).symm
  unfold capsuleW
  rw [e, List.map_append, List.sum_append]
  simp
theorem capsuleW_mem {L : List CapsuleD} {x : CapsuleD} (h : x ∈ L) : capsuleT x ≤ capsuleW L := by
  induction L with
  | nil => cases h
  | cons y L ih =>
    unfold capsuleW at *
    rw [List.map_cons, List.sum_cons]
    rcases List.mem_cons.1 h with rfl | h
    · omega
    · have := ih h
      omega
/-- what is left of a weight -/
def szPCapsule (left n : Nat) (e : Ending) : Prop := e = .returned (.int .i64 (-1)) ∨ ∃ r : Nat, e = .returned (.int .i64 r) ∧ r + n ≤ left
/-- the marks of a row, from k0 on -/
def capsuleM (k0 o : Nat) : Value := if o % 2 = 0 then .int .i64 ((k0 + o : Nat) : Int) else .string (mtT (k0 + o))
theorem capsule_m0 (k0 i : Nat) : capsuleM k0 (i * 2) = .int .i64 ((k0 + i * 2 : Nat) : Int) := by
  unfold capsuleM
  rw [if_pos (show (i * 2) % 2 = 0 by omega)]
theorem capsule_m1 (k0 i : Nat) : capsuleM k0 (i * 2 + 1) = .string (mtT (k0 + i * 2 + 1)) := by
  unfold capsuleM
  rw [if_neg (show ¬ (i * 2 + 1) % 2 = 0 by omega)]
  rw [Nat.add_assoc]
end Go.Proofs.YtgieglpjkjncfabDoor.Rc
