/-
  Rows of impl.Window: read, copied by the laws, weighed, held against each other, marked.
-/
import Derived.Test.YtpjpmlopmknllaaRcs
import Derived.Deep.QuietTactic
import Derived.Deep.RegionWith
import Derived.BigQuiet
namespace Go.Proofs.Ytpjpmlopmknllaa.Rc
open Go.ChangeShapes Go.WideShapes Go.ChangeAt Go.RowKit Go.Deep
set_option linter.unusedVariables false
set_option maxRecDepth 100000

/-- a record -/
structure WindowD where
  f0 : Int
  f1 : Int
  f2 : Int
  f3 : Int
/-- its cells -/
abbrev windowC (D : WindowD) : List Value := [.int .i64 D.f0, .int .i64 D.f1, .int .i64 D.f2, .int .i64 D.f3]
/-- as a value -/
abbrev windowV (D : WindowD) : Value := .agg #[.int .i64 D.f0, .int .i64 D.f1, .int .i64 D.f2, .int .i64 D.f3]
/-- how it lies in cells -/
def windowK : Kd WindowD := ⟨fun D => [.int .i64 D.f0, .int .i64 D.f1, .int .i64 D.f2, .int .i64 D.f3], 4, ⟨0, 0, 0, 0⟩, fun _ => rfl, by decide, fun x u hu => by
  simp at hu
  rcases hu with rfl | rfl | rfl | rfl <;> rfl⟩

theorem window_c0 (L : List WindowD) (k : Nat) : cl windowK L (k * 4) = .int .i64 (gt windowK L k).f0 := cl_at windowK L k 0 (by decide)
theorem window_c1 (L : List WindowD) (k : Nat) : cl windowK L (k * 4 + 1) = .int .i64 (gt windowK L k).f1 := cl_at windowK L k 1 (by decide)
theorem window_c2 (L : List WindowD) (k : Nat) : cl windowK L (k * 4 + 2) = .int .i64 (gt windowK L k).f2 := cl_at windowK L k 2 (by decide)
theorem window_c3 (L : List WindowD) (k : Nat) : cl windowK L (k * 4 + 3) = .int .i64 (gt windowK L k).f3 := cl_at windowK L k 3 (by decide)
theorem window_r0 {w : World} {b o k : Nat} {L : List WindowD} (h : ∀ q, q < L.length * windowK.m → w.cell? ⟨b, o + q, none⟩ = some (cl windowK L q)) (hk : k < L.length) : w.cell? ⟨b, o + k * 4, none⟩ = some (.int .i64 (gt windowK L k).f0) := by
  have h1 := h (k * 4) (kq_at windowK (j := 0) hk (by decide))
  rw [window_c0] at h1
  exact h1
theorem window_r1 {w : World} {b o k : Nat} {L : List WindowD} (h : ∀ q, q < L.length * windowK.m → w.cell? ⟨b, o + q, none⟩ = some (cl windowK L q)) (hk : k < L.length) : w.cell? ⟨b, o + k * 4 + 1, none⟩ = some (.int .i64 (gt windowK L k).f1) := by
  have h1 := h (k * 4 + 1) (kq_at windowK (j := 1) hk (by decide))
  rw [window_c1, ← Nat.add_assoc] at h1
  exact h1
theorem window_r2 {w : World} {b o k : Nat} {L : List WindowD} (h : ∀ q, q < L.length * windowK.m → w.cell? ⟨b, o + q, none⟩ = some (cl windowK L q)) (hk : k < L.length) : w.cell? ⟨b, o + k * 4 + 2, none⟩ = some (.int .i64 (gt windowK L k).f2) := by
  have h1 := h (k * 4 + 2) (kq_at windowK (j := 2) hk (by decide))
  rw [window_c2, ← Nat.add_assoc] at h1
  exact h1
theorem window_r3 {w : World} {b o k : Nat} {L : List WindowD} (h : ∀ q, q < L.length * windowK.m → w.cell? ⟨b, o + q, none⟩ = some (cl windowK L q)) (hk : k < L.length) : w.cell? ⟨b, o + k * 4 + 3, none⟩ = some (.int .i64 (gt windowK L k).f3) := by
  have h1 := h (k * 4 + 3) (kq_at windowK (j := 3) hk (by decide))
  rw [window_c3, ← Nat.add_assoc] at h1
  exact h1
theorem Try.infoWindow : (Try.prog.info? 24).map (fun i => (i.zero, i.size, i.bytes)) = some (some (.agg #[.int .i64 0, .int .i64 0, .int .i64 0, .int .i64 0]), 4, 32) := by kernel_rfl
/-- a row of none, and all of a row put behind it -/
theorem lit0Window (w : World) (base : Nat) (hb : base ≤ w.heap.size) : Ro windowK 24 base (w.alloc (.cells #[] 24)) (.slice (some ⟨w.heap.size, 0, none⟩) 0 0) [] :=
  World.ownsRow_lit (base := base) (e := 24) (size := 4) w #[] 0 hb (by unfold maxLen; omega) rfl
/-- the marks of a row, from k0 on -/
def windowM (k0 o : Nat) : Value := .int .i64 ((k0 + o : Nat) : Int)
end Go.Proofs.Ytpjpmlopmknllaa.Rc
