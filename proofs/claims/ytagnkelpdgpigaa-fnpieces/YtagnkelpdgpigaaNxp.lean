/-
  What goes out next, as values.
-/
import Derived.Test.YtagnkelpdgpigaaGof
namespace Go.Proofs.Ytagnkelpdgpigaa.Rc
open Go.ChangeShapes Go.WideShapes Go.ChangeAt Go.RowKit Go.Deep
set_option linter.unusedVariables false
set_option maxRecDepth 100000

/-- up to where the next piece goes -/
def nxE (D : OutflowD) (m : Int) : Int := if D.f0 < D.f1 + m then (if (D.f2.size : Int) < D.f0 then D.f2.size else D.f0) else (if (D.f2.size : Int) < D.f1 + m then D.f2.size else D.f1 + m)
def nxT (D : OutflowD) (m : Int) : ByteArray := D.f2.extract D.f1.toNat (nxE D m).toNat
def nxF (D : OutflowD) (m : Int) : Bool := D.f3 && decide (nxE D m = D.f2.size)
def nxA (D : OutflowD) (m : Int) : Bool := goB D && (decide (1 ≤ m) && decide (m ≤ 200))
def nxB (D : OutflowD) (m : Int) : Bool := nxA D m && !(decide ((nxT D m).size = 0) && !nxF D m)
def outZ : OutflowD := ⟨0, 0, ⟨#[]⟩, false⟩
def nxO (D : OutflowD) (m : Int) (r : Bool) : OutflowD := if r = true then ⟨D.f0, nxE D m, D.f2, D.f3⟩ else outZ
/-- the frame -/
abbrev frV (k b : Int) (fin : Bool) (s : ByteArray) : Value := .agg #[.int .i64 k, .int .i64 0, .int .i64 b, .int .i64 0, .bool fin, .string s, .slice none 0 0]
abbrev frC (k b : Int) (fin : Bool) (s : ByteArray) : List Value := [.int .i64 k, .int .i64 0, .int .i64 b, .int .i64 0, .bool fin, .string s, .slice none 0 0]
def nxR (D : OutflowD) (m : Int) (r : Bool) : Value := if r = true then frV 8 D.f1 (nxF D m) (nxT D m) else frV 0 0 false ⟨#[]⟩
structure GoO (D : OutflowD) : Prop where
  l0 : 0 ≤ D.f0
  l1 : D.f0 ≤ 4611686018427387903
  n : D.f2.size ≤ 4000
  s0 : 0 ≤ D.f1
  s1 : D.f1 ≤ D.f2.size
  s2 : D.f1 ≤ D.f0
theorem goB_iff {D : OutflowD} : goB D = true ↔ GoO D := by
  unfold goB knI
  simp only [Bool.and_eq_true, decide_eq_true_eq]
  constructor
  · rintro ⟨⟨a, b⟩, c, ⟨d, e⟩, f⟩
    exact ⟨a, b, c, d, e, f⟩
  · rintro ⟨a, b, c, d, e, f⟩
    exact ⟨⟨a, b⟩, c, ⟨d, e⟩, f⟩
theorem nxE_in {D : OutflowD} {m : Int} (g : GoO D) (h : 1 ≤ m) : D.f1 ≤ nxE D m ∧ nxE D m ≤ D.f0 ∧ nxE D m ≤ D.f2.size ∧ nxE D m ≤ D.f1 + m := by
  obtain ⟨a, b, c, d, e, f⟩ := g
  unfold nxE
  split <;> split <;> omega
theorem st7f {U : World} {p : Nat} {z0 z1 z2 z3 z4 z5 z6 : Value} (h : Bx U p [z0, z1, z2, z3, z4, z5, z6]) (v0 v1 v2 v3 v4 v5 v6 : Value) :
    Bx ((((((((U).setCell ⟨p, 0, none⟩ v0).setCell ⟨p, 1, none⟩ v1).setCell ⟨p, 2, none⟩ v2).setCell ⟨p, 3, none⟩ v3).setCell ⟨p, 4, none⟩ v4).setCell ⟨p, 5, none⟩ v5).setCell ⟨p, 6, none⟩ v6) p [v0, v1, v2, v3, v4, v5, v6] ∧ Kq (fun q => q = p) U ((((((((U).setCell ⟨p, 0, none⟩ v0).setCell ⟨p, 1, none⟩ v1).setCell ⟨p, 2, none⟩ v2).setCell ⟨p, 3, none⟩ v3).setCell ⟨p, 4, none⟩ v4).setCell ⟨p, 5, none⟩ v5).setCell ⟨p, 6, none⟩ v6) :=
  ⟨(((((((h.set (i := 0) (by simp)).set (i := 1) (by simp)).set (i := 2) (by simp)).set (i := 3) (by simp)).set (i := 4) (by simp)).set (i := 5) (by simp)).set (i := 6) (by simp)), ((((((((Kq.refl (fun q => q = p) U).set rfl).set rfl).set rfl).set rfl).set rfl).set rfl).set rfl)⟩
theorem st4f {U : World} {p : Nat} {z0 z1 z2 z3 : Value} (h : Bx U p [z0, z1, z2, z3]) (v0 v1 v2 v3 : Value) :
    Bx (((((U).setCell ⟨p, 0, none⟩ v0).setCell ⟨p, 1, none⟩ v1).setCell ⟨p, 2, none⟩ v2).setCell ⟨p, 3, none⟩ v3) p [v0, v1, v2, v3] ∧ Kq (fun q => q = p) U (((((U).setCell ⟨p, 0, none⟩ v0).setCell ⟨p, 1, none⟩ v1).setCell ⟨p, 2, none⟩ v2).setCell ⟨p, 3, none⟩ v3) :=
  ⟨((((h.set (i := 0) (by simp)).set (i := 1) (by simp)).set (i := 2) (by simp)).set (i := 3) (by simp)), (((((Kq.refl (fun q => q = p) U).set rfl).set rfl).set rfl).set rfl)⟩
end Go.Proofs.Ytagnkelpdgpigaa.Rc
