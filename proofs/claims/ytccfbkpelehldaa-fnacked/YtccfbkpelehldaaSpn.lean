/-
  Contracts: the last packet of a space, SendNumber of the model.
-/
import Derived.Test.YtccfbkpelehldaaSps
import Derived.Deep.RegionLaw
namespace Go.Proofs.Ytccfbkpelehldaa.Rc
open Go.ChangeShapes Go.WideShapes Go.ChangeAt Go.RowKit Go.Deep
set_option linter.unusedVariables false
set_option maxRecDepth 100000

/-- the last packet -/
def laS (S : List SentD) : SentD := if S.length = 0 then ⟨-1, 0, 0⟩ else gt sentK S (S.length - 1)
set_option maxHeartbeats 2000000 in
theorem specLa (D : SpaceD) (a : Option Addr) (c : Nat) (w : World) (hn : D.S.length ≤ 1048576) (h : RdSpace w a D) :
    Calls Try.prog 27 #[spaceV D a c] w fun e w' => e = .returned (sentV (laS D.S)) ∧ Below w.heap.size w w' := by
  obtain ⟨V0, hV0⟩ : ∃ V, V = (w.alloc (.cells (spaceC D a c).toArray 27)).alloc (.cells #[.int .i64 0, .int .i64 0, .int .i64 0] 37) := ⟨_, rfl⟩
  have A0 := hide (show Bx V0 w.heap.size (spaceC D a c) by rw [hV0]; exact (Bx.new w _ _).alloc _)
  have R0 := hide (show Bx V0 (w.heap.size + 1) [.int .i64 0, .int .i64 0, .int .i64 0] by rw [hV0]; exact Bx.newAt (w.alloc _) _ _ _ (by simp))
  have B0 := hide (show Below w.heap.size w V0 by rw [hV0]; exact ((Below.refl w.heap.size w).alloc (Nat.le_refl _) _).alloc (by simp) _)
  have HR := hide (h.below (unhide B0))
  have HV0 := hide hV0
  clear h hV0
  have a0 := (unhide A0).cv
  have r0 := (unhide R0).cv
  have r0f := (unhide R0).fz
  have r0l := (unhide R0).lt
  by_cases h0 : D.S.length = 0
  · have HE : Hid (laS D.S = ⟨-1, 0, 0⟩) := if_pos h0
    rw [unhide HE]
    have g0 : ¬ (0 : Int) < (D.S.length : Int) := by omega
    clear h0 HE HR
    go_enter Try.func27, Try.ntmps27
    go_upto_region 1 with fail
    rw [← unhide HV0]
    clear HV0
    go_wp2
    refine bodyPost_ret (v := sentV ⟨-1, 0, 0⟩) (by simp [results, Try.results27, go_sem, r0]) rfl ⟨rfl, ?_⟩
    iterate 3 refine Below.setCell ?_ (by simp) _
    exact unhide B0
  · have HE : Hid (laS D.S = gt sentK D.S (D.S.length - 1)) := if_neg h0
    rw [unhide HE]
    have g0 : (0 : Int) < (D.S.length : Int) := by omega
    obtain ⟨k, hk⟩ : ∃ k, D.S.length = k + 1 := ⟨D.S.length - 1, by omega⟩
    rcases unhide HR with h9 | ⟨b, o, rfl, _, hel⟩
    · rw [h9] at h0; exact absurd rfl h0
    have c0 := sent_r0 hel (show k < D.S.length by omega)
    have c1 := sent_r1 hel (show k < D.S.length by omega)
    have c2 := sent_r2 hel (show k < D.S.length by omega)
    have ek : D.S.length - 1 = k := by omega
    rw [ek]
    have hk1 : k ≤ 1048576 := by omega
    have wk : IntKind.i64.wrap (k : Int) = k := wraps_i64 _ (by omega) (by omega)
    have hk0 : (0 : Int) ≤ (k : Int) := by omega
    have HK := hide hk
    clear h0 HE HR hel ek hn hk
    generalize gt sentK D.S k = x at *
    obtain ⟨x0, x1, x2⟩ := x
    go_enter Try.func27, Try.ntmps27
    go_upto_region 1 with fail
    rw [← unhide HV0]
    clear HV0
    have hk := unhide HK
    go_wp2
    refine bodyPost_ret (v := sentV ⟨x0, x1, x2⟩) (by simp [results, Try.results27, go_sem, r0]) rfl ⟨rfl, ?_⟩
    iterate 3 refine Below.setCell ?_ (by simp) _
    exact unhide B0
/-- whether a packet goes out, and what comes of it -/
def snB (D : SpaceD) (x : SentD) : Bool := gsB D && (decide (D.S.length ≠ 60) && (decide ((laS D.S).f0 < x.f0) && (decide (D.lg < x.f0) && (decide ((laS D.S).f1 ≤ x.f1) && gsB ⟨D.lg, D.S ++ [x], D.r⟩))))
def snD (D : SpaceD) (x : SentD) : Bool → SpaceD
  | true => ⟨D.lg, D.S ++ [x], D.r⟩
  | false => ⟨0, [], ⟨false, 0, 0, 0, 0⟩⟩
/-- what is answered -/
def SNP (D : SpaceD) (x : SentD) (W : World) (e : Ending) (w' : World) : Prop := ∃ (a : Option Addr) (c : Nat), e = .returned (.tuple #[spaceV (snD D x (snB D x)) a c, .bool (snB D x)]) ∧ Ri sentK W.heap.size w'.heap.size w' a (snD D x (snB D x)).S ∧ Below W.heap.size W w'
theorem SNP.no {D : SpaceD} {x : SentD} {W w' : World} (h : snB D x = false) (b : Below W.heap.size W w') : SNP D x W (.returned (.tuple #[.agg spaceZ.toArray, .bool false])) w' := ⟨none, 0, by rw [h]; rfl, by rw [h]; exact Or.inl rfl, b⟩
theorem SNP.yes {D : SpaceD} {x : SentD} {W w' : World} {a : Option Addr} {c : Nat} (h : snB D x = true) (hr : Ri sentK W.heap.size w'.heap.size w' a (D.S ++ [x])) (b : Below W.heap.size W w') : SNP D x W (.returned (.tuple #[spaceV ⟨D.lg, D.S ++ [x], D.r⟩ a c, .bool true])) w' := ⟨a, c, by rw [h]; rfl, by rw [h]; exact hr, b⟩
/-- what the model answers, the row with its room -/
def SNPo (D : SpaceD) (x : SentD) (W : World) (e : Ending) (w' : World) : Prop := ∃ (a : Option Addr) (c : Nat), e = .returned (.tuple #[spaceV (snD D x (snB D x)) a c, .bool (snB D x)]) ∧ Ro sentK 37 W.heap.size w' (.slice a (snD D x (snB D x)).S.length c) (snD D x (snB D x)).S ∧ Below W.heap.size W w'
theorem SNPo.no {D : SpaceD} {x : SentD} {W w' : World} (h : snB D x = false) (b : Below W.heap.size W w') : SNPo D x W (.returned (.tuple #[.agg spaceZ.toArray, .bool false])) w' := ⟨none, 0, by rw [h]; rfl, by rw [h]; exact Ro.nil sentK 37 W.heap.size w', b⟩
theorem SNPo.yes {D : SpaceD} {x : SentD} {W w' : World} {a : Option Addr} {c : Nat} (h : snB D x = true) (hr : Ro sentK 37 W.heap.size w' (.slice a (D.S ++ [x]).length c) (D.S ++ [x])) (b : Below W.heap.size W w') : SNPo D x W (.returned (.tuple #[spaceV ⟨D.lg, D.S ++ [x], D.r⟩ a c, .bool true])) w' := ⟨a, c, by rw [h]; rfl, by rw [h]; exact hr, b⟩
theorem Ro.ri {α : Type} {K : Kd α} {e : TypeId} {base : Nat} {w : World} {a : Option Addr} {n c : Nat} {L : List α} (h : Ro K e base w (.slice a n c) L) : Ri K base w.heap.size w a L ∧ L.length ≤ c := by
  obtain ⟨a', c', e', h1, h2⟩ := h.form
  injection e' with e1 e2 e3
  subst e1
  subst e3
  exact ⟨h2, h1⟩
theorem SNPo.p {D : SpaceD} {x : SentD} {W w' : World} {e : Ending} (h : SNPo D x W e w') : SNP D x W e w' := by
  obtain ⟨a, c, h1, h2, h3⟩ := h
  exact ⟨a, c, h1, h2.ri.1, h3⟩
end Go.Proofs.Ytccfbkpelehldaa.Rc
