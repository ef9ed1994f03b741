/-
  Contracts: GoodTable of the model.
-/
import Derived.Test.YtbabipaipbjlbaaTgd
import Derived.Deep.RegionHeld3
namespace Go.Proofs.Ytbabipaipbjlbaa
open Go.ChangeShapes Go.WideShapes Go.ChangeAt Go.RowKit
set_option linter.unusedVariables false
set_option maxRecDepth 100000

/-- what the model asks of an entry ahead of its servers -/
def preB (D : EnD) (h0 : Bool) : Bool := gcB D.sl D.sv D.nc D.k.size && decide (D.sl < 3) && decide (D.S.length ≤ 12) && (decide (0 ≤ D.nx) && decide (D.nx ≤ 1000000000)) && h0
theorem pre_ge (D : EnD) (h0 : Bool) : (geB D && h0) = (preB D h0 && okS D.S D.sv D.S.length) := by
  unfold geB preB gsB
  cases gcB D.sl D.sv D.nc D.k.size <;> cases decide (D.sl < 3) <;> cases decide (D.S.length ≤ 12) <;> cases okS D.S D.sv D.S.length <;> cases decide (0 ≤ D.nx) <;> cases decide (D.nx ≤ 1000000000) <;> cases h0 <;> rfl
/-- the slot ahead is less -/
def upB (L : List EnD) (k : Nat) : Bool := decide (k = 0) || decide ((eA L (k - 1)).sl < (eA L k).sl)
theorem okT_pre (L : List EnD) {k m : Nat} (h : k < m) (hp : preB (eA L k) (upB L k) = false) : okT L m = false := okT_no L h (by rw [← upB, pre_ge, hp]; rfl)
theorem okT_srv (L : List EnD) {k m : Nat} (h : k < m) (hp : okS (eA L k).S (eA L k).sv (eA L k).S.length = false) : okT L m = false := okT_no L h (by rw [← upB, pre_ge, hp, Bool.and_false])
theorem okT_yes (L : List EnD) {k : Nat} (h : okT L k = true) (hp : preB (eA L k) (upB L k) = true) (hs : okS (eA L k).S (eA L k).sv (eA L k).S.length = true) : okT L (k + 1) = true := by
  rw [okT, h, ← upB, pre_ge, hp, hs]; rfl
theorem okA_u (L : List AlD) (sv : Int) (k : Nat) (h : (decide (k = 0) || ltT (aA L (k - 1)).i (aA L k).i) = !true) : okA L sv k = false := by unfold okA; rw [h]; simp
theorem okA_y' (L : List AlD) (sv : Int) (k : Nat) (h0 : ((aA L k).i.size : Int) = sv) (h1 : bkB (aA L k).b = true) (h2 : (decide (k = 0) || ltT (aA L (k - 1)).i (aA L k).i) = !false) (h3 : hasB L (aA L k).b k = false) : okA L sv k = true := by
  unfold okA; rw [decide_eq_true h0, h1, h2, h3]; rfl
theorem okS_step (L : List AlD) (sv : Int) (k : Nat) (h : okS L sv k = true) (h1 : okA L sv k = true) : okS L sv (k + 1) = true := by rw [okS, h, h1]; rfl

set_option maxHeartbeats 8000000 in
theorem specGT (a : Option Addr) (cap : Nat) (L : List EnD) (w : World) (hG : okE L) (hS : ∀ i, i < L.length → (eA L i).S.length ≤ 1048576) (h : Ea w a L) :
    Calls Try.prog 56 #[.agg #[.slice a L.length cap]] w fun e w' => e = .returned (.bool (gtB L)) ∧ Below w.heap.size w w' := by
  have HR := hide h
  have HG := hide hG.2
  have HS := hide hS
  have hN := hG.1
  unfold maxLen at hN
  clear h hG hS
  have HB0 := hide ((Below.refl w.heap.size w).alloc (Nat.le_refl _) (.cells #[.slice a L.length cap] 33))
  have HX0 := hide (Bx.new w [.slice a L.length cap] 33)
  go_enter Try.func56, Try.ntmps56
  go_wp2
  go_loopw [12] (fun i wr => ∃ k : Nat, k ≤ L.length ∧ i = .int .i64 k ∧ okT L k = true ∧ Bx wr w.heap.size [.slice a L.length cap] ∧ Below w.heap.size w wr) (fun i _ => L.length - (intOf i).toNat)
  case atStart => exact ⟨0, Nat.zero_le _, rfl, rfl, unhide HX0, unhide HB0⟩
  case round =>
    obtain ⟨k, hk, rfl, hA, hX, hbel⟩ := hrel
    by_cases hlt : k < L.length
    · rcases (unhide HR).below hbel with h0 | ⟨bb, o, rfl, hel⟩
      · rw [h0] at hlt; exact absurd hlt (Nat.not_lt_zero _)
      obtain ⟨ra, cp, hc, hcp, hra⟩ := hel k hlt
      have hlb := hc.lt
      have hB := hide hbel
      have HX := hide hX
      have hnk : (k : Int) < (L.length : Int) := by omega
      have hA2 : Hid (okT L k = true) := hA
      have HRA := hide (And.intro hra hbel)
      have HNO := hide (fun h => And.intro (okT_pre L hlt h) (okT_pre L hlt h))
      have HNS := hide (fun h => okT_srv L hlt h)
      have HYE := hide (fun hp hs => okT_yes L hA hp hs)
      have HGk := hide (unhide HG k hlt)
      have hSk := unhide HS k hlt
      obtain ⟨c0, c1, c2, c3, c4, c5, c6⟩ := hc
      have UP0 : Hid (k = 0 → upB L k = true) := fun h => by unfold upB; rw [decide_eq_true h]; rfl
      have UP1 : Hid (0 < k → upB L k = decide ((eA L (k - 1)).sl < (eA L k).sl)) := fun h => by unfold upB; rw [decide_eq_false (show ¬ k = 0 by omega), Bool.false_or]
      have HJ := hide (fun j (hj : k = j + 1) => (hel j (by omega)))
      clear hbel hra hA hX hel
      generalize upB L k = up at *
      generalize hD : eA L k = D at *
      clear hD
      have HC := hide (specGC D.sl D.sv D.nc D.k D.t)
      have AL := hide ((Below.refl wr.heap.size wr).alloc (Nat.le_refl _) (.cells #[.int .i64 D.sl, .int .i64 D.sv, .int .i64 D.nc, .string D.k, .bool D.t, .slice ra D.S.length cp, .int .i64 D.nx] 126))
      have XE := hide (Bx.new wr [.int .i64 D.sl, .int .i64 D.sv, .int .i64 D.nc, .string D.k, .bool D.t, .slice ra D.S.length cp, .int .i64 D.nx] 126)
      go_upto_region 4 with fail
      go_cut [57] (fun s57 wx => (∃ r : Bool, s57 = .bool r ∧ preB D up = !r) ∧ Bx wx w.heap.size [.slice (some ⟨bb, o, none⟩) L.length cap] ∧ Bx wx wr.heap.size [.int .i64 D.sl, .int .i64 D.sv, .int .i64 D.nc, .string D.k, .bool D.t, .slice ra D.S.length cp, .int .i64 D.nx] ∧ Aa wx ra D.S ∧ Below w.heap.size w wx)
      case first =>
        by_cases q0 : gcB D.sl D.sv D.nc D.k.size = true
        case neg =>
          have q1 := Bool.eq_false_iff.2 q0
          have F : Hid (preB D up = !true) := by show _ = _; unfold preB; rw [q1]; rfl
          rw [q1] at HC
          clear q0 q1
          go_wp2_with fail
          refine wp_region_noPanic ?_
          refine wp_region_held_drew (S := fun V => Bx V w.heap.size [.slice (some ⟨bb, o, none⟩) L.length cap] ∧ Bx V wr.heap.size [.int .i64 D.sl, .int .i64 D.sv, .int .i64 D.nc, .string D.k, .bool D.t, .slice ra D.S.length cp, .int .i64 D.nx] ∧ True) (by kernel_rfl) ⟨((unhide HX).alloc _).drew, (unhide XE).drew, trivial⟩ (fun hHeld => ?_)
          refine wpAnyH_take (i := 0) (v := ?_) rfl (by kernel_rfl) (by kernel_rfl) (by kernel_rfl) (fun _ _ _ h => h) (Or.inl ⟨by rfl, ?_⟩) hHeld ?_
          rotate_left
          · intro V hSw; obtain ⟨z1, z2, z3⟩ := hSw; have y1 := z1.cv; have y2 := z2.cv; clear z1 z2; go_simp; rfl
          simp only [Act.put, List.getElem_toArray, List.getElem_cons_zero, List.setIfInBounds_toArray, List.set_cons_zero, List.set_cons_succ]
          refine wpAnyH_take (i := 1) (v := ?_) rfl (by kernel_rfl) (by kernel_rfl) (by kernel_rfl) (fun _ _ _ h => h) (Or.inl ⟨by rfl, ?_⟩) hHeld ?_
          rotate_left
          · intro V hSw; obtain ⟨z1, z2, z3⟩ := hSw; have y1 := z1.cv; have y2 := z2.cv; clear z1 z2; go_simp; rfl
          simp only [Act.put, List.getElem_toArray, List.getElem_cons_succ, List.getElem_cons_zero, List.setIfInBounds_toArray, List.set_cons_zero, List.set_cons_succ]
          refine wpAnyH_ready (rs := [2]) (by kernel_rfl) (by simp) ?_
          refine AllReadyH.cons rfl (fun K hK => ?_) AllReadyH.nil
          go_simp
          go_at_call 79
          with_reducible refine (unhide HC _).mono ?_
          rintro e w2 ⟨rfl, b2⟩
          have H2 := hide ((unhide hB).trans (((unhide AL).drew.trans (b2.mono (unhide AL).size)).mono (unhide hB).size))
          have X2 := hide ((((unhide HX).alloc _).drew).below b2)
          have Y2 := hide ((unhide XE).drew.below b2)
          have A2 := hide ((unhide HRA).1.below ((unhide AL).drew.trans (b2.mono (unhide AL).size)))
          refine hK.out _ _ (⟨hHeld.1.below b2, hHeld.2.1.below b2, trivial⟩) (fun hHeld => ?_)
          clear hK K
          try simp only [Act.put, List.getElem_toArray, List.getElem_cons_succ, List.getElem_cons_zero, List.setIfInBounds_toArray, List.set_cons_zero, List.set_cons_succ]
          refine wpAnyH_take (i := 3) (v := ?_) rfl (by kernel_rfl) (by kernel_rfl) (by kernel_rfl) (fun _ _ _ h => h) (Or.inl ⟨by rfl, ?_⟩) hHeld ?_
          rotate_left
          · intro V hSw; obtain ⟨z1, z2, z3⟩ := hSw; have y1 := z1.cv; have y2 := z2.cv; clear z1 z2; go_simp; rfl
          simp only [Act.put, List.getElem_toArray, List.getElem_cons_succ, List.getElem_cons_zero, List.setIfInBounds_toArray, List.set_cons_zero, List.set_cons_succ]
          refine wpAnyH_take (i := 4) (v := ?_) rfl (by kernel_rfl) (by kernel_rfl) (by kernel_rfl) (fun _ _ _ h => h) (Or.inl ⟨by rfl, ?_⟩) hHeld ?_
          rotate_left
          · intro V hSw; obtain ⟨z1, z2, z3⟩ := hSw; have y1 := z1.cv; have y2 := z2.cv; clear z1 z2; go_simp; rfl
          simp only [Act.put, List.getElem_toArray, List.getElem_cons_succ, List.getElem_cons_zero, List.setIfInBounds_toArray, List.set_cons_zero, List.set_cons_succ]
          refine wpAnyH_take (i := 5) (v := undef) rfl (by kernel_rfl) (by kernel_rfl) (by kernel_rfl) (fun _ _ _ h => h) (Or.inr ⟨by rfl, rfl⟩) hHeld ?_
          simp only [Act.put, List.getElem_toArray, List.getElem_cons_succ, List.getElem_cons_zero, List.setIfInBounds_toArray, List.set_cons_zero, List.set_cons_succ]
          refine wpAnyH_take (i := 6) (v := undef) rfl (by kernel_rfl) (by kernel_rfl) (by kernel_rfl) (fun _ _ _ h => h) (Or.inr ⟨by rfl, rfl⟩) hHeld ?_
          simp only [Act.put, List.getElem_toArray, List.getElem_cons_succ, List.getElem_cons_zero, List.setIfInBounds_toArray, List.set_cons_zero, List.set_cons_succ]
          refine wpAnyH_take (i := 7) (v := undef) rfl (by kernel_rfl) (by kernel_rfl) (by kernel_rfl) (fun _ _ _ h => h) (Or.inr ⟨by rfl, rfl⟩) hHeld ?_
          simp only [Act.put, List.getElem_toArray, List.getElem_cons_succ, List.getElem_cons_zero, List.setIfInBounds_toArray, List.set_cons_zero, List.set_cons_succ]
          refine wpAnyH_take (i := 8) (v := undef) rfl (by kernel_rfl) (by kernel_rfl) (by kernel_rfl) (fun _ _ _ h => h) (Or.inr ⟨by rfl, rfl⟩) hHeld ?_
          simp only [Act.put, List.getElem_toArray, List.getElem_cons_succ, List.getElem_cons_zero, List.setIfInBounds_toArray, List.set_cons_zero, List.set_cons_succ]
          refine wpAnyH_take (i := 9) (v := undef) rfl (by kernel_rfl) (by kernel_rfl) (by kernel_rfl) (fun _ _ _ h => h) (Or.inr ⟨by rfl, rfl⟩) hHeld ?_
          simp only [Act.put, List.getElem_toArray, List.getElem_cons_succ, List.getElem_cons_zero, List.setIfInBounds_toArray, List.set_cons_zero, List.set_cons_succ]
          refine wpAnyH_take (i := 10) (v := ?_) rfl (by kernel_rfl) (by kernel_rfl) (by kernel_rfl) (fun _ _ _ h => h) (Or.inl ⟨by rfl, ?_⟩) hHeld ?_
          rotate_left
          · intro V hSw; obtain ⟨z1, z2, z3⟩ := hSw; have y1 := z1.cv; have y2 := z2.cv; clear z1 z2; go_simp; rfl
          simp only [Act.put, List.getElem_toArray, List.getElem_cons_succ, List.getElem_cons_zero, List.setIfInBounds_toArray, List.set_cons_zero, List.set_cons_succ]
          refine wpAnyH_take (i := 11) (v := ?_) rfl (by kernel_rfl) (by kernel_rfl) (by kernel_rfl) (fun _ _ _ h => h) (Or.inl ⟨by rfl, ?_⟩) hHeld ?_
          rotate_left
          · intro V hSw; obtain ⟨z1, z2, z3⟩ := hSw; have y1 := z1.cv; have y2 := z2.cv; clear z1 z2; go_simp; rfl
          simp only [Act.put, List.getElem_toArray, List.getElem_cons_succ, List.getElem_cons_zero, List.setIfInBounds_toArray, List.set_cons_zero, List.set_cons_succ]
          refine wpAnyH_take (i := 12) (v := undef) rfl (by kernel_rfl) (by kernel_rfl) (by kernel_rfl) (fun _ _ _ h => h) (Or.inr ⟨by rfl, rfl⟩) hHeld ?_
          simp only [Act.put, List.getElem_toArray, List.getElem_cons_succ, List.getElem_cons_zero, List.setIfInBounds_toArray, List.set_cons_zero, List.set_cons_succ]
          refine wpAnyH_take (i := 13) (v := undef) rfl (by kernel_rfl) (by kernel_rfl) (by kernel_rfl) (fun _ _ _ h => h) (Or.inr ⟨by rfl, rfl⟩) hHeld ?_
          simp only [Act.put, List.getElem_toArray, List.getElem_cons_succ, List.getElem_cons_zero, List.setIfInBounds_toArray, List.set_cons_zero, List.set_cons_succ]
          refine wpAnyH_take (i := 14) (v := undef) rfl (by kernel_rfl) (by kernel_rfl) (by kernel_rfl) (fun _ _ _ h => h) (Or.inr ⟨by rfl, rfl⟩) hHeld ?_
          simp only [Act.put, List.getElem_toArray, List.getElem_cons_succ, List.getElem_cons_zero, List.setIfInBounds_toArray, List.set_cons_zero, List.set_cons_succ]
          refine wpAnyH_take (i := 15) (v := undef) rfl (by kernel_rfl) (by kernel_rfl) (by kernel_rfl) (fun _ _ _ h => h) (Or.inr ⟨by rfl, rfl⟩) hHeld ?_
          simp only [Act.put, List.getElem_toArray, List.getElem_cons_succ, List.getElem_cons_zero, List.setIfInBounds_toArray, List.set_cons_zero, List.set_cons_succ]
          refine wpAnyH_take (i := 16) (v := ?_) rfl (by kernel_rfl) (by kernel_rfl) (by kernel_rfl) (fun _ _ _ h => h) (Or.inl ⟨by rfl, ?_⟩) hHeld ?_
          rotate_left
          · intro V hSw; obtain ⟨z1, z2, z3⟩ := hSw; have y1 := z1.cv; have y2 := z2.cv; clear z1 z2; go_simp; rfl
          simp only [Act.put, List.getElem_toArray, List.getElem_cons_succ, List.getElem_cons_zero, List.setIfInBounds_toArray, List.set_cons_zero, List.set_cons_succ]
          refine wpAnyH_take (i := 17) (v := ?_) rfl (by kernel_rfl) (by kernel_rfl) (by kernel_rfl) (fun _ _ _ h => h) (Or.inl ⟨by rfl, ?_⟩) hHeld ?_
          rotate_left
          · intro V hSw; obtain ⟨z1, z2, z3⟩ := hSw; have y1 := z1.cv; have y2 := z2.cv; clear z1 z2; go_simp; rfl
          simp only [Act.put, List.getElem_toArray, List.getElem_cons_succ, List.getElem_cons_zero, List.setIfInBounds_toArray, List.set_cons_zero, List.set_cons_succ]
          refine wpAnyH_take (i := 18) (v := undef) rfl (by kernel_rfl) (by kernel_rfl) (by kernel_rfl) (fun _ _ _ h => h) (Or.inr ⟨by rfl, rfl⟩) hHeld ?_
          simp only [Act.put, List.getElem_toArray, List.getElem_cons_succ, List.getElem_cons_zero, List.setIfInBounds_toArray, List.set_cons_zero, List.set_cons_succ]
          refine wpAnyH_take (i := 19) (v := undef) rfl (by kernel_rfl) (by kernel_rfl) (by kernel_rfl) (fun _ _ _ h => h) (Or.inr ⟨by rfl, rfl⟩) hHeld ?_
          simp only [Act.put, List.getElem_toArray, List.getElem_cons_succ, List.getElem_cons_zero, List.setIfInBounds_toArray, List.set_cons_zero, List.set_cons_succ]
          refine wpAnyH_take (i := 20) (v := undef) rfl (by kernel_rfl) (by kernel_rfl) (by kernel_rfl) (fun _ _ _ h => h) (Or.inr ⟨by rfl, rfl⟩) hHeld ?_
          simp only [Act.put, List.getElem_toArray, List.getElem_cons_succ, List.getElem_cons_zero, List.setIfInBounds_toArray, List.set_cons_zero, List.set_cons_succ]
          refine wpAnyH_take (i := 21) (v := undef) rfl (by kernel_rfl) (by kernel_rfl) (by kernel_rfl) (fun _ _ _ h => h) (Or.inr ⟨by rfl, rfl⟩) hHeld ?_
          simp only [Act.put, List.getElem_toArray, List.getElem_cons_succ, List.getElem_cons_zero, List.setIfInBounds_toArray, List.set_cons_zero, List.set_cons_succ]
          refine wpAnyH_take (i := 22) (v := ?_) rfl (by kernel_rfl) (by kernel_rfl) (by kernel_rfl) (fun _ _ _ h => h) (Or.inl ⟨by rfl, ?_⟩) hHeld ?_
          rotate_left
          · intro V hSw; obtain ⟨z1, z2, z3⟩ := hSw; have y1 := z1.cv; have y2 := z2.cv; clear z1 z2; go_simp; rfl
          simp only [Act.put, List.getElem_toArray, List.getElem_cons_succ, List.getElem_cons_zero, List.setIfInBounds_toArray, List.set_cons_zero, List.set_cons_succ]
          refine wpAnyH_take (i := 23) (v := ?_) rfl (by kernel_rfl) (by kernel_rfl) (by kernel_rfl) (fun _ _ _ h => h) (Or.inl ⟨by rfl, ?_⟩) hHeld ?_
          rotate_left
          · intro V hSw; obtain ⟨z1, z2, z3⟩ := hSw; have y1 := z1.cv; have y2 := z2.cv; clear z1 z2; go_simp; rfl
          simp only [Act.put, List.getElem_toArray, List.getElem_cons_succ, List.getElem_cons_zero, List.setIfInBounds_toArray, List.set_cons_zero, List.set_cons_succ]
          refine wpAnyH_take (i := 24) (v := undef) rfl (by kernel_rfl) (by kernel_rfl) (by kernel_rfl) (fun _ _ _ h => h) (Or.inr ⟨by rfl, rfl⟩) hHeld ?_
          simp only [Act.put, List.getElem_toArray, List.getElem_cons_succ, List.getElem_cons_zero, List.setIfInBounds_toArray, List.set_cons_zero, List.set_cons_succ]
          refine wpAnyH_take (i := 25) (v := undef) rfl (by kernel_rfl) (by kernel_rfl) (by kernel_rfl) (fun _ _ _ h => h) (Or.inr ⟨by rfl, rfl⟩) hHeld ?_
          simp only [Act.put, List.getElem_toArray, List.getElem_cons_succ, List.getElem_cons_zero, List.setIfInBounds_toArray, List.set_cons_zero, List.set_cons_succ]
          refine wpAnyH_take (i := 26) (v := undef) rfl (by kernel_rfl) (by kernel_rfl) (by kernel_rfl) (fun _ _ _ h => h) (Or.inr ⟨by rfl, rfl⟩) hHeld ?_
          simp only [Act.put, List.getElem_toArray, List.getElem_cons_succ, List.getElem_cons_zero, List.setIfInBounds_toArray, List.set_cons_zero, List.set_cons_succ]
          refine wpAnyH_take (i := 27) (v := undef) rfl (by kernel_rfl) (by kernel_rfl) (by kernel_rfl) (fun _ _ _ h => h) (Or.inr ⟨by rfl, rfl⟩) hHeld ?_
          simp only [Act.put, List.getElem_toArray, List.getElem_cons_succ, List.getElem_cons_zero, List.setIfInBounds_toArray, List.set_cons_zero, List.set_cons_succ]
          refine wpAnyH_take (i := 28) (v := undef) rfl (by kernel_rfl) (by kernel_rfl) (by kernel_rfl) (fun _ _ _ h => h) (Or.inr ⟨by rfl, rfl⟩) hHeld ?_
          simp only [Act.put, List.getElem_toArray, List.getElem_cons_succ, List.getElem_cons_zero, List.setIfInBounds_toArray, List.set_cons_zero, List.set_cons_succ]
          refine wpAnyH_take (i := 29) (v := undef) rfl (by kernel_rfl) (by kernel_rfl) (by kernel_rfl) (fun _ _ _ h => h) (Or.inr ⟨by rfl, rfl⟩) hHeld ?_
          simp only [Act.put, List.getElem_toArray, List.getElem_cons_succ, List.getElem_cons_zero, List.setIfInBounds_toArray, List.set_cons_zero, List.set_cons_succ]
          refine wpAnyH_take (i := 30) (v := undef) rfl (by kernel_rfl) (by kernel_rfl) (by kernel_rfl) (fun _ _ _ h => h) (Or.inr ⟨by rfl, rfl⟩) hHeld ?_
          simp only [Act.put, List.getElem_toArray, List.getElem_cons_succ, List.getElem_cons_zero, List.setIfInBounds_toArray, List.set_cons_zero, List.set_cons_succ]
          refine wpAnyH_take (i := 31) (v := undef) rfl (by kernel_rfl) (by kernel_rfl) (by kernel_rfl) (fun _ _ _ h => h) (Or.inr ⟨by rfl, rfl⟩) hHeld ?_
          simp only [Act.put, List.getElem_toArray, List.getElem_cons_succ, List.getElem_cons_zero, List.setIfInBounds_toArray, List.set_cons_zero, List.set_cons_succ]
          refine wpAnyH_take (i := 32) (v := undef) rfl (by kernel_rfl) (by kernel_rfl) (by kernel_rfl) (fun _ _ _ h => h) (Or.inr ⟨by rfl, rfl⟩) hHeld ?_
          simp only [Act.put, List.getElem_toArray, List.getElem_cons_succ, List.getElem_cons_zero, List.setIfInBounds_toArray, List.set_cons_zero, List.set_cons_succ]
          refine wpAnyH_take (i := 33) (v := undef) rfl (by kernel_rfl) (by kernel_rfl) (by kernel_rfl) (fun _ _ _ h => h) (Or.inr ⟨by rfl, rfl⟩) hHeld ?_
          simp only [Act.put, List.getElem_toArray, List.getElem_cons_succ, List.getElem_cons_zero, List.setIfInBounds_toArray, List.set_cons_zero, List.set_cons_succ]
          refine wpAnyH_take (i := 34) (v := undef) rfl (by kernel_rfl) (by kernel_rfl) (by kernel_rfl) (fun _ _ _ h => h) (Or.inr ⟨by rfl, rfl⟩) hHeld ?_
          simp only [Act.put, List.getElem_toArray, List.getElem_cons_succ, List.getElem_cons_zero, List.setIfInBounds_toArray, List.set_cons_zero, List.set_cons_succ]
          refine wpAnyH_take (i := 35) (v := undef) rfl (by kernel_rfl) (by kernel_rfl) (by kernel_rfl) (fun _ _ _ h => h) (Or.inr ⟨by rfl, rfl⟩) hHeld ?_
          simp only [Act.put, List.getElem_toArray, List.getElem_cons_succ, List.getElem_cons_zero, List.setIfInBounds_toArray, List.set_cons_zero, List.set_cons_succ]
          refine wpAnyH_take (i := 36) (v := undef) rfl (by kernel_rfl) (by kernel_rfl) (by kernel_rfl) (fun _ _ _ h => h) (Or.inr ⟨by rfl, rfl⟩) hHeld ?_
          simp only [Act.put, List.getElem_toArray, List.getElem_cons_succ, List.getElem_cons_zero, List.setIfInBounds_toArray, List.set_cons_zero, List.set_cons_succ]
          refine wpAnyH_take (i := 37) (v := undef) rfl (by kernel_rfl) (by kernel_rfl) (by kernel_rfl) (fun _ _ _ h => h) (Or.inr ⟨by rfl, rfl⟩) hHeld ?_
          simp only [Act.put, List.getElem_toArray, List.getElem_cons_succ, List.getElem_cons_zero, List.setIfInBounds_toArray, List.set_cons_zero, List.set_cons_succ]
          refine wpAnyH_take (i := 38) (v := undef) rfl (by kernel_rfl) (by kernel_rfl) (by kernel_rfl) (fun _ _ _ h => h) (Or.inr ⟨by rfl, rfl⟩) hHeld ?_
          simp only [Act.put, List.getElem_toArray, List.getElem_cons_succ, List.getElem_cons_zero, List.setIfInBounds_toArray, List.set_cons_zero, List.set_cons_succ]
          refine wpAnyH_take (i := 39) (v := undef) rfl (by kernel_rfl) (by kernel_rfl) (by kernel_rfl) (fun _ _ _ h => h) (Or.inr ⟨by rfl, rfl⟩) hHeld ?_
          simp only [Act.put, List.getElem_toArray, List.getElem_cons_succ, List.getElem_cons_zero, List.setIfInBounds_toArray, List.set_cons_zero, List.set_cons_succ]
          refine wpAnyH_take (i := 40) (v := ?_) rfl (by kernel_rfl) (by kernel_rfl) (by kernel_rfl) (fun _ _ _ h => h) (Or.inl ⟨by rfl, ?_⟩) hHeld ?_
          rotate_left
          · intro V hSw; obtain ⟨z1, z2, z3⟩ := hSw; have y1 := z1.cv; have y2 := z2.cv; clear z1 z2; go_simp; rfl
          simp only [Act.put, List.getElem_toArray, List.getElem_cons_succ, List.getElem_cons_zero, List.setIfInBounds_toArray, List.set_cons_zero, List.set_cons_succ]
          refine wpAnyH_done (by kernel_rfl) ?_ _
          refine NoPanic.normal ?_
          clear hHeld
          clear b2
          go_wp2_with fail
          go_meet
          exact ⟨⟨true, rfl, unhide F⟩, unhide X2, unhide Y2, unhide A2, unhide H2⟩
        rw [q0] at HC
        have sl0 : 0 ≤ D.sl := ((gcB_iff _ _ _ _).1 q0).1
        by_cases q2 : D.sl < 3
        case neg =>
          have F : Hid (preB D up = !true) := by show _ = _; unfold preB; rw [decide_eq_false q2, Bool.and_false]; rfl
          have HI := hide (inNo D.sl 0 2 (by omega))
          clear q0 q2
          go_wp2_with fail
          refine wp_region_noPanic ?_
          refine wp_region_held_drew (S := fun V => Bx V w.heap.size [.slice (some ⟨bb, o, none⟩) L.length cap] ∧ Bx V wr.heap.size [.int .i64 D.sl, .int .i64 D.sv, .int .i64 D.nc, .string D.k, .bool D.t, .slice ra D.S.length cp, .int .i64 D.nx] ∧ True) (by kernel_rfl) ⟨((unhide HX).alloc _).drew, (unhide XE).drew, trivial⟩ (fun hHeld => ?_)
          refine wpAnyH_take (i := 0) (v := ?_) rfl (by kernel_rfl) (by kernel_rfl) (by kernel_rfl) (fun _ _ _ h => h) (Or.inl ⟨by rfl, ?_⟩) hHeld ?_
          rotate_left
          · intro V hSw; obtain ⟨z1, z2, z3⟩ := hSw; have y1 := z1.cv; have y2 := z2.cv; clear z1 z2; go_simp; rfl
          simp only [Act.put, List.getElem_toArray, List.getElem_cons_zero, List.setIfInBounds_toArray, List.set_cons_zero, List.set_cons_succ]
          refine wpAnyH_take (i := 1) (v := ?_) rfl (by kernel_rfl) (by kernel_rfl) (by kernel_rfl) (fun _ _ _ h => h) (Or.inl ⟨by rfl, ?_⟩) hHeld ?_
          rotate_left
          · intro V hSw; obtain ⟨z1, z2, z3⟩ := hSw; have y1 := z1.cv; have y2 := z2.cv; clear z1 z2; go_simp; rfl
          simp only [Act.put, List.getElem_toArray, List.getElem_cons_succ, List.getElem_cons_zero, List.setIfInBounds_toArray, List.set_cons_zero, List.set_cons_succ]
          refine wpAnyH_ready (rs := [2]) (by kernel_rfl) (by simp) ?_
          refine AllReadyH.cons rfl (fun K hK => ?_) AllReadyH.nil
          go_simp
          go_at_call 79
          with_reducible refine (unhide HC _).mono ?_
          rintro e w2 ⟨rfl, b2⟩
          have H2 := hide ((unhide hB).trans (((unhide AL).drew.trans (b2.mono (unhide AL).size)).mono (unhide hB).size))
          have X2 := hide ((((unhide HX).alloc _).drew).below b2)
          have Y2 := hide ((unhide XE).drew.below b2)
          have A2 := hide ((unhide HRA).1.below ((unhide AL).drew.trans (b2.mono (unhide AL).size)))
          refine hK.out _ _ (⟨hHeld.1.below b2, hHeld.2.1.below b2, trivial⟩) (fun hHeld => ?_)
          clear hK K
          try simp only [Act.put, List.getElem_toArray, List.getElem_cons_succ, List.getElem_cons_zero, List.setIfInBounds_toArray, List.set_cons_zero, List.set_cons_succ]
          refine wpAnyH_take (i := 3) (v := ?_) rfl (by kernel_rfl) (by kernel_rfl) (by kernel_rfl) (fun _ _ _ h => h) (Or.inl ⟨by rfl, ?_⟩) hHeld ?_
          rotate_left
          · intro V hSw; obtain ⟨z1, z2, z3⟩ := hSw; have y1 := z1.cv; have y2 := z2.cv; clear z1 z2; go_simp; rfl
          simp only [Act.put, List.getElem_toArray, List.getElem_cons_succ, List.getElem_cons_zero, List.setIfInBounds_toArray, List.set_cons_zero, List.set_cons_succ]
          refine wpAnyH_take (i := 4) (v := ?_) rfl (by kernel_rfl) (by kernel_rfl) (by kernel_rfl) (fun _ _ _ h => h) (Or.inl ⟨by rfl, ?_⟩) hHeld ?_
          rotate_left
          · intro V hSw; obtain ⟨z1, z2, z3⟩ := hSw; have y1 := z1.cv; have y2 := z2.cv; clear z1 z2; go_simp; rfl
          simp only [Act.put, List.getElem_toArray, List.getElem_cons_succ, List.getElem_cons_zero, List.setIfInBounds_toArray, List.set_cons_zero, List.set_cons_succ]
          refine wpAnyH_take (i := 5) (v := ?_) rfl (by kernel_rfl) (by kernel_rfl) (by kernel_rfl) (fun _ _ _ h => h) (Or.inl ⟨by rfl, ?_⟩) hHeld ?_
          rotate_left
          · intro V hSw; obtain ⟨z1, z2, z3⟩ := hSw; have y1 := z1.cv; have y2 := z2.cv; clear z1 z2; go_simp; rfl
          simp only [Act.put, List.getElem_toArray, List.getElem_cons_succ, List.getElem_cons_zero, List.setIfInBounds_toArray, List.set_cons_zero, List.set_cons_succ]
          refine wpAnyH_take (i := 6) (v := ?_) rfl (by kernel_rfl) (by kernel_rfl) (by kernel_rfl) (fun _ _ _ h => h) (Or.inl ⟨by rfl, ?_⟩) hHeld ?_
          rotate_left
          · intro V hSw; obtain ⟨z1, z2, z3⟩ := hSw; have y1 := z1.cv; have y2 := z2.cv; clear z1 z2; go_simp; rfl
          simp only [Act.put, List.getElem_toArray, List.getElem_cons_succ, List.getElem_cons_zero, List.setIfInBounds_toArray, List.set_cons_zero, List.set_cons_succ]
          refine wpAnyH_take (i := 7) (v := ?_) rfl (by kernel_rfl) (by kernel_rfl) (by kernel_rfl) (fun _ _ _ h => h) (Or.inl ⟨by rfl, ?_⟩) hHeld ?_
          rotate_left
          · intro V hSw; obtain ⟨z1, z2, z3⟩ := hSw; have y1 := z1.cv; have y2 := z2.cv; clear z1 z2; go_simp; rfl
          simp only [Act.put, List.getElem_toArray, List.getElem_cons_succ, List.getElem_cons_zero, List.setIfInBounds_toArray, List.set_cons_zero, List.set_cons_succ]
          refine wpAnyH_ready (rs := [8]) (by kernel_rfl) (by simp) ?_
          refine AllReadyH.cons rfl (fun K hK => ?_) AllReadyH.nil
          go_simp
          go_at_call 34
          with_reducible refine (unhide HI _).mono ?_
          rintro e w9 ⟨rfl, h9⟩
          rw [h9]
          clear h9 w9
          refine hK.out _ _ (hHeld) (fun hHeld => ?_)
          clear hK K
          try simp only [Act.put, List.getElem_toArray, List.getElem_cons_succ, List.getElem_cons_zero, List.setIfInBounds_toArray, List.set_cons_zero, List.set_cons_succ]
          refine wpAnyH_take (i := 9) (v := ?_) rfl (by kernel_rfl) (by kernel_rfl) (by kernel_rfl) (fun _ _ _ h => h) (Or.inl ⟨by rfl, ?_⟩) hHeld ?_
          rotate_left
          · intro V hSw; obtain ⟨z1, z2, z3⟩ := hSw; have y1 := z1.cv; have y2 := z2.cv; clear z1 z2; go_simp; rfl
          simp only [Act.put, List.getElem_toArray, List.getElem_cons_succ, List.getElem_cons_zero, List.setIfInBounds_toArray, List.set_cons_zero, List.set_cons_succ]
          refine wpAnyH_take (i := 10) (v := ?_) rfl (by kernel_rfl) (by kernel_rfl) (by kernel_rfl) (fun _ _ _ h => h) (Or.inl ⟨by rfl, ?_⟩) hHeld ?_
          rotate_left
          · intro V hSw; obtain ⟨z1, z2, z3⟩ := hSw; have y1 := z1.cv; have y2 := z2.cv; clear z1 z2; go_simp; rfl
          simp only [Act.put, List.getElem_toArray, List.getElem_cons_succ, List.getElem_cons_zero, List.setIfInBounds_toArray, List.set_cons_zero, List.set_cons_succ]
          refine wpAnyH_take (i := 11) (v := ?_) rfl (by kernel_rfl) (by kernel_rfl) (by kernel_rfl) (fun _ _ _ h => h) (Or.inl ⟨by rfl, ?_⟩) hHeld ?_
          rotate_left
          · intro V hSw; obtain ⟨z1, z2, z3⟩ := hSw; have y1 := z1.cv; have y2 := z2.cv; clear z1 z2; go_simp; rfl
          simp only [Act.put, List.getElem_toArray, List.getElem_cons_succ, List.getElem_cons_zero, List.setIfInBounds_toArray, List.set_cons_zero, List.set_cons_succ]
          refine wpAnyH_take (i := 12) (v := undef) rfl (by kernel_rfl) (by kernel_rfl) (by kernel_rfl) (fun _ _ _ h => h) (Or.inr ⟨by rfl, rfl⟩) hHeld ?_
          simp only [Act.put, List.getElem_toArray, List.getElem_cons_succ, List.getElem_cons_zero, List.setIfInBounds_toArray, List.set_cons_zero, List.set_cons_succ]
          refine wpAnyH_take (i := 13) (v := undef) rfl (by kernel_rfl) (by kernel_rfl) (by kernel_rfl) (fun _ _ _ h => h) (Or.inr ⟨by rfl, rfl⟩) hHeld ?_
          simp only [Act.put, List.getElem_toArray, List.getElem_cons_succ, List.getElem_cons_zero, List.setIfInBounds_toArray, List.set_cons_zero, List.set_cons_succ]
          refine wpAnyH_take (i := 14) (v := undef) rfl (by kernel_rfl) (by kernel_rfl) (by kernel_rfl) (fun _ _ _ h => h) (Or.inr ⟨by rfl, rfl⟩) hHeld ?_
          simp only [Act.put, List.getElem_toArray, List.getElem_cons_succ, List.getElem_cons_zero, List.setIfInBounds_toArray, List.set_cons_zero, List.set_cons_succ]
          refine wpAnyH_take (i := 15) (v := undef) rfl (by kernel_rfl) (by kernel_rfl) (by kernel_rfl) (fun _ _ _ h => h) (Or.inr ⟨by rfl, rfl⟩) hHeld ?_
          simp only [Act.put, List.getElem_toArray, List.getElem_cons_succ, List.getElem_cons_zero, List.setIfInBounds_toArray, List.set_cons_zero, List.set_cons_succ]
          refine wpAnyH_take (i := 16) (v := ?_) rfl (by kernel_rfl) (by kernel_rfl) (by kernel_rfl) (fun _ _ _ h => h) (Or.inl ⟨by rfl, ?_⟩) hHeld ?_
          rotate_left
          · intro V hSw; obtain ⟨z1, z2, z3⟩ := hSw; have y1 := z1.cv; have y2 := z2.cv; clear z1 z2; go_simp; rfl
          simp only [Act.put, List.getElem_toArray, List.getElem_cons_succ, List.getElem_cons_zero, List.setIfInBounds_toArray, List.set_cons_zero, List.set_cons_succ]
          refine wpAnyH_take (i := 17) (v := ?_) rfl (by kernel_rfl) (by kernel_rfl) (by kernel_rfl) (fun _ _ _ h => h) (Or.inl ⟨by rfl, ?_⟩) hHeld ?_
          rotate_left
          · intro V hSw; obtain ⟨z1, z2, z3⟩ := hSw; have y1 := z1.cv; have y2 := z2.cv; clear z1 z2; go_simp; rfl
          simp only [Act.put, List.getElem_toArray, List.getElem_cons_succ, List.getElem_cons_zero, List.setIfInBounds_toArray, List.set_cons_zero, List.set_cons_succ]
          refine wpAnyH_take (i := 18) (v := undef) rfl (by kernel_rfl) (by kernel_rfl) (by kernel_rfl) (fun _ _ _ h => h) (Or.inr ⟨by rfl, rfl⟩) hHeld ?_
          simp only [Act.put, List.getElem_toArray, List.getElem_cons_succ, List.getElem_cons_zero, List.setIfInBounds_toArray, List.set_cons_zero, List.set_cons_succ]
          refine wpAnyH_take (i := 19) (v := undef) rfl (by kernel_rfl) (by kernel_rfl) (by kernel_rfl) (fun _ _ _ h => h) (Or.inr ⟨by rfl, rfl⟩) hHeld ?_
          simp only [Act.put, List.getElem_toArray, List.getElem_cons_succ, List.getElem_cons_zero, List.setIfInBounds_toArray, List.set_cons_zero, List.set_cons_succ]
          refine wpAnyH_take (i := 20) (v := undef) rfl (by kernel_rfl) (by kernel_rfl) (by kernel_rfl) (fun _ _ _ h => h) (Or.inr ⟨by rfl, rfl⟩) hHeld ?_
          simp only [Act.put, List.getElem_toArray, List.getElem_cons_succ, List.getElem_cons_zero, List.setIfInBounds_toArray, List.set_cons_zero, List.set_cons_succ]
          refine wpAnyH_take (i := 21) (v := undef) rfl (by kernel_rfl) (by kernel_rfl) (by kernel_rfl) (fun _ _ _ h => h) (Or.inr ⟨by rfl, rfl⟩) hHeld ?_
          simp only [Act.put, List.getElem_toArray, List.getElem_cons_succ, List.getElem_cons_zero, List.setIfInBounds_toArray, List.set_cons_zero, List.set_cons_succ]
          refine wpAnyH_take (i := 22) (v := ?_) rfl (by kernel_rfl) (by kernel_rfl) (by kernel_rfl) (fun _ _ _ h => h) (Or.inl ⟨by rfl, ?_⟩) hHeld ?_
          rotate_left
          · intro V hSw; obtain ⟨z1, z2, z3⟩ := hSw; have y1 := z1.cv; have y2 := z2.cv; clear z1 z2; go_simp; rfl
          simp only [Act.put, List.getElem_toArray, List.getElem_cons_succ, List.getElem_cons_zero, List.setIfInBounds_toArray, List.set_cons_zero, List.set_cons_succ]
          refine wpAnyH_take (i := 23) (v := ?_) rfl (by kernel_rfl) (by kernel_rfl) (by kernel_rfl) (fun _ _ _ h => h) (Or.inl ⟨by rfl, ?_⟩) hHeld ?_
          rotate_left
          · intro V hSw; obtain ⟨z1, z2, z3⟩ := hSw; have y1 := z1.cv; have y2 := z2.cv; clear z1 z2; go_simp; rfl
          simp only [Act.put, List.getElem_toArray, List.getElem_cons_succ, List.getElem_cons_zero, List.setIfInBounds_toArray, List.set_cons_zero, List.set_cons_succ]
          refine wpAnyH_take (i := 24) (v := undef) rfl (by kernel_rfl) (by kernel_rfl) (by kernel_rfl) (fun _ _ _ h => h) (Or.inr ⟨by rfl, rfl⟩) hHeld ?_
          simp only [Act.put, List.getElem_toArray, List.getElem_cons_succ, List.getElem_cons_zero, List.setIfInBounds_toArray, List.set_cons_zero, List.set_cons_succ]
          refine wpAnyH_take (i := 25) (v := undef) rfl (by kernel_rfl) (by kernel_rfl) (by kernel_rfl) (fun _ _ _ h => h) (Or.inr ⟨by rfl, rfl⟩) hHeld ?_
          simp only [Act.put, List.getElem_toArray, List.getElem_cons_succ, List.getElem_cons_zero, List.setIfInBounds_toArray, List.set_cons_zero, List.set_cons_succ]
          refine wpAnyH_take (i := 26) (v := undef) rfl (by kernel_rfl) (by kernel_rfl) (by kernel_rfl) (fun _ _ _ h => h) (Or.inr ⟨by rfl, rfl⟩) hHeld ?_
          simp only [Act.put, List.getElem_toArray, List.getElem_cons_succ, List.getElem_cons_zero, List.setIfInBounds_toArray, List.set_cons_zero, List.set_cons_succ]
          refine wpAnyH_take (i := 27) (v := undef) rfl (by kernel_rfl) (by kernel_rfl) (by kernel_rfl) (fun _ _ _ h => h) (Or.inr ⟨by rfl, rfl⟩) hHeld ?_
          simp only [Act.put, List.getElem_toArray, List.getElem_cons_succ, List.getElem_cons_zero, List.setIfInBounds_toArray, List.set_cons_zero, List.set_cons_succ]
          refine wpAnyH_take (i := 28) (v := undef) rfl (by kernel_rfl) (by kernel_rfl) (by kernel_rfl) (fun _ _ _ h => h) (Or.inr ⟨by rfl, rfl⟩) hHeld ?_
          simp only [Act.put, List.getElem_toArray, List.getElem_cons_succ, List.getElem_cons_zero, List.setIfInBounds_toArray, List.set_cons_zero, List.set_cons_succ]
          refine wpAnyH_take (i := 29) (v := undef) rfl (by kernel_rfl) (by kernel_rfl) (by kernel_rfl) (fun _ _ _ h => h) (Or.inr ⟨by rfl, rfl⟩) hHeld ?_
          simp only [Act.put, List.getElem_toArray, List.getElem_cons_succ, List.getElem_cons_zero, List.setIfInBounds_toArray, List.set_cons_zero, List.set_cons_succ]
          refine wpAnyH_take (i := 30) (v := undef) rfl (by kernel_rfl) (by kernel_rfl) (by kernel_rfl) (fun _ _ _ h => h) (Or.inr ⟨by rfl, rfl⟩) hHeld ?_
          simp only [Act.put, List.getElem_toArray, List.getElem_cons_succ, List.getElem_cons_zero, List.setIfInBounds_toArray, List.set_cons_zero, List.set_cons_succ]
          refine wpAnyH_take (i := 31) (v := undef) rfl (by kernel_rfl) (by kernel_rfl) (by kernel_rfl) (fun _ _ _ h => h) (Or.inr ⟨by rfl, rfl⟩) hHeld ?_
          simp only [Act.put, List.getElem_toArray, List.getElem_cons_succ, List.getElem_cons_zero, List.setIfInBounds_toArray, List.set_cons_zero, List.set_cons_succ]
          refine wpAnyH_take (i := 32) (v := undef) rfl (by kernel_rfl) (by kernel_rfl) (by kernel_rfl) (fun _ _ _ h => h) (Or.inr ⟨by rfl, rfl⟩) hHeld ?_
          simp only [Act.put, List.getElem_toArray, List.getElem_cons_succ, List.getElem_cons_zero, List.setIfInBounds_toArray, List.set_cons_zero, List.set_cons_succ]
          refine wpAnyH_take (i := 33) (v := undef) rfl (by kernel_rfl) (by kernel_rfl) (by kernel_rfl) (fun _ _ _ h => h) (Or.inr ⟨by rfl, rfl⟩) hHeld ?_
          simp only [Act.put, List.getElem_toArray, List.getElem_cons_succ, List.getElem_cons_zero, List.setIfInBounds_toArray, List.set_cons_zero, List.set_cons_succ]
          refine wpAnyH_take (i := 34) (v := undef) rfl (by kernel_rfl) (by kernel_rfl) (by kernel_rfl) (fun _ _ _ h => h) (Or.inr ⟨by rfl, rfl⟩) hHeld ?_
          simp only [Act.put, List.getElem_toArray, List.getElem_cons_succ, List.getElem_cons_zero, List.setIfInBounds_toArray, List.set_cons_zero, List.set_cons_succ]
          refine wpAnyH_take (i := 35) (v := undef) rfl (by kernel_rfl) (by kernel_rfl) (by kernel_rfl) (fun _ _ _ h => h) (Or.inr ⟨by rfl, rfl⟩) hHeld ?_
          simp only [Act.put, List.getElem_toArray, List.getElem_cons_succ, List.getElem_cons_zero, List.setIfInBounds_toArray, List.set_cons_zero, List.set_cons_succ]
          refine wpAnyH_take (i := 36) (v := undef) rfl (by kernel_rfl) (by kernel_rfl) (by kernel_rfl) (fun _ _ _ h => h) (Or.inr ⟨by rfl, rfl⟩) hHeld ?_
          simp only [Act.put, List.getElem_toArray, List.getElem_cons_succ, List.getElem_cons_zero, List.setIfInBounds_toArray, List.set_cons_zero, List.set_cons_succ]
          refine wpAnyH_take (i := 37) (v := undef) rfl (by kernel_rfl) (by kernel_rfl) (by kernel_rfl) (fun _ _ _ h => h) (Or.inr ⟨by rfl, rfl⟩) hHeld ?_
          simp only [Act.put, List.getElem_toArray, List.getElem_cons_succ, List.getElem_cons_zero, List.setIfInBounds_toArray, List.set_cons_zero, List.set_cons_succ]
          refine wpAnyH_take (i := 38) (v := undef) rfl (by kernel_rfl) (by kernel_rfl) (by kernel_rfl) (fun _ _ _ h => h) (Or.inr ⟨by rfl, rfl⟩) hHeld ?_
          simp only [Act.put, List.getElem_toArray, List.getElem_cons_succ, List.getElem_cons_zero, List.setIfInBounds_toArray, List.set_cons_zero, List.set_cons_succ]
          refine wpAnyH_take (i := 39) (v := undef) rfl (by kernel_rfl) (by kernel_rfl) (by kernel_rfl) (fun _ _ _ h => h) (Or.inr ⟨by rfl, rfl⟩) hHeld ?_
          simp only [Act.put, List.getElem_toArray, List.getElem_cons_succ, List.getElem_cons_zero, List.setIfInBounds_toArray, List.set_cons_zero, List.set_cons_succ]
          refine wpAnyH_take (i := 40) (v := ?_) rfl (by kernel_rfl) (by kernel_rfl) (by kernel_rfl) (fun _ _ _ h => h) (Or.inl ⟨by rfl, ?_⟩) hHeld ?_
          rotate_left
          · intro V hSw; obtain ⟨z1, z2, z3⟩ := hSw; have y1 := z1.cv; have y2 := z2.cv; clear z1 z2; go_simp; rfl
          simp only [Act.put, List.getElem_toArray, List.getElem_cons_succ, List.getElem_cons_zero, List.setIfInBounds_toArray, List.set_cons_zero, List.set_cons_succ]
          refine wpAnyH_done (by kernel_rfl) ?_ _
          refine NoPanic.normal ?_
          clear hHeld
          clear b2
          go_wp2_with fail
          go_meet
          exact ⟨⟨true, rfl, unhide F⟩, unhide X2, unhide Y2, unhide A2, unhide H2⟩
        have HI := hide (inYes D.sl 0 2 sl0 (by omega))
        by_cases q3 : D.S.length ≤ 12
        case neg =>
          have F : Hid (preB D up = !true) := by show _ = _; unfold preB; rw [decide_eq_false q3, Bool.and_false]; rfl
          have q4 : (12 : Int) < (D.S.length : Int) := by omega
          clear q0 q2 q3 sl0
          go_wp2_with fail
          refine wp_region_noPanic ?_
          refine wp_region_held_drew (S := fun V => Bx V w.heap.size [.slice (some ⟨bb, o, none⟩) L.length cap] ∧ Bx V wr.heap.size [.int .i64 D.sl, .int .i64 D.sv, .int .i64 D.nc, .string D.k, .bool D.t, .slice ra D.S.length cp, .int .i64 D.nx] ∧ True) (by kernel_rfl) ⟨((unhide HX).alloc _).drew, (unhide XE).drew, trivial⟩ (fun hHeld => ?_)
          refine wpAnyH_take (i := 0) (v := ?_) rfl (by kernel_rfl) (by kernel_rfl) (by kernel_rfl) (fun _ _ _ h => h) (Or.inl ⟨by rfl, ?_⟩) hHeld ?_
          rotate_left
          · intro V hSw; obtain ⟨z1, z2, z3⟩ := hSw; have y1 := z1.cv; have y2 := z2.cv; clear z1 z2; go_simp; rfl
          simp only [Act.put, List.getElem_toArray, List.getElem_cons_zero, List.setIfInBounds_toArray, List.set_cons_zero, List.set_cons_succ]
          refine wpAnyH_take (i := 1) (v := ?_) rfl (by kernel_rfl) (by kernel_rfl) (by kernel_rfl) (fun _ _ _ h => h) (Or.inl ⟨by rfl, ?_⟩) hHeld ?_
          rotate_left
          · intro V hSw; obtain ⟨z1, z2, z3⟩ := hSw; have y1 := z1.cv; have y2 := z2.cv; clear z1 z2; go_simp; rfl
          simp only [Act.put, List.getElem_toArray, List.getElem_cons_succ, List.getElem_cons_zero, List.setIfInBounds_toArray, List.set_cons_zero, List.set_cons_succ]
          refine wpAnyH_ready (rs := [2]) (by kernel_rfl) (by simp) ?_
          refine AllReadyH.cons rfl (fun K hK => ?_) AllReadyH.nil
          go_simp
          go_at_call 79
          with_reducible refine (unhide HC _).mono ?_
          rintro e w2 ⟨rfl, b2⟩
          have H2 := hide ((unhide hB).trans (((unhide AL).drew.trans (b2.mono (unhide AL).size)).mono (unhide hB).size))
          have X2 := hide ((((unhide HX).alloc _).drew).below b2)
          have Y2 := hide ((unhide XE).drew.below b2)
          have A2 := hide ((unhide HRA).1.below ((unhide AL).drew.trans (b2.mono (unhide AL).size)))
          refine hK.out _ _ (⟨hHeld.1.below b2, hHeld.2.1.below b2, trivial⟩) (fun hHeld => ?_)
          clear hK K
          try simp only [Act.put, List.getElem_toArray, List.getElem_cons_succ, List.getElem_cons_zero, List.setIfInBounds_toArray, List.set_cons_zero, List.set_cons_succ]
          refine wpAnyH_take (i := 3) (v := ?_) rfl (by kernel_rfl) (by kernel_rfl) (by kernel_rfl) (fun _ _ _ h => h) (Or.inl ⟨by rfl, ?_⟩) hHeld ?_
          rotate_left
          · intro V hSw; obtain ⟨z1, z2, z3⟩ := hSw; have y1 := z1.cv; have y2 := z2.cv; clear z1 z2; go_simp; rfl
          simp only [Act.put, List.getElem_toArray, List.getElem_cons_succ, List.getElem_cons_zero, List.setIfInBounds_toArray, List.set_cons_zero, List.set_cons_succ]
          refine wpAnyH_take (i := 4) (v := ?_) rfl (by kernel_rfl) (by kernel_rfl) (by kernel_rfl) (fun _ _ _ h => h) (Or.inl ⟨by rfl, ?_⟩) hHeld ?_
          rotate_left
          · intro V hSw; obtain ⟨z1, z2, z3⟩ := hSw; have y1 := z1.cv; have y2 := z2.cv; clear z1 z2; go_simp; rfl
          simp only [Act.put, List.getElem_toArray, List.getElem_cons_succ, List.getElem_cons_zero, List.setIfInBounds_toArray, List.set_cons_zero, List.set_cons_succ]
          refine wpAnyH_take (i := 5) (v := ?_) rfl (by kernel_rfl) (by kernel_rfl) (by kernel_rfl) (fun _ _ _ h => h) (Or.inl ⟨by rfl, ?_⟩) hHeld ?_
          rotate_left
          · intro V hSw; obtain ⟨z1, z2, z3⟩ := hSw; have y1 := z1.cv; have y2 := z2.cv; clear z1 z2; go_simp; rfl
          simp only [Act.put, List.getElem_toArray, List.getElem_cons_succ, List.getElem_cons_zero, List.setIfInBounds_toArray, List.set_cons_zero, List.set_cons_succ]
          refine wpAnyH_take (i := 6) (v := ?_) rfl (by kernel_rfl) (by kernel_rfl) (by kernel_rfl) (fun _ _ _ h => h) (Or.inl ⟨by rfl, ?_⟩) hHeld ?_
          rotate_left
          · intro V hSw; obtain ⟨z1, z2, z3⟩ := hSw; have y1 := z1.cv; have y2 := z2.cv; clear z1 z2; go_simp; rfl
          simp only [Act.put, List.getElem_toArray, List.getElem_cons_succ, List.getElem_cons_zero, List.setIfInBounds_toArray, List.set_cons_zero, List.set_cons_succ]
          refine wpAnyH_take (i := 7) (v := ?_) rfl (by kernel_rfl) (by kernel_rfl) (by kernel_rfl) (fun _ _ _ h => h) (Or.inl ⟨by rfl, ?_⟩) hHeld ?_
          rotate_left
          · intro V hSw; obtain ⟨z1, z2, z3⟩ := hSw; have y1 := z1.cv; have y2 := z2.cv; clear z1 z2; go_simp; rfl
          simp only [Act.put, List.getElem_toArray, List.getElem_cons_succ, List.getElem_cons_zero, List.setIfInBounds_toArray, List.set_cons_zero, List.set_cons_succ]
          refine wpAnyH_ready (rs := [8]) (by kernel_rfl) (by simp) ?_
          refine AllReadyH.cons rfl (fun K hK => ?_) AllReadyH.nil
          go_simp
          go_at_call 34
          with_reducible refine (unhide HI _).mono ?_
          rintro e w9 ⟨rfl, h9⟩
          rw [h9]
          clear h9 w9
          refine hK.out _ _ (hHeld) (fun hHeld => ?_)
          clear hK K
          try simp only [Act.put, List.getElem_toArray, List.getElem_cons_succ, List.getElem_cons_zero, List.setIfInBounds_toArray, List.set_cons_zero, List.set_cons_succ]
          refine wpAnyH_take (i := 9) (v := ?_) rfl (by kernel_rfl) (by kernel_rfl) (by kernel_rfl) (fun _ _ _ h => h) (Or.inl ⟨by rfl, ?_⟩) hHeld ?_
          rotate_left
          · intro V hSw; obtain ⟨z1, z2, z3⟩ := hSw; have y1 := z1.cv; have y2 := z2.cv; clear z1 z2; go_simp; rfl
          simp only [Act.put, List.getElem_toArray, List.getElem_cons_succ, List.getElem_cons_zero, List.setIfInBounds_toArray, List.set_cons_zero, List.set_cons_succ]
          refine wpAnyH_take (i := 10) (v := ?_) rfl (by kernel_rfl) (by kernel_rfl) (by kernel_rfl) (fun _ _ _ h => h) (Or.inl ⟨by rfl, ?_⟩) hHeld ?_
          rotate_left
          · intro V hSw; obtain ⟨z1, z2, z3⟩ := hSw; have y1 := z1.cv; have y2 := z2.cv; clear z1 z2; go_simp; rfl
          simp only [Act.put, List.getElem_toArray, List.getElem_cons_succ, List.getElem_cons_zero, List.setIfInBounds_toArray, List.set_cons_zero, List.set_cons_succ]
          refine wpAnyH_take (i := 11) (v := ?_) rfl (by kernel_rfl) (by kernel_rfl) (by kernel_rfl) (fun _ _ _ h => h) (Or.inl ⟨by rfl, ?_⟩) hHeld ?_
          rotate_left
          · intro V hSw; obtain ⟨z1, z2, z3⟩ := hSw; have y1 := z1.cv; have y2 := z2.cv; clear z1 z2; go_simp; rfl
          simp only [Act.put, List.getElem_toArray, List.getElem_cons_succ, List.getElem_cons_zero, List.setIfInBounds_toArray, List.set_cons_zero, List.set_cons_succ]
          refine wpAnyH_take (i := 12) (v := ?_) rfl (by kernel_rfl) (by kernel_rfl) (by kernel_rfl) (fun _ _ _ h => h) (Or.inl ⟨by rfl, ?_⟩) hHeld ?_
          rotate_left
          · intro V hSw; obtain ⟨z1, z2, z3⟩ := hSw; have y1 := z1.cv; have y2 := z2.cv; clear z1 z2; go_simp; rfl
          simp only [Act.put, List.getElem_toArray, List.getElem_cons_succ, List.getElem_cons_zero, List.setIfInBounds_toArray, List.set_cons_zero, List.set_cons_succ]
          refine wpAnyH_take (i := 13) (v := ?_) rfl (by kernel_rfl) (by kernel_rfl) (by kernel_rfl) (fun _ _ _ h => h) (Or.inl ⟨by rfl, ?_⟩) hHeld ?_
          rotate_left
          · intro V hSw; obtain ⟨z1, z2, z3⟩ := hSw; have y1 := z1.cv; have y2 := z2.cv; clear z1 z2; go_simp; rfl
          simp only [Act.put, List.getElem_toArray, List.getElem_cons_succ, List.getElem_cons_zero, List.setIfInBounds_toArray, List.set_cons_zero, List.set_cons_succ]
          refine wpAnyH_take (i := 14) (v := ?_) rfl (by kernel_rfl) (by kernel_rfl) (by kernel_rfl) (fun _ _ _ h => h) (Or.inl ⟨by rfl, ?_⟩) hHeld ?_
          rotate_left
          · intro V hSw; obtain ⟨z1, z2, z3⟩ := hSw; have y1 := z1.cv; have y2 := z2.cv; clear z1 z2; go_simp; rfl
          simp only [Act.put, List.getElem_toArray, List.getElem_cons_succ, List.getElem_cons_zero, List.setIfInBounds_toArray, List.set_cons_zero, List.set_cons_succ]
          refine wpAnyH_take (i := 15) (v := ?_) rfl (by kernel_rfl) (by kernel_rfl) (by kernel_rfl) (fun _ _ _ h => h) (Or.inl ⟨by rfl, ?_⟩) hHeld ?_
          rotate_left
          · intro V hSw; obtain ⟨z1, z2, z3⟩ := hSw; have y1 := z1.cv; have y2 := z2.cv; clear z1 z2; go_simp; rfl
          simp only [Act.put, List.getElem_toArray, List.getElem_cons_succ, List.getElem_cons_zero, List.setIfInBounds_toArray, List.set_cons_zero, List.set_cons_succ]
          refine wpAnyH_take (i := 16) (v := ?_) rfl (by kernel_rfl) (by kernel_rfl) (by kernel_rfl) (fun _ _ _ h => h) (Or.inl ⟨by rfl, ?_⟩) hHeld ?_
          rotate_left
          · intro V hSw; obtain ⟨z1, z2, z3⟩ := hSw; have y1 := z1.cv; have y2 := z2.cv; clear z1 z2; go_simp; rfl
          simp only [Act.put, List.getElem_toArray, List.getElem_cons_succ, List.getElem_cons_zero, List.setIfInBounds_toArray, List.set_cons_zero, List.set_cons_succ]
          refine wpAnyH_take (i := 17) (v := ?_) rfl (by kernel_rfl) (by kernel_rfl) (by kernel_rfl) (fun _ _ _ h => h) (Or.inl ⟨by rfl, ?_⟩) hHeld ?_
          rotate_left
          · intro V hSw; obtain ⟨z1, z2, z3⟩ := hSw; have y1 := z1.cv; have y2 := z2.cv; clear z1 z2; go_simp; rfl
          simp only [Act.put, List.getElem_toArray, List.getElem_cons_succ, List.getElem_cons_zero, List.setIfInBounds_toArray, List.set_cons_zero, List.set_cons_succ]
          refine wpAnyH_take (i := 18) (v := undef) rfl (by kernel_rfl) (by kernel_rfl) (by kernel_rfl) (fun _ _ _ h => h) (Or.inr ⟨by rfl, rfl⟩) hHeld ?_
          simp only [Act.put, List.getElem_toArray, List.getElem_cons_succ, List.getElem_cons_zero, List.setIfInBounds_toArray, List.set_cons_zero, List.set_cons_succ]
          refine wpAnyH_take (i := 19) (v := undef) rfl (by kernel_rfl) (by kernel_rfl) (by kernel_rfl) (fun _ _ _ h => h) (Or.inr ⟨by rfl, rfl⟩) hHeld ?_
          simp only [Act.put, List.getElem_toArray, List.getElem_cons_succ, List.getElem_cons_zero, List.setIfInBounds_toArray, List.set_cons_zero, List.set_cons_succ]
          refine wpAnyH_take (i := 20) (v := undef) rfl (by kernel_rfl) (by kernel_rfl) (by kernel_rfl) (fun _ _ _ h => h) (Or.inr ⟨by rfl, rfl⟩) hHeld ?_
          simp only [Act.put, List.getElem_toArray, List.getElem_cons_succ, List.getElem_cons_zero, List.setIfInBounds_toArray, List.set_cons_zero, List.set_cons_succ]
          refine wpAnyH_take (i := 21) (v := undef) rfl (by kernel_rfl) (by kernel_rfl) (by kernel_rfl) (fun _ _ _ h => h) (Or.inr ⟨by rfl, rfl⟩) hHeld ?_
          simp only [Act.put, List.getElem_toArray, List.getElem_cons_succ, List.getElem_cons_zero, List.setIfInBounds_toArray, List.set_cons_zero, List.set_cons_succ]
          refine wpAnyH_take (i := 22) (v := ?_) rfl (by kernel_rfl) (by kernel_rfl) (by kernel_rfl) (fun _ _ _ h => h) (Or.inl ⟨by rfl, ?_⟩) hHeld ?_
          rotate_left
          · intro V hSw; obtain ⟨z1, z2, z3⟩ := hSw; have y1 := z1.cv; have y2 := z2.cv; clear z1 z2; go_simp; rfl
          simp only [Act.put, List.getElem_toArray, List.getElem_cons_succ, List.getElem_cons_zero, List.setIfInBounds_toArray, List.set_cons_zero, List.set_cons_succ]
          refine wpAnyH_take (i := 23) (v := ?_) rfl (by kernel_rfl) (by kernel_rfl) (by kernel_rfl) (fun _ _ _ h => h) (Or.inl ⟨by rfl, ?_⟩) hHeld ?_
          rotate_left
          · intro V hSw; obtain ⟨z1, z2, z3⟩ := hSw; have y1 := z1.cv; have y2 := z2.cv; clear z1 z2; go_simp; rfl
          simp only [Act.put, List.getElem_toArray, List.getElem_cons_succ, List.getElem_cons_zero, List.setIfInBounds_toArray, List.set_cons_zero, List.set_cons_succ]
          refine wpAnyH_take (i := 24) (v := undef) rfl (by kernel_rfl) (by kernel_rfl) (by kernel_rfl) (fun _ _ _ h => h) (Or.inr ⟨by rfl, rfl⟩) hHeld ?_
          simp only [Act.put, List.getElem_toArray, List.getElem_cons_succ, List.getElem_cons_zero, List.setIfInBounds_toArray, List.set_cons_zero, List.set_cons_succ]
          refine wpAnyH_take (i := 25) (v := undef) rfl (by kernel_rfl) (by kernel_rfl) (by kernel_rfl) (fun _ _ _ h => h) (Or.inr ⟨by rfl, rfl⟩) hHeld ?_
          simp only [Act.put, List.getElem_toArray, List.getElem_cons_succ, List.getElem_cons_zero, List.setIfInBounds_toArray, List.set_cons_zero, List.set_cons_succ]
          refine wpAnyH_take (i := 26) (v := undef) rfl (by kernel_rfl) (by kernel_rfl) (by kernel_rfl) (fun _ _ _ h => h) (Or.inr ⟨by rfl, rfl⟩) hHeld ?_
          simp only [Act.put, List.getElem_toArray, List.getElem_cons_succ, List.getElem_cons_zero, List.setIfInBounds_toArray, List.set_cons_zero, List.set_cons_succ]
          refine wpAnyH_take (i := 27) (v := undef) rfl (by kernel_rfl) (by kernel_rfl) (by kernel_rfl) (fun _ _ _ h => h) (Or.inr ⟨by rfl, rfl⟩) hHeld ?_
          simp only [Act.put, List.getElem_toArray, List.getElem_cons_succ, List.getElem_cons_zero, List.setIfInBounds_toArray, List.set_cons_zero, List.set_cons_succ]
          refine wpAnyH_take (i := 28) (v := undef) rfl (by kernel_rfl) (by kernel_rfl) (by kernel_rfl) (fun _ _ _ h => h) (Or.inr ⟨by rfl, rfl⟩) hHeld ?_
          simp only [Act.put, List.getElem_toArray, List.getElem_cons_succ, List.getElem_cons_zero, List.setIfInBounds_toArray, List.set_cons_zero, List.set_cons_succ]
          refine wpAnyH_take (i := 29) (v := undef) rfl (by kernel_rfl) (by kernel_rfl) (by kernel_rfl) (fun _ _ _ h => h) (Or.inr ⟨by rfl, rfl⟩) hHeld ?_
          simp only [Act.put, List.getElem_toArray, List.getElem_cons_succ, List.getElem_cons_zero, List.setIfInBounds_toArray, List.set_cons_zero, List.set_cons_succ]
          refine wpAnyH_take (i := 30) (v := undef) rfl (by kernel_rfl) (by kernel_rfl) (by kernel_rfl) (fun _ _ _ h => h) (Or.inr ⟨by rfl, rfl⟩) hHeld ?_
          simp only [Act.put, List.getElem_toArray, List.getElem_cons_succ, List.getElem_cons_zero, List.setIfInBounds_toArray, List.set_cons_zero, List.set_cons_succ]
          refine wpAnyH_take (i := 31) (v := undef) rfl (by kernel_rfl) (by kernel_rfl) (by kernel_rfl) (fun _ _ _ h => h) (Or.inr ⟨by rfl, rfl⟩) hHeld ?_
          simp only [Act.put, List.getElem_toArray, List.getElem_cons_succ, List.getElem_cons_zero, List.setIfInBounds_toArray, List.set_cons_zero, List.set_cons_succ]
          refine wpAnyH_take (i := 32) (v := undef) rfl (by kernel_rfl) (by kernel_rfl) (by kernel_rfl) (fun _ _ _ h => h) (Or.inr ⟨by rfl, rfl⟩) hHeld ?_
          simp only [Act.put, List.getElem_toArray, List.getElem_cons_succ, List.getElem_cons_zero, List.setIfInBounds_toArray, List.set_cons_zero, List.set_cons_succ]
          refine wpAnyH_take (i := 33) (v := undef) rfl (by kernel_rfl) (by kernel_rfl) (by kernel_rfl) (fun _ _ _ h => h) (Or.inr ⟨by rfl, rfl⟩) hHeld ?_
          simp only [Act.put, List.getElem_toArray, List.getElem_cons_succ, List.getElem_cons_zero, List.setIfInBounds_toArray, List.set_cons_zero, List.set_cons_succ]
          refine wpAnyH_take (i := 34) (v := undef) rfl (by kernel_rfl) (by kernel_rfl) (by kernel_rfl) (fun _ _ _ h => h) (Or.inr ⟨by rfl, rfl⟩) hHeld ?_
          simp only [Act.put, List.getElem_toArray, List.getElem_cons_succ, List.getElem_cons_zero, List.setIfInBounds_toArray, List.set_cons_zero, List.set_cons_succ]
          refine wpAnyH_take (i := 35) (v := undef) rfl (by kernel_rfl) (by kernel_rfl) (by kernel_rfl) (fun _ _ _ h => h) (Or.inr ⟨by rfl, rfl⟩) hHeld ?_
          simp only [Act.put, List.getElem_toArray, List.getElem_cons_succ, List.getElem_cons_zero, List.setIfInBounds_toArray, List.set_cons_zero, List.set_cons_succ]
          refine wpAnyH_take (i := 36) (v := undef) rfl (by kernel_rfl) (by kernel_rfl) (by kernel_rfl) (fun _ _ _ h => h) (Or.inr ⟨by rfl, rfl⟩) hHeld ?_
          simp only [Act.put, List.getElem_toArray, List.getElem_cons_succ, List.getElem_cons_zero, List.setIfInBounds_toArray, List.set_cons_zero, List.set_cons_succ]
          refine wpAnyH_take (i := 37) (v := undef) rfl (by kernel_rfl) (by kernel_rfl) (by kernel_rfl) (fun _ _ _ h => h) (Or.inr ⟨by rfl, rfl⟩) hHeld ?_
          simp only [Act.put, List.getElem_toArray, List.getElem_cons_succ, List.getElem_cons_zero, List.setIfInBounds_toArray, List.set_cons_zero, List.set_cons_succ]
          refine wpAnyH_take (i := 38) (v := undef) rfl (by kernel_rfl) (by kernel_rfl) (by kernel_rfl) (fun _ _ _ h => h) (Or.inr ⟨by rfl, rfl⟩) hHeld ?_
          simp only [Act.put, List.getElem_toArray, List.getElem_cons_succ, List.getElem_cons_zero, List.setIfInBounds_toArray, List.set_cons_zero, List.set_cons_succ]
          refine wpAnyH_take (i := 39) (v := undef) rfl (by kernel_rfl) (by kernel_rfl) (by kernel_rfl) (fun _ _ _ h => h) (Or.inr ⟨by rfl, rfl⟩) hHeld ?_
          simp only [Act.put, List.getElem_toArray, List.getElem_cons_succ, List.getElem_cons_zero, List.setIfInBounds_toArray, List.set_cons_zero, List.set_cons_succ]
          refine wpAnyH_take (i := 40) (v := ?_) rfl (by kernel_rfl) (by kernel_rfl) (by kernel_rfl) (fun _ _ _ h => h) (Or.inl ⟨by rfl, ?_⟩) hHeld ?_
          rotate_left
          · intro V hSw; obtain ⟨z1, z2, z3⟩ := hSw; have y1 := z1.cv; have y2 := z2.cv; clear z1 z2; go_simp; rfl
          simp only [Act.put, List.getElem_toArray, List.getElem_cons_succ, List.getElem_cons_zero, List.setIfInBounds_toArray, List.set_cons_zero, List.set_cons_succ]
          refine wpAnyH_done (by kernel_rfl) ?_ _
          refine NoPanic.normal ?_
          clear hHeld
          clear b2
          go_wp2_with fail
          go_meet
          exact ⟨⟨true, rfl, unhide F⟩, unhide X2, unhide Y2, unhide A2, unhide H2⟩
        have q4 : decide ((12 : Int) < (D.S.length : Int)) = false := decide_eq_false (by omega)
        have q5 : decide (12 < D.S.length) = false := decide_eq_false (by omega)
        by_cases q6 : 0 ≤ D.nx ∧ D.nx ≤ 1000000000
        case neg =>
          have F : Hid (preB D up = !true) := by show _ = _; unfold preB; rw [← Bool.decide_and, decide_eq_false q6, Bool.and_false]; rfl
          have HJ2 := hide (inNo D.nx 0 1000000000 q6)
          clear q0 q2 q3 sl0 q6
          go_wp2_with fail
          refine wp_region_noPanic ?_
          refine wp_region_held_drew (S := fun V => Bx V w.heap.size [.slice (some ⟨bb, o, none⟩) L.length cap] ∧ Bx V wr.heap.size [.int .i64 D.sl, .int .i64 D.sv, .int .i64 D.nc, .string D.k, .bool D.t, .slice ra D.S.length cp, .int .i64 D.nx] ∧ True) (by kernel_rfl) ⟨((unhide HX).alloc _).drew, (unhide XE).drew, trivial⟩ (fun hHeld => ?_)
          refine wpAnyH_take (i := 0) (v := ?_) rfl (by kernel_rfl) (by kernel_rfl) (by kernel_rfl) (fun _ _ _ h => h) (Or.inl ⟨by rfl, ?_⟩) hHeld ?_
          rotate_left
          · intro V hSw; obtain ⟨z1, z2, z3⟩ := hSw; have y1 := z1.cv; have y2 := z2.cv; clear z1 z2; go_simp; rfl
          simp only [Act.put, List.getElem_toArray, List.getElem_cons_zero, List.setIfInBounds_toArray, List.set_cons_zero, List.set_cons_succ]
          refine wpAnyH_take (i := 1) (v := ?_) rfl (by kernel_rfl) (by kernel_rfl) (by kernel_rfl) (fun _ _ _ h => h) (Or.inl ⟨by rfl, ?_⟩) hHeld ?_
          rotate_left
          · intro V hSw; obtain ⟨z1, z2, z3⟩ := hSw; have y1 := z1.cv; have y2 := z2.cv; clear z1 z2; go_simp; rfl
          simp only [Act.put, List.getElem_toArray, List.getElem_cons_succ, List.getElem_cons_zero, List.setIfInBounds_toArray, List.set_cons_zero, List.set_cons_succ]
          refine wpAnyH_ready (rs := [2]) (by kernel_rfl) (by simp) ?_
          refine AllReadyH.cons rfl (fun K hK => ?_) AllReadyH.nil
          go_simp
          go_at_call 79
          with_reducible refine (unhide HC _).mono ?_
          rintro e w2 ⟨rfl, b2⟩
          have H2 := hide ((unhide hB).trans (((unhide AL).drew.trans (b2.mono (unhide AL).size)).mono (unhide hB).size))
          have X2 := hide ((((unhide HX).alloc _).drew).below b2)
          have Y2 := hide ((unhide XE).drew.below b2)
          have A2 := hide ((unhide HRA).1.below ((unhide AL).drew.trans (b2.mono (unhide AL).size)))
          refine hK.out _ _ (⟨hHeld.1.below b2, hHeld.2.1.below b2, trivial⟩) (fun hHeld => ?_)
          clear hK K
          try simp only [Act.put, List.getElem_toArray, List.getElem_cons_succ, List.getElem_cons_zero, List.setIfInBounds_toArray, List.set_cons_zero, List.set_cons_succ]
          refine wpAnyH_take (i := 3) (v := ?_) rfl (by kernel_rfl) (by kernel_rfl) (by kernel_rfl) (fun _ _ _ h => h) (Or.inl ⟨by rfl, ?_⟩) hHeld ?_
          rotate_left
          · intro V hSw; obtain ⟨z1, z2, z3⟩ := hSw; have y1 := z1.cv; have y2 := z2.cv; clear z1 z2; go_simp; rfl
          simp only [Act.put, List.getElem_toArray, List.getElem_cons_succ, List.getElem_cons_zero, List.setIfInBounds_toArray, List.set_cons_zero, List.set_cons_succ]
          refine wpAnyH_take (i := 4) (v := ?_) rfl (by kernel_rfl) (by kernel_rfl) (by kernel_rfl) (fun _ _ _ h => h) (Or.inl ⟨by rfl, ?_⟩) hHeld ?_
          rotate_left
          · intro V hSw; obtain ⟨z1, z2, z3⟩ := hSw; have y1 := z1.cv; have y2 := z2.cv; clear z1 z2; go_simp; rfl
          simp only [Act.put, List.getElem_toArray, List.getElem_cons_succ, List.getElem_cons_zero, List.setIfInBounds_toArray, List.set_cons_zero, List.set_cons_succ]
          refine wpAnyH_take (i := 5) (v := ?_) rfl (by kernel_rfl) (by kernel_rfl) (by kernel_rfl) (fun _ _ _ h => h) (Or.inl ⟨by rfl, ?_⟩) hHeld ?_
          rotate_left
          · intro V hSw; obtain ⟨z1, z2, z3⟩ := hSw; have y1 := z1.cv; have y2 := z2.cv; clear z1 z2; go_simp; rfl
          simp only [Act.put, List.getElem_toArray, List.getElem_cons_succ, List.getElem_cons_zero, List.setIfInBounds_toArray, List.set_cons_zero, List.set_cons_succ]
          refine wpAnyH_take (i := 6) (v := ?_) rfl (by kernel_rfl) (by kernel_rfl) (by kernel_rfl) (fun _ _ _ h => h) (Or.inl ⟨by rfl, ?_⟩) hHeld ?_
          rotate_left
          · intro V hSw; obtain ⟨z1, z2, z3⟩ := hSw; have y1 := z1.cv; have y2 := z2.cv; clear z1 z2; go_simp; rfl
          simp only [Act.put, List.getElem_toArray, List.getElem_cons_succ, List.getElem_cons_zero, List.setIfInBounds_toArray, List.set_cons_zero, List.set_cons_succ]
          refine wpAnyH_take (i := 7) (v := ?_) rfl (by kernel_rfl) (by kernel_rfl) (by kernel_rfl) (fun _ _ _ h => h) (Or.inl ⟨by rfl, ?_⟩) hHeld ?_
          rotate_left
          · intro V hSw; obtain ⟨z1, z2, z3⟩ := hSw; have y1 := z1.cv; have y2 := z2.cv; clear z1 z2; go_simp; rfl
          simp only [Act.put, List.getElem_toArray, List.getElem_cons_succ, List.getElem_cons_zero, List.setIfInBounds_toArray, List.set_cons_zero, List.set_cons_succ]
          refine wpAnyH_ready (rs := [8]) (by kernel_rfl) (by simp) ?_
          refine AllReadyH.cons rfl (fun K hK => ?_) AllReadyH.nil
          go_simp
          go_at_call 34
          with_reducible refine (unhide HI _).mono ?_
          rintro e w9 ⟨rfl, h9⟩
          rw [h9]
          clear h9 w9
          refine hK.out _ _ (hHeld) (fun hHeld => ?_)
          clear hK K
          try simp only [Act.put, List.getElem_toArray, List.getElem_cons_succ, List.getElem_cons_zero, List.setIfInBounds_toArray, List.set_cons_zero, List.set_cons_succ]
          refine wpAnyH_take (i := 9) (v := ?_) rfl (by kernel_rfl) (by kernel_rfl) (by kernel_rfl) (fun _ _ _ h => h) (Or.inl ⟨by rfl, ?_⟩) hHeld ?_
          rotate_left
          · intro V hSw; obtain ⟨z1, z2, z3⟩ := hSw; have y1 := z1.cv; have y2 := z2.cv; clear z1 z2; go_simp; rfl
          simp only [Act.put, List.getElem_toArray, List.getElem_cons_succ, List.getElem_cons_zero, List.setIfInBounds_toArray, List.set_cons_zero, List.set_cons_succ]
          refine wpAnyH_take (i := 10) (v := ?_) rfl (by kernel_rfl) (by kernel_rfl) (by kernel_rfl) (fun _ _ _ h => h) (Or.inl ⟨by rfl, ?_⟩) hHeld ?_
          rotate_left
          · intro V hSw; obtain ⟨z1, z2, z3⟩ := hSw; have y1 := z1.cv; have y2 := z2.cv; clear z1 z2; go_simp; rfl
          simp only [Act.put, List.getElem_toArray, List.getElem_cons_succ, List.getElem_cons_zero, List.setIfInBounds_toArray, List.set_cons_zero, List.set_cons_succ]
          refine wpAnyH_take (i := 11) (v := ?_) rfl (by kernel_rfl) (by kernel_rfl) (by kernel_rfl) (fun _ _ _ h => h) (Or.inl ⟨by rfl, ?_⟩) hHeld ?_
          rotate_left
          · intro V hSw; obtain ⟨z1, z2, z3⟩ := hSw; have y1 := z1.cv; have y2 := z2.cv; clear z1 z2; go_simp; rfl
          simp only [Act.put, List.getElem_toArray, List.getElem_cons_succ, List.getElem_cons_zero, List.setIfInBounds_toArray, List.set_cons_zero, List.set_cons_succ]
          refine wpAnyH_take (i := 12) (v := ?_) rfl (by kernel_rfl) (by kernel_rfl) (by kernel_rfl) (fun _ _ _ h => h) (Or.inl ⟨by rfl, ?_⟩) hHeld ?_
          rotate_left
          · intro V hSw; obtain ⟨z1, z2, z3⟩ := hSw; have y1 := z1.cv; have y2 := z2.cv; clear z1 z2; go_simp; rfl
          simp only [Act.put, List.getElem_toArray, List.getElem_cons_succ, List.getElem_cons_zero, List.setIfInBounds_toArray, List.set_cons_zero, List.set_cons_succ]
          refine wpAnyH_take (i := 13) (v := ?_) rfl (by kernel_rfl) (by kernel_rfl) (by kernel_rfl) (fun _ _ _ h => h) (Or.inl ⟨by rfl, ?_⟩) hHeld ?_
          rotate_left
          · intro V hSw; obtain ⟨z1, z2, z3⟩ := hSw; have y1 := z1.cv; have y2 := z2.cv; clear z1 z2; go_simp; rfl
          simp only [Act.put, List.getElem_toArray, List.getElem_cons_succ, List.getElem_cons_zero, List.setIfInBounds_toArray, List.set_cons_zero, List.set_cons_succ]
          refine wpAnyH_take (i := 14) (v := ?_) rfl (by kernel_rfl) (by kernel_rfl) (by kernel_rfl) (fun _ _ _ h => h) (Or.inl ⟨by rfl, ?_⟩) hHeld ?_
          rotate_left
          · intro V hSw; obtain ⟨z1, z2, z3⟩ := hSw; have y1 := z1.cv; have y2 := z2.cv; clear z1 z2; go_simp; rfl
          simp only [Act.put, List.getElem_toArray, List.getElem_cons_succ, List.getElem_cons_zero, List.setIfInBounds_toArray, List.set_cons_zero, List.set_cons_succ]
          refine wpAnyH_take (i := 15) (v := ?_) rfl (by kernel_rfl) (by kernel_rfl) (by kernel_rfl) (fun _ _ _ h => h) (Or.inl ⟨by rfl, ?_⟩) hHeld ?_
          rotate_left
          · intro V hSw; obtain ⟨z1, z2, z3⟩ := hSw; have y1 := z1.cv; have y2 := z2.cv; clear z1 z2; go_simp; rfl
          simp only [Act.put, List.getElem_toArray, List.getElem_cons_succ, List.getElem_cons_zero, List.setIfInBounds_toArray, List.set_cons_zero, List.set_cons_succ]
          refine wpAnyH_take (i := 16) (v := ?_) rfl (by kernel_rfl) (by kernel_rfl) (by kernel_rfl) (fun _ _ _ h => h) (Or.inl ⟨by rfl, ?_⟩) hHeld ?_
          rotate_left
          · intro V hSw; obtain ⟨z1, z2, z3⟩ := hSw; have y1 := z1.cv; have y2 := z2.cv; clear z1 z2; go_simp; rfl
          simp only [Act.put, List.getElem_toArray, List.getElem_cons_succ, List.getElem_cons_zero, List.setIfInBounds_toArray, List.set_cons_zero, List.set_cons_succ]
          refine wpAnyH_take (i := 17) (v := ?_) rfl (by kernel_rfl) (by kernel_rfl) (by kernel_rfl) (fun _ _ _ h => h) (Or.inl ⟨by rfl, ?_⟩) hHeld ?_
          rotate_left
          · intro V hSw; obtain ⟨z1, z2, z3⟩ := hSw; have y1 := z1.cv; have y2 := z2.cv; clear z1 z2; go_simp; rfl
          simp only [Act.put, List.getElem_toArray, List.getElem_cons_succ, List.getElem_cons_zero, List.setIfInBounds_toArray, List.set_cons_zero, List.set_cons_succ]
          refine wpAnyH_take (i := 18) (v := ?_) rfl (by kernel_rfl) (by kernel_rfl) (by kernel_rfl) (fun _ _ _ h => h) (Or.inl ⟨by rfl, ?_⟩) hHeld ?_
          rotate_left
          · intro V hSw; obtain ⟨z1, z2, z3⟩ := hSw; have y1 := z1.cv; have y2 := z2.cv; clear z1 z2; go_simp; rfl
          simp only [Act.put, List.getElem_toArray, List.getElem_cons_succ, List.getElem_cons_zero, List.setIfInBounds_toArray, List.set_cons_zero, List.set_cons_succ]
          refine wpAnyH_take (i := 19) (v := ?_) rfl (by kernel_rfl) (by kernel_rfl) (by kernel_rfl) (fun _ _ _ h => h) (Or.inl ⟨by rfl, ?_⟩) hHeld ?_
          rotate_left
          · intro V hSw; obtain ⟨z1, z2, z3⟩ := hSw; have y1 := z1.cv; have y2 := z2.cv; clear z1 z2; go_simp; rfl
          simp only [Act.put, List.getElem_toArray, List.getElem_cons_succ, List.getElem_cons_zero, List.setIfInBounds_toArray, List.set_cons_zero, List.set_cons_succ]
          refine wpAnyH_ready (rs := [20]) (by kernel_rfl) (by simp) ?_
          refine AllReadyH.cons rfl (fun K hK => ?_) AllReadyH.nil
          go_simp
          go_at_call 34
          with_reducible refine (unhide HJ2 _).mono ?_
          rintro e w9 ⟨rfl, h9⟩
          rw [h9]
          clear h9 w9
          refine hK.out _ _ (hHeld) (fun hHeld => ?_)
          clear hK K
          try simp only [Act.put, List.getElem_toArray, List.getElem_cons_succ, List.getElem_cons_zero, List.setIfInBounds_toArray, List.set_cons_zero, List.set_cons_succ]
          refine wpAnyH_take (i := 21) (v := ?_) rfl (by kernel_rfl) (by kernel_rfl) (by kernel_rfl) (fun _ _ _ h => h) (Or.inl ⟨by rfl, ?_⟩) hHeld ?_
          rotate_left
          · intro V hSw; obtain ⟨z1, z2, z3⟩ := hSw; have y1 := z1.cv; have y2 := z2.cv; clear z1 z2; go_simp; rfl
          simp only [Act.put, List.getElem_toArray, List.getElem_cons_succ, List.getElem_cons_zero, List.setIfInBounds_toArray, List.set_cons_zero, List.set_cons_succ]
          refine wpAnyH_take (i := 22) (v := ?_) rfl (by kernel_rfl) (by kernel_rfl) (by kernel_rfl) (fun _ _ _ h => h) (Or.inl ⟨by rfl, ?_⟩) hHeld ?_
          rotate_left
          · intro V hSw; obtain ⟨z1, z2, z3⟩ := hSw; have y1 := z1.cv; have y2 := z2.cv; clear z1 z2; go_simp; rfl
          simp only [Act.put, List.getElem_toArray, List.getElem_cons_succ, List.getElem_cons_zero, List.setIfInBounds_toArray, List.set_cons_zero, List.set_cons_succ]
          refine wpAnyH_take (i := 23) (v := ?_) rfl (by kernel_rfl) (by kernel_rfl) (by kernel_rfl) (fun _ _ _ h => h) (Or.inl ⟨by rfl, ?_⟩) hHeld ?_
          rotate_left
          · intro V hSw; obtain ⟨z1, z2, z3⟩ := hSw; have y1 := z1.cv; have y2 := z2.cv; clear z1 z2; go_simp; rfl
          simp only [Act.put, List.getElem_toArray, List.getElem_cons_succ, List.getElem_cons_zero, List.setIfInBounds_toArray, List.set_cons_zero, List.set_cons_succ]
          refine wpAnyH_take (i := 24) (v := undef) rfl (by kernel_rfl) (by kernel_rfl) (by kernel_rfl) (fun _ _ _ h => h) (Or.inr ⟨by rfl, rfl⟩) hHeld ?_
          simp only [Act.put, List.getElem_toArray, List.getElem_cons_succ, List.getElem_cons_zero, List.setIfInBounds_toArray, List.set_cons_zero, List.set_cons_succ]
          refine wpAnyH_take (i := 25) (v := undef) rfl (by kernel_rfl) (by kernel_rfl) (by kernel_rfl) (fun _ _ _ h => h) (Or.inr ⟨by rfl, rfl⟩) hHeld ?_
          simp only [Act.put, List.getElem_toArray, List.getElem_cons_succ, List.getElem_cons_zero, List.setIfInBounds_toArray, List.set_cons_zero, List.set_cons_succ]
          refine wpAnyH_take (i := 26) (v := undef) rfl (by kernel_rfl) (by kernel_rfl) (by kernel_rfl) (fun _ _ _ h => h) (Or.inr ⟨by rfl, rfl⟩) hHeld ?_
          simp only [Act.put, List.getElem_toArray, List.getElem_cons_succ, List.getElem_cons_zero, List.setIfInBounds_toArray, List.set_cons_zero, List.set_cons_succ]
          refine wpAnyH_take (i := 27) (v := undef) rfl (by kernel_rfl) (by kernel_rfl) (by kernel_rfl) (fun _ _ _ h => h) (Or.inr ⟨by rfl, rfl⟩) hHeld ?_
          simp only [Act.put, List.getElem_toArray, List.getElem_cons_succ, List.getElem_cons_zero, List.setIfInBounds_toArray, List.set_cons_zero, List.set_cons_succ]
          refine wpAnyH_take (i := 28) (v := undef) rfl (by kernel_rfl) (by kernel_rfl) (by kernel_rfl) (fun _ _ _ h => h) (Or.inr ⟨by rfl, rfl⟩) hHeld ?_
          simp only [Act.put, List.getElem_toArray, List.getElem_cons_succ, List.getElem_cons_zero, List.setIfInBounds_toArray, List.set_cons_zero, List.set_cons_succ]
          refine wpAnyH_take (i := 29) (v := undef) rfl (by kernel_rfl) (by kernel_rfl) (by kernel_rfl) (fun _ _ _ h => h) (Or.inr ⟨by rfl, rfl⟩) hHeld ?_
          simp only [Act.put, List.getElem_toArray, List.getElem_cons_succ, List.getElem_cons_zero, List.setIfInBounds_toArray, List.set_cons_zero, List.set_cons_succ]
          refine wpAnyH_take (i := 30) (v := undef) rfl (by kernel_rfl) (by kernel_rfl) (by kernel_rfl) (fun _ _ _ h => h) (Or.inr ⟨by rfl, rfl⟩) hHeld ?_
          simp only [Act.put, List.getElem_toArray, List.getElem_cons_succ, List.getElem_cons_zero, List.setIfInBounds_toArray, List.set_cons_zero, List.set_cons_succ]
          refine wpAnyH_take (i := 31) (v := undef) rfl (by kernel_rfl) (by kernel_rfl) (by kernel_rfl) (fun _ _ _ h => h) (Or.inr ⟨by rfl, rfl⟩) hHeld ?_
          simp only [Act.put, List.getElem_toArray, List.getElem_cons_succ, List.getElem_cons_zero, List.setIfInBounds_toArray, List.set_cons_zero, List.set_cons_succ]
          refine wpAnyH_take (i := 32) (v := undef) rfl (by kernel_rfl) (by kernel_rfl) (by kernel_rfl) (fun _ _ _ h => h) (Or.inr ⟨by rfl, rfl⟩) hHeld ?_
          simp only [Act.put, List.getElem_toArray, List.getElem_cons_succ, List.getElem_cons_zero, List.setIfInBounds_toArray, List.set_cons_zero, List.set_cons_succ]
          refine wpAnyH_take (i := 33) (v := undef) rfl (by kernel_rfl) (by kernel_rfl) (by kernel_rfl) (fun _ _ _ h => h) (Or.inr ⟨by rfl, rfl⟩) hHeld ?_
          simp only [Act.put, List.getElem_toArray, List.getElem_cons_succ, List.getElem_cons_zero, List.setIfInBounds_toArray, List.set_cons_zero, List.set_cons_succ]
          refine wpAnyH_take (i := 34) (v := undef) rfl (by kernel_rfl) (by kernel_rfl) (by kernel_rfl) (fun _ _ _ h => h) (Or.inr ⟨by rfl, rfl⟩) hHeld ?_
          simp only [Act.put, List.getElem_toArray, List.getElem_cons_succ, List.getElem_cons_zero, List.setIfInBounds_toArray, List.set_cons_zero, List.set_cons_succ]
          refine wpAnyH_take (i := 35) (v := undef) rfl (by kernel_rfl) (by kernel_rfl) (by kernel_rfl) (fun _ _ _ h => h) (Or.inr ⟨by rfl, rfl⟩) hHeld ?_
          simp only [Act.put, List.getElem_toArray, List.getElem_cons_succ, List.getElem_cons_zero, List.setIfInBounds_toArray, List.set_cons_zero, List.set_cons_succ]
          refine wpAnyH_take (i := 36) (v := undef) rfl (by kernel_rfl) (by kernel_rfl) (by kernel_rfl) (fun _ _ _ h => h) (Or.inr ⟨by rfl, rfl⟩) hHeld ?_
          simp only [Act.put, List.getElem_toArray, List.getElem_cons_succ, List.getElem_cons_zero, List.setIfInBounds_toArray, List.set_cons_zero, List.set_cons_succ]
          refine wpAnyH_take (i := 37) (v := undef) rfl (by kernel_rfl) (by kernel_rfl) (by kernel_rfl) (fun _ _ _ h => h) (Or.inr ⟨by rfl, rfl⟩) hHeld ?_
          simp only [Act.put, List.getElem_toArray, List.getElem_cons_succ, List.getElem_cons_zero, List.setIfInBounds_toArray, List.set_cons_zero, List.set_cons_succ]
          refine wpAnyH_take (i := 38) (v := undef) rfl (by kernel_rfl) (by kernel_rfl) (by kernel_rfl) (fun _ _ _ h => h) (Or.inr ⟨by rfl, rfl⟩) hHeld ?_
          simp only [Act.put, List.getElem_toArray, List.getElem_cons_succ, List.getElem_cons_zero, List.setIfInBounds_toArray, List.set_cons_zero, List.set_cons_succ]
          refine wpAnyH_take (i := 39) (v := undef) rfl (by kernel_rfl) (by kernel_rfl) (by kernel_rfl) (fun _ _ _ h => h) (Or.inr ⟨by rfl, rfl⟩) hHeld ?_
          simp only [Act.put, List.getElem_toArray, List.getElem_cons_succ, List.getElem_cons_zero, List.setIfInBounds_toArray, List.set_cons_zero, List.set_cons_succ]
          refine wpAnyH_take (i := 40) (v := ?_) rfl (by kernel_rfl) (by kernel_rfl) (by kernel_rfl) (fun _ _ _ h => h) (Or.inl ⟨by rfl, ?_⟩) hHeld ?_
          rotate_left
          · intro V hSw; obtain ⟨z1, z2, z3⟩ := hSw; have y1 := z1.cv; have y2 := z2.cv; clear z1 z2; go_simp; rfl
          simp only [Act.put, List.getElem_toArray, List.getElem_cons_succ, List.getElem_cons_zero, List.setIfInBounds_toArray, List.set_cons_zero, List.set_cons_succ]
          refine wpAnyH_done (by kernel_rfl) ?_ _
          refine NoPanic.normal ?_
          clear hHeld
          clear b2
          go_wp2_with fail
          go_meet
          exact ⟨⟨true, rfl, unhide F⟩, unhide X2, unhide Y2, unhide A2, unhide H2⟩
        have HJ2 := hide (inYes D.nx 0 1000000000 q6.1 q6.2)
        have PB : Hid (preB D up = up) := by
          show _ = _
          unfold preB
          rw [q0, decide_eq_true q2, decide_eq_true q3, decide_eq_true q6.1, decide_eq_true q6.2]
          rfl
        clear q0 q2 q3 sl0 q6
        by_cases g0 : 0 < k
        case neg =>
          have k9 : decide (0 < k) = false := decide_eq_false (by omega)
          have F : Hid (preB D up = !false) := by show _ = _; rw [unhide PB, unhide UP0 (by omega)]; rfl
          clear g0
          go_wp2_with fail
          refine wp_region_noPanic ?_
          refine wp_region_held_drew (S := fun V => Bx V w.heap.size [.slice (some ⟨bb, o, none⟩) L.length cap] ∧ Bx V wr.heap.size [.int .i64 D.sl, .int .i64 D.sv, .int .i64 D.nc, .string D.k, .bool D.t, .slice ra D.S.length cp, .int .i64 D.nx] ∧ True) (by kernel_rfl) ⟨((unhide HX).alloc _).drew, (unhide XE).drew, trivial⟩ (fun hHeld => ?_)
          refine wpAnyH_take (i := 0) (v := ?_) rfl (by kernel_rfl) (by kernel_rfl) (by kernel_rfl) (fun _ _ _ h => h) (Or.inl ⟨by rfl, ?_⟩) hHeld ?_
          rotate_left
          · intro V hSw; obtain ⟨z1, z2, z3⟩ := hSw; have y1 := z1.cv; have y2 := z2.cv; clear z1 z2; go_simp; rfl
          simp only [Act.put, List.getElem_toArray, List.getElem_cons_zero, List.setIfInBounds_toArray, List.set_cons_zero, List.set_cons_succ]
          refine wpAnyH_take (i := 1) (v := ?_) rfl (by kernel_rfl) (by kernel_rfl) (by kernel_rfl) (fun _ _ _ h => h) (Or.inl ⟨by rfl, ?_⟩) hHeld ?_
          rotate_left
          · intro V hSw; obtain ⟨z1, z2, z3⟩ := hSw; have y1 := z1.cv; have y2 := z2.cv; clear z1 z2; go_simp; rfl
          simp only [Act.put, List.getElem_toArray, List.getElem_cons_succ, List.getElem_cons_zero, List.setIfInBounds_toArray, List.set_cons_zero, List.set_cons_succ]
          refine wpAnyH_ready (rs := [2]) (by kernel_rfl) (by simp) ?_
          refine AllReadyH.cons rfl (fun K hK => ?_) AllReadyH.nil
          go_simp
          go_at_call 79
          with_reducible refine (unhide HC _).mono ?_
          rintro e w2 ⟨rfl, b2⟩
          have H2 := hide ((unhide hB).trans (((unhide AL).drew.trans (b2.mono (unhide AL).size)).mono (unhide hB).size))
          have X2 := hide ((((unhide HX).alloc _).drew).below b2)
          have Y2 := hide ((unhide XE).drew.below b2)
          have A2 := hide ((unhide HRA).1.below ((unhide AL).drew.trans (b2.mono (unhide AL).size)))
          refine hK.out _ _ (⟨hHeld.1.below b2, hHeld.2.1.below b2, trivial⟩) (fun hHeld => ?_)
          clear hK K
          try simp only [Act.put, List.getElem_toArray, List.getElem_cons_succ, List.getElem_cons_zero, List.setIfInBounds_toArray, List.set_cons_zero, List.set_cons_succ]
          refine wpAnyH_take (i := 3) (v := ?_) rfl (by kernel_rfl) (by kernel_rfl) (by kernel_rfl) (fun _ _ _ h => h) (Or.inl ⟨by rfl, ?_⟩) hHeld ?_
          rotate_left
          · intro V hSw; obtain ⟨z1, z2, z3⟩ := hSw; have y1 := z1.cv; have y2 := z2.cv; clear z1 z2; go_simp; rfl
          simp only [Act.put, List.getElem_toArray, List.getElem_cons_succ, List.getElem_cons_zero, List.setIfInBounds_toArray, List.set_cons_zero, List.set_cons_succ]
          refine wpAnyH_take (i := 4) (v := ?_) rfl (by kernel_rfl) (by kernel_rfl) (by kernel_rfl) (fun _ _ _ h => h) (Or.inl ⟨by rfl, ?_⟩) hHeld ?_
          rotate_left
          · intro V hSw; obtain ⟨z1, z2, z3⟩ := hSw; have y1 := z1.cv; have y2 := z2.cv; clear z1 z2; go_simp; rfl
          simp only [Act.put, List.getElem_toArray, List.getElem_cons_succ, List.getElem_cons_zero, List.setIfInBounds_toArray, List.set_cons_zero, List.set_cons_succ]
          refine wpAnyH_take (i := 5) (v := ?_) rfl (by kernel_rfl) (by kernel_rfl) (by kernel_rfl) (fun _ _ _ h => h) (Or.inl ⟨by rfl, ?_⟩) hHeld ?_
          rotate_left
          · intro V hSw; obtain ⟨z1, z2, z3⟩ := hSw; have y1 := z1.cv; have y2 := z2.cv; clear z1 z2; go_simp; rfl
          simp only [Act.put, List.getElem_toArray, List.getElem_cons_succ, List.getElem_cons_zero, List.setIfInBounds_toArray, List.set_cons_zero, List.set_cons_succ]
          refine wpAnyH_take (i := 6) (v := ?_) rfl (by kernel_rfl) (by kernel_rfl) (by kernel_rfl) (fun _ _ _ h => h) (Or.inl ⟨by rfl, ?_⟩) hHeld ?_
          rotate_left
          · intro V hSw; obtain ⟨z1, z2, z3⟩ := hSw; have y1 := z1.cv; have y2 := z2.cv; clear z1 z2; go_simp; rfl
          simp only [Act.put, List.getElem_toArray, List.getElem_cons_succ, List.getElem_cons_zero, List.setIfInBounds_toArray, List.set_cons_zero, List.set_cons_succ]
          refine wpAnyH_take (i := 7) (v := ?_) rfl (by kernel_rfl) (by kernel_rfl) (by kernel_rfl) (fun _ _ _ h => h) (Or.inl ⟨by rfl, ?_⟩) hHeld ?_
          rotate_left
          · intro V hSw; obtain ⟨z1, z2, z3⟩ := hSw; have y1 := z1.cv; have y2 := z2.cv; clear z1 z2; go_simp; rfl
          simp only [Act.put, List.getElem_toArray, List.getElem_cons_succ, List.getElem_cons_zero, List.setIfInBounds_toArray, List.set_cons_zero, List.set_cons_succ]
          refine wpAnyH_ready (rs := [8]) (by kernel_rfl) (by simp) ?_
          refine AllReadyH.cons rfl (fun K hK => ?_) AllReadyH.nil
          go_simp
          go_at_call 34
          with_reducible refine (unhide HI _).mono ?_
          rintro e w9 ⟨rfl, h9⟩
          rw [h9]
          clear h9 w9
          refine hK.out _ _ (hHeld) (fun hHeld => ?_)
          clear hK K
          try simp only [Act.put, List.getElem_toArray, List.getElem_cons_succ, List.getElem_cons_zero, List.setIfInBounds_toArray, List.set_cons_zero, List.set_cons_succ]
          refine wpAnyH_take (i := 9) (v := ?_) rfl (by kernel_rfl) (by kernel_rfl) (by kernel_rfl) (fun _ _ _ h => h) (Or.inl ⟨by rfl, ?_⟩) hHeld ?_
          rotate_left
          · intro V hSw; obtain ⟨z1, z2, z3⟩ := hSw; have y1 := z1.cv; have y2 := z2.cv; clear z1 z2; go_simp; rfl
          simp only [Act.put, List.getElem_toArray, List.getElem_cons_succ, List.getElem_cons_zero, List.setIfInBounds_toArray, List.set_cons_zero, List.set_cons_succ]
          refine wpAnyH_take (i := 10) (v := ?_) rfl (by kernel_rfl) (by kernel_rfl) (by kernel_rfl) (fun _ _ _ h => h) (Or.inl ⟨by rfl, ?_⟩) hHeld ?_
          rotate_left
          · intro V hSw; obtain ⟨z1, z2, z3⟩ := hSw; have y1 := z1.cv; have y2 := z2.cv; clear z1 z2; go_simp; rfl
          simp only [Act.put, List.getElem_toArray, List.getElem_cons_succ, List.getElem_cons_zero, List.setIfInBounds_toArray, List.set_cons_zero, List.set_cons_succ]
          refine wpAnyH_take (i := 11) (v := ?_) rfl (by kernel_rfl) (by kernel_rfl) (by kernel_rfl) (fun _ _ _ h => h) (Or.inl ⟨by rfl, ?_⟩) hHeld ?_
          rotate_left
          · intro V hSw; obtain ⟨z1, z2, z3⟩ := hSw; have y1 := z1.cv; have y2 := z2.cv; clear z1 z2; go_simp; rfl
          simp only [Act.put, List.getElem_toArray, List.getElem_cons_succ, List.getElem_cons_zero, List.setIfInBounds_toArray, List.set_cons_zero, List.set_cons_succ]
          refine wpAnyH_take (i := 12) (v := ?_) rfl (by kernel_rfl) (by kernel_rfl) (by kernel_rfl) (fun _ _ _ h => h) (Or.inl ⟨by rfl, ?_⟩) hHeld ?_
          rotate_left
          · intro V hSw; obtain ⟨z1, z2, z3⟩ := hSw; have y1 := z1.cv; have y2 := z2.cv; clear z1 z2; go_simp; rfl
          simp only [Act.put, List.getElem_toArray, List.getElem_cons_succ, List.getElem_cons_zero, List.setIfInBounds_toArray, List.set_cons_zero, List.set_cons_succ]
          refine wpAnyH_take (i := 13) (v := ?_) rfl (by kernel_rfl) (by kernel_rfl) (by kernel_rfl) (fun _ _ _ h => h) (Or.inl ⟨by rfl, ?_⟩) hHeld ?_
          rotate_left
          · intro V hSw; obtain ⟨z1, z2, z3⟩ := hSw; have y1 := z1.cv; have y2 := z2.cv; clear z1 z2; go_simp; rfl
          simp only [Act.put, List.getElem_toArray, List.getElem_cons_succ, List.getElem_cons_zero, List.setIfInBounds_toArray, List.set_cons_zero, List.set_cons_succ]
          refine wpAnyH_take (i := 14) (v := ?_) rfl (by kernel_rfl) (by kernel_rfl) (by kernel_rfl) (fun _ _ _ h => h) (Or.inl ⟨by rfl, ?_⟩) hHeld ?_
          rotate_left
          · intro V hSw; obtain ⟨z1, z2, z3⟩ := hSw; have y1 := z1.cv; have y2 := z2.cv; clear z1 z2; go_simp; rfl
          simp only [Act.put, List.getElem_toArray, List.getElem_cons_succ, List.getElem_cons_zero, List.setIfInBounds_toArray, List.set_cons_zero, List.set_cons_succ]
          refine wpAnyH_take (i := 15) (v := ?_) rfl (by kernel_rfl) (by kernel_rfl) (by kernel_rfl) (fun _ _ _ h => h) (Or.inl ⟨by rfl, ?_⟩) hHeld ?_
          rotate_left
          · intro V hSw; obtain ⟨z1, z2, z3⟩ := hSw; have y1 := z1.cv; have y2 := z2.cv; clear z1 z2; go_simp; rfl
          simp only [Act.put, List.getElem_toArray, List.getElem_cons_succ, List.getElem_cons_zero, List.setIfInBounds_toArray, List.set_cons_zero, List.set_cons_succ]
          refine wpAnyH_take (i := 16) (v := ?_) rfl (by kernel_rfl) (by kernel_rfl) (by kernel_rfl) (fun _ _ _ h => h) (Or.inl ⟨by rfl, ?_⟩) hHeld ?_
          rotate_left
          · intro V hSw; obtain ⟨z1, z2, z3⟩ := hSw; have y1 := z1.cv; have y2 := z2.cv; clear z1 z2; go_simp; rfl
          simp only [Act.put, List.getElem_toArray, List.getElem_cons_succ, List.getElem_cons_zero, List.setIfInBounds_toArray, List.set_cons_zero, List.set_cons_succ]
          refine wpAnyH_take (i := 17) (v := ?_) rfl (by kernel_rfl) (by kernel_rfl) (by kernel_rfl) (fun _ _ _ h => h) (Or.inl ⟨by rfl, ?_⟩) hHeld ?_
          rotate_left
          · intro V hSw; obtain ⟨z1, z2, z3⟩ := hSw; have y1 := z1.cv; have y2 := z2.cv; clear z1 z2; go_simp; rfl
          simp only [Act.put, List.getElem_toArray, List.getElem_cons_succ, List.getElem_cons_zero, List.setIfInBounds_toArray, List.set_cons_zero, List.set_cons_succ]
          refine wpAnyH_take (i := 18) (v := ?_) rfl (by kernel_rfl) (by kernel_rfl) (by kernel_rfl) (fun _ _ _ h => h) (Or.inl ⟨by rfl, ?_⟩) hHeld ?_
          rotate_left
          · intro V hSw; obtain ⟨z1, z2, z3⟩ := hSw; have y1 := z1.cv; have y2 := z2.cv; clear z1 z2; go_simp; rfl
          simp only [Act.put, List.getElem_toArray, List.getElem_cons_succ, List.getElem_cons_zero, List.setIfInBounds_toArray, List.set_cons_zero, List.set_cons_succ]
          refine wpAnyH_take (i := 19) (v := ?_) rfl (by kernel_rfl) (by kernel_rfl) (by kernel_rfl) (fun _ _ _ h => h) (Or.inl ⟨by rfl, ?_⟩) hHeld ?_
          rotate_left
          · intro V hSw; obtain ⟨z1, z2, z3⟩ := hSw; have y1 := z1.cv; have y2 := z2.cv; clear z1 z2; go_simp; rfl
          simp only [Act.put, List.getElem_toArray, List.getElem_cons_succ, List.getElem_cons_zero, List.setIfInBounds_toArray, List.set_cons_zero, List.set_cons_succ]
          refine wpAnyH_ready (rs := [20]) (by kernel_rfl) (by simp) ?_
          refine AllReadyH.cons rfl (fun K hK => ?_) AllReadyH.nil
          go_simp
          go_at_call 34
          with_reducible refine (unhide HJ2 _).mono ?_
          rintro e w9 ⟨rfl, h9⟩
          rw [h9]
          clear h9 w9
          refine hK.out _ _ (hHeld) (fun hHeld => ?_)
          clear hK K
          try simp only [Act.put, List.getElem_toArray, List.getElem_cons_succ, List.getElem_cons_zero, List.setIfInBounds_toArray, List.set_cons_zero, List.set_cons_succ]
          refine wpAnyH_take (i := 21) (v := ?_) rfl (by kernel_rfl) (by kernel_rfl) (by kernel_rfl) (fun _ _ _ h => h) (Or.inl ⟨by rfl, ?_⟩) hHeld ?_
          rotate_left
          · intro V hSw; obtain ⟨z1, z2, z3⟩ := hSw; have y1 := z1.cv; have y2 := z2.cv; clear z1 z2; go_simp; rfl
          simp only [Act.put, List.getElem_toArray, List.getElem_cons_succ, List.getElem_cons_zero, List.setIfInBounds_toArray, List.set_cons_zero, List.set_cons_succ]
          refine wpAnyH_take (i := 22) (v := ?_) rfl (by kernel_rfl) (by kernel_rfl) (by kernel_rfl) (fun _ _ _ h => h) (Or.inl ⟨by rfl, ?_⟩) hHeld ?_
          rotate_left
          · intro V hSw; obtain ⟨z1, z2, z3⟩ := hSw; have y1 := z1.cv; have y2 := z2.cv; clear z1 z2; go_simp; rfl
          simp only [Act.put, List.getElem_toArray, List.getElem_cons_succ, List.getElem_cons_zero, List.setIfInBounds_toArray, List.set_cons_zero, List.set_cons_succ]
          refine wpAnyH_take (i := 23) (v := ?_) rfl (by kernel_rfl) (by kernel_rfl) (by kernel_rfl) (fun _ _ _ h => h) (Or.inl ⟨by rfl, ?_⟩) hHeld ?_
          rotate_left
          · intro V hSw; obtain ⟨z1, z2, z3⟩ := hSw; have y1 := z1.cv; have y2 := z2.cv; clear z1 z2; go_simp; rfl
          simp only [Act.put, List.getElem_toArray, List.getElem_cons_succ, List.getElem_cons_zero, List.setIfInBounds_toArray, List.set_cons_zero, List.set_cons_succ]
          refine wpAnyH_take (i := 24) (v := ?_) rfl (by kernel_rfl) (by kernel_rfl) (by kernel_rfl) (fun _ _ _ h => h) (Or.inl ⟨by rfl, ?_⟩) hHeld ?_
          rotate_left
          · intro V hSw; obtain ⟨z1, z2, z3⟩ := hSw; have y1 := z1.cv; have y2 := z2.cv; clear z1 z2; go_simp; rfl
          simp only [Act.put, List.getElem_toArray, List.getElem_cons_succ, List.getElem_cons_zero, List.setIfInBounds_toArray, List.set_cons_zero, List.set_cons_succ]
          refine wpAnyH_take (i := 25) (v := ?_) rfl (by kernel_rfl) (by kernel_rfl) (by kernel_rfl) (fun _ _ _ h => h) (Or.inl ⟨by rfl, ?_⟩) hHeld ?_
          rotate_left
          · intro V hSw; obtain ⟨z1, z2, z3⟩ := hSw; have y1 := z1.cv; have y2 := z2.cv; clear z1 z2; go_simp; rfl
          simp only [Act.put, List.getElem_toArray, List.getElem_cons_succ, List.getElem_cons_zero, List.setIfInBounds_toArray, List.set_cons_zero, List.set_cons_succ]
          refine wpAnyH_take (i := 26) (v := ?_) rfl (by kernel_rfl) (by kernel_rfl) (by kernel_rfl) (fun _ _ _ h => h) (Or.inl ⟨by rfl, ?_⟩) hHeld ?_
          rotate_left
          · intro V hSw; obtain ⟨z1, z2, z3⟩ := hSw; have y1 := z1.cv; have y2 := z2.cv; clear z1 z2; go_simp; rfl
          simp only [Act.put, List.getElem_toArray, List.getElem_cons_succ, List.getElem_cons_zero, List.setIfInBounds_toArray, List.set_cons_zero, List.set_cons_succ]
          refine wpAnyH_take (i := 27) (v := undef) rfl (by kernel_rfl) (by kernel_rfl) (by kernel_rfl) (fun _ _ _ h => h) (Or.inr ⟨by rfl, rfl⟩) hHeld ?_
          simp only [Act.put, List.getElem_toArray, List.getElem_cons_succ, List.getElem_cons_zero, List.setIfInBounds_toArray, List.set_cons_zero, List.set_cons_succ]
          refine wpAnyH_take (i := 28) (v := undef) rfl (by kernel_rfl) (by kernel_rfl) (by kernel_rfl) (fun _ _ _ h => h) (Or.inr ⟨by rfl, rfl⟩) hHeld ?_
          simp only [Act.put, List.getElem_toArray, List.getElem_cons_succ, List.getElem_cons_zero, List.setIfInBounds_toArray, List.set_cons_zero, List.set_cons_succ]
          refine wpAnyH_take (i := 29) (v := undef) rfl (by kernel_rfl) (by kernel_rfl) (by kernel_rfl) (fun _ _ _ h => h) (Or.inr ⟨by rfl, rfl⟩) hHeld ?_
          simp only [Act.put, List.getElem_toArray, List.getElem_cons_succ, List.getElem_cons_zero, List.setIfInBounds_toArray, List.set_cons_zero, List.set_cons_succ]
          refine wpAnyH_take (i := 30) (v := undef) rfl (by kernel_rfl) (by kernel_rfl) (by kernel_rfl) (fun _ _ _ h => h) (Or.inr ⟨by rfl, rfl⟩) hHeld ?_
          simp only [Act.put, List.getElem_toArray, List.getElem_cons_succ, List.getElem_cons_zero, List.setIfInBounds_toArray, List.set_cons_zero, List.set_cons_succ]
          refine wpAnyH_take (i := 31) (v := undef) rfl (by kernel_rfl) (by kernel_rfl) (by kernel_rfl) (fun _ _ _ h => h) (Or.inr ⟨by rfl, rfl⟩) hHeld ?_
          simp only [Act.put, List.getElem_toArray, List.getElem_cons_succ, List.getElem_cons_zero, List.setIfInBounds_toArray, List.set_cons_zero, List.set_cons_succ]
          refine wpAnyH_take (i := 32) (v := undef) rfl (by kernel_rfl) (by kernel_rfl) (by kernel_rfl) (fun _ _ _ h => h) (Or.inr ⟨by rfl, rfl⟩) hHeld ?_
          simp only [Act.put, List.getElem_toArray, List.getElem_cons_succ, List.getElem_cons_zero, List.setIfInBounds_toArray, List.set_cons_zero, List.set_cons_succ]
          refine wpAnyH_take (i := 33) (v := undef) rfl (by kernel_rfl) (by kernel_rfl) (by kernel_rfl) (fun _ _ _ h => h) (Or.inr ⟨by rfl, rfl⟩) hHeld ?_
          simp only [Act.put, List.getElem_toArray, List.getElem_cons_succ, List.getElem_cons_zero, List.setIfInBounds_toArray, List.set_cons_zero, List.set_cons_succ]
          refine wpAnyH_take (i := 34) (v := undef) rfl (by kernel_rfl) (by kernel_rfl) (by kernel_rfl) (fun _ _ _ h => h) (Or.inr ⟨by rfl, rfl⟩) hHeld ?_
          simp only [Act.put, List.getElem_toArray, List.getElem_cons_succ, List.getElem_cons_zero, List.setIfInBounds_toArray, List.set_cons_zero, List.set_cons_succ]
          refine wpAnyH_take (i := 35) (v := undef) rfl (by kernel_rfl) (by kernel_rfl) (by kernel_rfl) (fun _ _ _ h => h) (Or.inr ⟨by rfl, rfl⟩) hHeld ?_
          simp only [Act.put, List.getElem_toArray, List.getElem_cons_succ, List.getElem_cons_zero, List.setIfInBounds_toArray, List.set_cons_zero, List.set_cons_succ]
          refine wpAnyH_take (i := 36) (v := undef) rfl (by kernel_rfl) (by kernel_rfl) (by kernel_rfl) (fun _ _ _ h => h) (Or.inr ⟨by rfl, rfl⟩) hHeld ?_
          simp only [Act.put, List.getElem_toArray, List.getElem_cons_succ, List.getElem_cons_zero, List.setIfInBounds_toArray, List.set_cons_zero, List.set_cons_succ]
          refine wpAnyH_take (i := 37) (v := undef) rfl (by kernel_rfl) (by kernel_rfl) (by kernel_rfl) (fun _ _ _ h => h) (Or.inr ⟨by rfl, rfl⟩) hHeld ?_
          simp only [Act.put, List.getElem_toArray, List.getElem_cons_succ, List.getElem_cons_zero, List.setIfInBounds_toArray, List.set_cons_zero, List.set_cons_succ]
          refine wpAnyH_take (i := 38) (v := undef) rfl (by kernel_rfl) (by kernel_rfl) (by kernel_rfl) (fun _ _ _ h => h) (Or.inr ⟨by rfl, rfl⟩) hHeld ?_
          simp only [Act.put, List.getElem_toArray, List.getElem_cons_succ, List.getElem_cons_zero, List.setIfInBounds_toArray, List.set_cons_zero, List.set_cons_succ]
          refine wpAnyH_take (i := 39) (v := ?_) rfl (by kernel_rfl) (by kernel_rfl) (by kernel_rfl) (fun _ _ _ h => h) (Or.inl ⟨by rfl, ?_⟩) hHeld ?_
          rotate_left
          · intro V hSw; obtain ⟨z1, z2, z3⟩ := hSw; have y1 := z1.cv; have y2 := z2.cv; clear z1 z2; go_simp; rfl
          simp only [Act.put, List.getElem_toArray, List.getElem_cons_succ, List.getElem_cons_zero, List.setIfInBounds_toArray, List.set_cons_zero, List.set_cons_succ]
          refine wpAnyH_take (i := 40) (v := ?_) rfl (by kernel_rfl) (by kernel_rfl) (by kernel_rfl) (fun _ _ _ h => h) (Or.inl ⟨by rfl, ?_⟩) hHeld ?_
          rotate_left
          · intro V hSw; obtain ⟨z1, z2, z3⟩ := hSw; have y1 := z1.cv; have y2 := z2.cv; clear z1 z2; go_simp; rfl
          simp only [Act.put, List.getElem_toArray, List.getElem_cons_succ, List.getElem_cons_zero, List.setIfInBounds_toArray, List.set_cons_zero, List.set_cons_succ]
          refine wpAnyH_done (by kernel_rfl) ?_ _
          refine NoPanic.normal ?_
          clear hHeld
          clear b2
          go_wp2_with fail
          go_meet
          exact ⟨⟨false, rfl, unhide F⟩, unhide X2, unhide Y2, unhide A2, unhide H2⟩
        obtain ⟨j, hj⟩ : ∃ j : Nat, k = j + 1 := ⟨k - 1, by omega⟩
        have hw : IntKind.i64.wrap ((k : Int) - 1) = (j : Int) := by rw [wraps_i64 _ (by omega) (by omega)]; omega
        have hj0 : (0 : Int) ≤ (j : Int) := by omega
        have hj1 : (j : Int) < (L.length : Int) := by omega
        have hk0 : (0 : Int) < (k : Int) := by omega
        obtain ⟨_, _, hc', _, _⟩ := unhide HJ j hj
        have d0 := hc'.c0
        have d1 := hide (((unhide AL).drew.cell (p := ⟨bb, o + j * 7, none⟩) hlb).trans d0)
        clear hc'
        have UP2 := unhide UP1 g0
        rw [show k - 1 = j by omega] at UP2
        generalize eA L j = D' at *
        by_cases t0 : D'.sl < D.sl
        case neg =>
          have F : Hid (preB D up = !true) := by show _ = _; rw [unhide PB, UP2, decide_eq_false t0]; rfl
          have t1 : D.sl ≤ D'.sl := by omega
          clear t0 UP2 hj
          go_wp2_with fail
          refine wp_region_noPanic ?_
          refine wp_region_held_drew (S := fun V => Bx V w.heap.size [.slice (some ⟨bb, o, none⟩) L.length cap] ∧ Bx V wr.heap.size [.int .i64 D.sl, .int .i64 D.sv, .int .i64 D.nc, .string D.k, .bool D.t, .slice ra D.S.length cp, .int .i64 D.nx] ∧ V.cell? ⟨bb, o + j * 7, none⟩ = some (.int .i64 D'.sl)) (by kernel_rfl) ⟨((unhide HX).alloc _).drew, (unhide XE).drew, unhide d1⟩ (fun hHeld => ?_)
          refine wpAnyH_take (i := 0) (v := ?_) rfl (by kernel_rfl) (by kernel_rfl) (by kernel_rfl) (fun _ _ _ h => h) (Or.inl ⟨by rfl, ?_⟩) hHeld ?_
          rotate_left
          · intro V hSw; obtain ⟨z1, z2, z3⟩ := hSw; have y1 := z1.cv; have y2 := z2.cv; clear z1 z2; go_simp; rfl
          simp only [Act.put, List.getElem_toArray, List.getElem_cons_zero, List.setIfInBounds_toArray, List.set_cons_zero, List.set_cons_succ]
          refine wpAnyH_take (i := 1) (v := ?_) rfl (by kernel_rfl) (by kernel_rfl) (by kernel_rfl) (fun _ _ _ h => h) (Or.inl ⟨by rfl, ?_⟩) hHeld ?_
          rotate_left
          · intro V hSw; obtain ⟨z1, z2, z3⟩ := hSw; have y1 := z1.cv; have y2 := z2.cv; clear z1 z2; go_simp; rfl
          simp only [Act.put, List.getElem_toArray, List.getElem_cons_succ, List.getElem_cons_zero, List.setIfInBounds_toArray, List.set_cons_zero, List.set_cons_succ]
          refine wpAnyH_ready (rs := [2]) (by kernel_rfl) (by simp) ?_
          refine AllReadyH.cons rfl (fun K hK => ?_) AllReadyH.nil
          go_simp
          go_at_call 79
          with_reducible refine (unhide HC _).mono ?_
          rintro e w2 ⟨rfl, b2⟩
          have H2 := hide ((unhide hB).trans (((unhide AL).drew.trans (b2.mono (unhide AL).size)).mono (unhide hB).size))
          have X2 := hide ((((unhide HX).alloc _).drew).below b2)
          have Y2 := hide ((unhide XE).drew.below b2)
          have A2 := hide ((unhide HRA).1.below ((unhide AL).drew.trans (b2.mono (unhide AL).size)))
          refine hK.out _ _ (⟨hHeld.1.below b2, hHeld.2.1.below b2, ((unhide AL).drew.trans (b2.mono (unhide AL).size)).cell (p := ⟨bb, o + j * 7, none⟩) hlb |>.trans d0⟩) (fun hHeld => ?_)
          clear hK K
          try simp only [Act.put, List.getElem_toArray, List.getElem_cons_succ, List.getElem_cons_zero, List.setIfInBounds_toArray, List.set_cons_zero, List.set_cons_succ]
          refine wpAnyH_take (i := 3) (v := ?_) rfl (by kernel_rfl) (by kernel_rfl) (by kernel_rfl) (fun _ _ _ h => h) (Or.inl ⟨by rfl, ?_⟩) hHeld ?_
          rotate_left
          · intro V hSw; obtain ⟨z1, z2, z3⟩ := hSw; have y1 := z1.cv; have y2 := z2.cv; clear z1 z2; go_simp; rfl
          simp only [Act.put, List.getElem_toArray, List.getElem_cons_succ, List.getElem_cons_zero, List.setIfInBounds_toArray, List.set_cons_zero, List.set_cons_succ]
          refine wpAnyH_take (i := 4) (v := ?_) rfl (by kernel_rfl) (by kernel_rfl) (by kernel_rfl) (fun _ _ _ h => h) (Or.inl ⟨by rfl, ?_⟩) hHeld ?_
          rotate_left
          · intro V hSw; obtain ⟨z1, z2, z3⟩ := hSw; have y1 := z1.cv; have y2 := z2.cv; clear z1 z2; go_simp; rfl
          simp only [Act.put, List.getElem_toArray, List.getElem_cons_succ, List.getElem_cons_zero, List.setIfInBounds_toArray, List.set_cons_zero, List.set_cons_succ]
          refine wpAnyH_take (i := 5) (v := ?_) rfl (by kernel_rfl) (by kernel_rfl) (by kernel_rfl) (fun _ _ _ h => h) (Or.inl ⟨by rfl, ?_⟩) hHeld ?_
          rotate_left
          · intro V hSw; obtain ⟨z1, z2, z3⟩ := hSw; have y1 := z1.cv; have y2 := z2.cv; clear z1 z2; go_simp; rfl
          simp only [Act.put, List.getElem_toArray, List.getElem_cons_succ, List.getElem_cons_zero, List.setIfInBounds_toArray, List.set_cons_zero, List.set_cons_succ]
          refine wpAnyH_take (i := 6) (v := ?_) rfl (by kernel_rfl) (by kernel_rfl) (by kernel_rfl) (fun _ _ _ h => h) (Or.inl ⟨by rfl, ?_⟩) hHeld ?_
          rotate_left
          · intro V hSw; obtain ⟨z1, z2, z3⟩ := hSw; have y1 := z1.cv; have y2 := z2.cv; clear z1 z2; go_simp; rfl
          simp only [Act.put, List.getElem_toArray, List.getElem_cons_succ, List.getElem_cons_zero, List.setIfInBounds_toArray, List.set_cons_zero, List.set_cons_succ]
          refine wpAnyH_take (i := 7) (v := ?_) rfl (by kernel_rfl) (by kernel_rfl) (by kernel_rfl) (fun _ _ _ h => h) (Or.inl ⟨by rfl, ?_⟩) hHeld ?_
          rotate_left
          · intro V hSw; obtain ⟨z1, z2, z3⟩ := hSw; have y1 := z1.cv; have y2 := z2.cv; clear z1 z2; go_simp; rfl
          simp only [Act.put, List.getElem_toArray, List.getElem_cons_succ, List.getElem_cons_zero, List.setIfInBounds_toArray, List.set_cons_zero, List.set_cons_succ]
          refine wpAnyH_ready (rs := [8]) (by kernel_rfl) (by simp) ?_
          refine AllReadyH.cons rfl (fun K hK => ?_) AllReadyH.nil
          go_simp
          go_at_call 34
          with_reducible refine (unhide HI _).mono ?_
          rintro e w9 ⟨rfl, h9⟩
          rw [h9]
          clear h9 w9
          refine hK.out _ _ (hHeld) (fun hHeld => ?_)
          clear hK K
          try simp only [Act.put, List.getElem_toArray, List.getElem_cons_succ, List.getElem_cons_zero, List.setIfInBounds_toArray, List.set_cons_zero, List.set_cons_succ]
          refine wpAnyH_take (i := 9) (v := ?_) rfl (by kernel_rfl) (by kernel_rfl) (by kernel_rfl) (fun _ _ _ h => h) (Or.inl ⟨by rfl, ?_⟩) hHeld ?_
          rotate_left
          · intro V hSw; obtain ⟨z1, z2, z3⟩ := hSw; have y1 := z1.cv; have y2 := z2.cv; clear z1 z2; go_simp; rfl
          simp only [Act.put, List.getElem_toArray, List.getElem_cons_succ, List.getElem_cons_zero, List.setIfInBounds_toArray, List.set_cons_zero, List.set_cons_succ]
          refine wpAnyH_take (i := 10) (v := ?_) rfl (by kernel_rfl) (by kernel_rfl) (by kernel_rfl) (fun _ _ _ h => h) (Or.inl ⟨by rfl, ?_⟩) hHeld ?_
          rotate_left
          · intro V hSw; obtain ⟨z1, z2, z3⟩ := hSw; have y1 := z1.cv; have y2 := z2.cv; clear z1 z2; go_simp; rfl
          simp only [Act.put, List.getElem_toArray, List.getElem_cons_succ, List.getElem_cons_zero, List.setIfInBounds_toArray, List.set_cons_zero, List.set_cons_succ]
          refine wpAnyH_take (i := 11) (v := ?_) rfl (by kernel_rfl) (by kernel_rfl) (by kernel_rfl) (fun _ _ _ h => h) (Or.inl ⟨by rfl, ?_⟩) hHeld ?_
          rotate_left
          · intro V hSw; obtain ⟨z1, z2, z3⟩ := hSw; have y1 := z1.cv; have y2 := z2.cv; clear z1 z2; go_simp; rfl
          simp only [Act.put, List.getElem_toArray, List.getElem_cons_succ, List.getElem_cons_zero, List.setIfInBounds_toArray, List.set_cons_zero, List.set_cons_succ]
          refine wpAnyH_take (i := 12) (v := ?_) rfl (by kernel_rfl) (by kernel_rfl) (by kernel_rfl) (fun _ _ _ h => h) (Or.inl ⟨by rfl, ?_⟩) hHeld ?_
          rotate_left
          · intro V hSw; obtain ⟨z1, z2, z3⟩ := hSw; have y1 := z1.cv; have y2 := z2.cv; clear z1 z2; go_simp; rfl
          simp only [Act.put, List.getElem_toArray, List.getElem_cons_succ, List.getElem_cons_zero, List.setIfInBounds_toArray, List.set_cons_zero, List.set_cons_succ]
          refine wpAnyH_take (i := 13) (v := ?_) rfl (by kernel_rfl) (by kernel_rfl) (by kernel_rfl) (fun _ _ _ h => h) (Or.inl ⟨by rfl, ?_⟩) hHeld ?_
          rotate_left
          · intro V hSw; obtain ⟨z1, z2, z3⟩ := hSw; have y1 := z1.cv; have y2 := z2.cv; clear z1 z2; go_simp; rfl
          simp only [Act.put, List.getElem_toArray, List.getElem_cons_succ, List.getElem_cons_zero, List.setIfInBounds_toArray, List.set_cons_zero, List.set_cons_succ]
          refine wpAnyH_take (i := 14) (v := ?_) rfl (by kernel_rfl) (by kernel_rfl) (by kernel_rfl) (fun _ _ _ h => h) (Or.inl ⟨by rfl, ?_⟩) hHeld ?_
          rotate_left
          · intro V hSw; obtain ⟨z1, z2, z3⟩ := hSw; have y1 := z1.cv; have y2 := z2.cv; clear z1 z2; go_simp; rfl
          simp only [Act.put, List.getElem_toArray, List.getElem_cons_succ, List.getElem_cons_zero, List.setIfInBounds_toArray, List.set_cons_zero, List.set_cons_succ]
          refine wpAnyH_take (i := 15) (v := ?_) rfl (by kernel_rfl) (by kernel_rfl) (by kernel_rfl) (fun _ _ _ h => h) (Or.inl ⟨by rfl, ?_⟩) hHeld ?_
          rotate_left
          · intro V hSw; obtain ⟨z1, z2, z3⟩ := hSw; have y1 := z1.cv; have y2 := z2.cv; clear z1 z2; go_simp; rfl
          simp only [Act.put, List.getElem_toArray, List.getElem_cons_succ, List.getElem_cons_zero, List.setIfInBounds_toArray, List.set_cons_zero, List.set_cons_succ]
          refine wpAnyH_take (i := 16) (v := ?_) rfl (by kernel_rfl) (by kernel_rfl) (by kernel_rfl) (fun _ _ _ h => h) (Or.inl ⟨by rfl, ?_⟩) hHeld ?_
          rotate_left
          · intro V hSw; obtain ⟨z1, z2, z3⟩ := hSw; have y1 := z1.cv; have y2 := z2.cv; clear z1 z2; go_simp; rfl
          simp only [Act.put, List.getElem_toArray, List.getElem_cons_succ, List.getElem_cons_zero, List.setIfInBounds_toArray, List.set_cons_zero, List.set_cons_succ]
          refine wpAnyH_take (i := 17) (v := ?_) rfl (by kernel_rfl) (by kernel_rfl) (by kernel_rfl) (fun _ _ _ h => h) (Or.inl ⟨by rfl, ?_⟩) hHeld ?_
          rotate_left
          · intro V hSw; obtain ⟨z1, z2, z3⟩ := hSw; have y1 := z1.cv; have y2 := z2.cv; clear z1 z2; go_simp; rfl
          simp only [Act.put, List.getElem_toArray, List.getElem_cons_succ, List.getElem_cons_zero, List.setIfInBounds_toArray, List.set_cons_zero, List.set_cons_succ]
          refine wpAnyH_take (i := 18) (v := ?_) rfl (by kernel_rfl) (by kernel_rfl) (by kernel_rfl) (fun _ _ _ h => h) (Or.inl ⟨by rfl, ?_⟩) hHeld ?_
          rotate_left
          · intro V hSw; obtain ⟨z1, z2, z3⟩ := hSw; have y1 := z1.cv; have y2 := z2.cv; clear z1 z2; go_simp; rfl
          simp only [Act.put, List.getElem_toArray, List.getElem_cons_succ, List.getElem_cons_zero, List.setIfInBounds_toArray, List.set_cons_zero, List.set_cons_succ]
          refine wpAnyH_take (i := 19) (v := ?_) rfl (by kernel_rfl) (by kernel_rfl) (by kernel_rfl) (fun _ _ _ h => h) (Or.inl ⟨by rfl, ?_⟩) hHeld ?_
          rotate_left
          · intro V hSw; obtain ⟨z1, z2, z3⟩ := hSw; have y1 := z1.cv; have y2 := z2.cv; clear z1 z2; go_simp; rfl
          simp only [Act.put, List.getElem_toArray, List.getElem_cons_succ, List.getElem_cons_zero, List.setIfInBounds_toArray, List.set_cons_zero, List.set_cons_succ]
          refine wpAnyH_ready (rs := [20]) (by kernel_rfl) (by simp) ?_
          refine AllReadyH.cons rfl (fun K hK => ?_) AllReadyH.nil
          go_simp
          go_at_call 34
          with_reducible refine (unhide HJ2 _).mono ?_
          rintro e w9 ⟨rfl, h9⟩
          rw [h9]
          clear h9 w9
          refine hK.out _ _ (hHeld) (fun hHeld => ?_)
          clear hK K
          try simp only [Act.put, List.getElem_toArray, List.getElem_cons_succ, List.getElem_cons_zero, List.setIfInBounds_toArray, List.set_cons_zero, List.set_cons_succ]
          refine wpAnyH_take (i := 21) (v := ?_) rfl (by kernel_rfl) (by kernel_rfl) (by kernel_rfl) (fun _ _ _ h => h) (Or.inl ⟨by rfl, ?_⟩) hHeld ?_
          rotate_left
          · intro V hSw; obtain ⟨z1, z2, z3⟩ := hSw; have y1 := z1.cv; have y2 := z2.cv; clear z1 z2; go_simp; rfl
          simp only [Act.put, List.getElem_toArray, List.getElem_cons_succ, List.getElem_cons_zero, List.setIfInBounds_toArray, List.set_cons_zero, List.set_cons_succ]
          refine wpAnyH_take (i := 22) (v := ?_) rfl (by kernel_rfl) (by kernel_rfl) (by kernel_rfl) (fun _ _ _ h => h) (Or.inl ⟨by rfl, ?_⟩) hHeld ?_
          rotate_left
          · intro V hSw; obtain ⟨z1, z2, z3⟩ := hSw; have y1 := z1.cv; have y2 := z2.cv; clear z1 z2; go_simp; rfl
          simp only [Act.put, List.getElem_toArray, List.getElem_cons_succ, List.getElem_cons_zero, List.setIfInBounds_toArray, List.set_cons_zero, List.set_cons_succ]
          refine wpAnyH_take (i := 23) (v := ?_) rfl (by kernel_rfl) (by kernel_rfl) (by kernel_rfl) (fun _ _ _ h => h) (Or.inl ⟨by rfl, ?_⟩) hHeld ?_
          rotate_left
          · intro V hSw; obtain ⟨z1, z2, z3⟩ := hSw; have y1 := z1.cv; have y2 := z2.cv; clear z1 z2; go_simp; rfl
          simp only [Act.put, List.getElem_toArray, List.getElem_cons_succ, List.getElem_cons_zero, List.setIfInBounds_toArray, List.set_cons_zero, List.set_cons_succ]
          refine wpAnyH_take (i := 24) (v := ?_) rfl (by kernel_rfl) (by kernel_rfl) (by kernel_rfl) (fun _ _ _ h => h) (Or.inl ⟨by rfl, ?_⟩) hHeld ?_
          rotate_left
          · intro V hSw; obtain ⟨z1, z2, z3⟩ := hSw; have y1 := z1.cv; have y2 := z2.cv; clear z1 z2; go_simp; rfl
          simp only [Act.put, List.getElem_toArray, List.getElem_cons_succ, List.getElem_cons_zero, List.setIfInBounds_toArray, List.set_cons_zero, List.set_cons_succ]
          refine wpAnyH_take (i := 25) (v := ?_) rfl (by kernel_rfl) (by kernel_rfl) (by kernel_rfl) (fun _ _ _ h => h) (Or.inl ⟨by rfl, ?_⟩) hHeld ?_
          rotate_left
          · intro V hSw; obtain ⟨z1, z2, z3⟩ := hSw; have y1 := z1.cv; have y2 := z2.cv; clear z1 z2; go_simp; rfl
          simp only [Act.put, List.getElem_toArray, List.getElem_cons_succ, List.getElem_cons_zero, List.setIfInBounds_toArray, List.set_cons_zero, List.set_cons_succ]
          refine wpAnyH_take (i := 26) (v := ?_) rfl (by kernel_rfl) (by kernel_rfl) (by kernel_rfl) (fun _ _ _ h => h) (Or.inl ⟨by rfl, ?_⟩) hHeld ?_
          rotate_left
          · intro V hSw; obtain ⟨z1, z2, z3⟩ := hSw; have y1 := z1.cv; have y2 := z2.cv; clear z1 z2; go_simp; rfl
          simp only [Act.put, List.getElem_toArray, List.getElem_cons_succ, List.getElem_cons_zero, List.setIfInBounds_toArray, List.set_cons_zero, List.set_cons_succ]
          refine wpAnyH_take (i := 27) (v := ?_) rfl (by kernel_rfl) (by kernel_rfl) (by kernel_rfl) (fun _ _ _ h => h) (Or.inl ⟨by rfl, ?_⟩) hHeld ?_
          rotate_left
          · intro V hSw; obtain ⟨z1, z2, z3⟩ := hSw; have y1 := z1.cv; have y2 := z2.cv; clear z1 z2; go_simp; rfl
          simp only [Act.put, List.getElem_toArray, List.getElem_cons_succ, List.getElem_cons_zero, List.setIfInBounds_toArray, List.set_cons_zero, List.set_cons_succ]
          refine wpAnyH_take (i := 28) (v := ?_) rfl (by kernel_rfl) (by kernel_rfl) (by kernel_rfl) (fun _ _ _ h => h) (Or.inl ⟨by rfl, ?_⟩) hHeld ?_
          rotate_left
          · intro V hSw; obtain ⟨z1, z2, z3⟩ := hSw; have y1 := z1.cv; have y2 := z2.cv; clear z1 z2; go_simp; rfl
          simp only [Act.put, List.getElem_toArray, List.getElem_cons_succ, List.getElem_cons_zero, List.setIfInBounds_toArray, List.set_cons_zero, List.set_cons_succ]
          refine wpAnyH_take (i := 29) (v := ?_) rfl (by kernel_rfl) (by kernel_rfl) (by kernel_rfl) (fun _ _ _ h => h) (Or.inl ⟨by rfl, ?_⟩) hHeld ?_
          rotate_left
          · intro V hSw; obtain ⟨z1, z2, z3⟩ := hSw; have y1 := z1.cv; have y2 := z2.cv; clear z1 z2; go_simp; rfl
          simp only [Act.put, List.getElem_toArray, List.getElem_cons_succ, List.getElem_cons_zero, List.setIfInBounds_toArray, List.set_cons_zero, List.set_cons_succ]
          refine wpAnyH_take (i := 30) (v := ?_) rfl (by kernel_rfl) (by kernel_rfl) (by kernel_rfl) (fun _ _ _ h => h) (Or.inl ⟨by rfl, ?_⟩) hHeld ?_
          rotate_left
          · intro V hSw; obtain ⟨z1, z2, z3⟩ := hSw; have y1 := z1.cv; have y2 := z2.cv; clear z1 z2; go_simp; rfl
          simp only [Act.put, List.getElem_toArray, List.getElem_cons_succ, List.getElem_cons_zero, List.setIfInBounds_toArray, List.set_cons_zero, List.set_cons_succ]
          refine wpAnyH_take (i := 31) (v := ?_) rfl (by kernel_rfl) (by kernel_rfl) (by kernel_rfl) (fun _ _ _ h => h) (Or.inl ⟨by rfl, ?_⟩) hHeld ?_
          rotate_left
          · intro V hSw; obtain ⟨z1, z2, z3⟩ := hSw; have y1 := z1.cv; have y2 := z2.cv; clear z1 z2; go_simp; rfl
          simp only [Act.put, List.getElem_toArray, List.getElem_cons_succ, List.getElem_cons_zero, List.setIfInBounds_toArray, List.set_cons_zero, List.set_cons_succ]
          refine wpAnyH_take (i := 32) (v := ?_) rfl (by kernel_rfl) (by kernel_rfl) (by kernel_rfl) (fun _ _ _ h => h) (Or.inl ⟨by rfl, ?_⟩) hHeld ?_
          rotate_left
          · intro V hSw; obtain ⟨z1, z2, z3⟩ := hSw; have y1 := z1.cv; have y2 := z2.cv; clear z1 z2; go_simp; rfl
          simp only [Act.put, List.getElem_toArray, List.getElem_cons_succ, List.getElem_cons_zero, List.setIfInBounds_toArray, List.set_cons_zero, List.set_cons_succ]
          refine wpAnyH_take (i := 33) (v := ?_) rfl (by kernel_rfl) (by kernel_rfl) (by kernel_rfl) (fun _ _ _ h => h) (Or.inl ⟨by rfl, ?_⟩) hHeld ?_
          rotate_left
          · intro V hSw; obtain ⟨z1, z2, z3⟩ := hSw; have y1 := z1.cv; have y2 := z2.cv; clear z1 z2; go_simp; rfl
          simp only [Act.put, List.getElem_toArray, List.getElem_cons_succ, List.getElem_cons_zero, List.setIfInBounds_toArray, List.set_cons_zero, List.set_cons_succ]
          refine wpAnyH_take (i := 34) (v := ?_) rfl (by kernel_rfl) (by kernel_rfl) (by kernel_rfl) (fun _ _ _ h => h) (Or.inl ⟨by rfl, ?_⟩) hHeld ?_
          rotate_left
          · intro V hSw; obtain ⟨z1, z2, z3⟩ := hSw; have y1 := z1.cv; have y2 := z2.cv; clear z1 z2; go_simp; rfl
          simp only [Act.put, List.getElem_toArray, List.getElem_cons_succ, List.getElem_cons_zero, List.setIfInBounds_toArray, List.set_cons_zero, List.set_cons_succ]
          refine wpAnyH_take (i := 35) (v := ?_) rfl (by kernel_rfl) (by kernel_rfl) (by kernel_rfl) (fun _ _ _ h => h) (Or.inl ⟨by rfl, ?_⟩) hHeld ?_
          rotate_left
          · intro V hSw; obtain ⟨z1, z2, z3⟩ := hSw; have y1 := z1.cv; have y2 := z2.cv; clear z1 z2; go_simp; rfl
          simp only [Act.put, List.getElem_toArray, List.getElem_cons_succ, List.getElem_cons_zero, List.setIfInBounds_toArray, List.set_cons_zero, List.set_cons_succ]
          refine wpAnyH_take (i := 36) (v := ?_) rfl (by kernel_rfl) (by kernel_rfl) (by kernel_rfl) (fun _ _ _ h => h) (Or.inl ⟨by rfl, ?_⟩) hHeld ?_
          rotate_left
          · intro V hSw; obtain ⟨z1, z2, z3⟩ := hSw; have y1 := z1.cv; have y2 := z2.cv; clear z1 z2; go_simp; rfl
          simp only [Act.put, List.getElem_toArray, List.getElem_cons_succ, List.getElem_cons_zero, List.setIfInBounds_toArray, List.set_cons_zero, List.set_cons_succ]
          refine wpAnyH_take (i := 37) (v := ?_) rfl (by kernel_rfl) (by kernel_rfl) (by kernel_rfl) (fun _ _ _ h => h) (Or.inl ⟨by rfl, ?_⟩) hHeld ?_
          rotate_left
          · intro V hSw; obtain ⟨z1, z2, z3⟩ := hSw; have y1 := z1.cv; have y2 := z2.cv; clear z1 z2; go_simp; rfl
          simp only [Act.put, List.getElem_toArray, List.getElem_cons_succ, List.getElem_cons_zero, List.setIfInBounds_toArray, List.set_cons_zero, List.set_cons_succ]
          refine wpAnyH_take (i := 38) (v := ?_) rfl (by kernel_rfl) (by kernel_rfl) (by kernel_rfl) (fun _ _ _ h => h) (Or.inl ⟨by rfl, ?_⟩) hHeld ?_
          rotate_left
          · intro V hSw; obtain ⟨z1, z2, z3⟩ := hSw; have y1 := z1.cv; have y2 := z2.cv; clear z1 z2; go_simp; rfl
          simp only [Act.put, List.getElem_toArray, List.getElem_cons_succ, List.getElem_cons_zero, List.setIfInBounds_toArray, List.set_cons_zero, List.set_cons_succ]
          refine wpAnyH_take (i := 39) (v := ?_) rfl (by kernel_rfl) (by kernel_rfl) (by kernel_rfl) (fun _ _ _ h => h) (Or.inl ⟨by rfl, ?_⟩) hHeld ?_
          rotate_left
          · intro V hSw; obtain ⟨z1, z2, z3⟩ := hSw; have y1 := z1.cv; have y2 := z2.cv; clear z1 z2; go_simp; rfl
          simp only [Act.put, List.getElem_toArray, List.getElem_cons_succ, List.getElem_cons_zero, List.setIfInBounds_toArray, List.set_cons_zero, List.set_cons_succ]
          refine wpAnyH_take (i := 40) (v := ?_) rfl (by kernel_rfl) (by kernel_rfl) (by kernel_rfl) (fun _ _ _ h => h) (Or.inl ⟨by rfl, ?_⟩) hHeld ?_
          rotate_left
          · intro V hSw; obtain ⟨z1, z2, z3⟩ := hSw; have y1 := z1.cv; have y2 := z2.cv; clear z1 z2; go_simp; rfl
          simp only [Act.put, List.getElem_toArray, List.getElem_cons_succ, List.getElem_cons_zero, List.setIfInBounds_toArray, List.set_cons_zero, List.set_cons_succ]
          refine wpAnyH_done (by kernel_rfl) ?_ _
          refine NoPanic.normal ?_
          clear hHeld
          clear b2
          go_wp2_with fail
          go_meet
          exact ⟨⟨true, rfl, unhide F⟩, unhide X2, unhide Y2, unhide A2, unhide H2⟩
        · have F : Hid (preB D up = !false) := by show _ = _; rw [unhide PB, UP2, decide_eq_true t0]; rfl
          have t1 : decide (D.sl ≤ D'.sl) = false := decide_eq_false (by omega)
          clear UP2 hj
          go_wp2_with fail
          refine wp_region_noPanic ?_
          refine wp_region_held_drew (S := fun V => Bx V w.heap.size [.slice (some ⟨bb, o, none⟩) L.length cap] ∧ Bx V wr.heap.size [.int .i64 D.sl, .int .i64 D.sv, .int .i64 D.nc, .string D.k, .bool D.t, .slice ra D.S.length cp, .int .i64 D.nx] ∧ V.cell? ⟨bb, o + j * 7, none⟩ = some (.int .i64 D'.sl)) (by kernel_rfl) ⟨((unhide HX).alloc _).drew, (unhide XE).drew, unhide d1⟩ (fun hHeld => ?_)
          refine wpAnyH_take (i := 0) (v := ?_) rfl (by kernel_rfl) (by kernel_rfl) (by kernel_rfl) (fun _ _ _ h => h) (Or.inl ⟨by rfl, ?_⟩) hHeld ?_
          rotate_left
          · intro V hSw; obtain ⟨z1, z2, z3⟩ := hSw; have y1 := z1.cv; have y2 := z2.cv; clear z1 z2; go_simp; rfl
          simp only [Act.put, List.getElem_toArray, List.getElem_cons_zero, List.setIfInBounds_toArray, List.set_cons_zero, List.set_cons_succ]
          refine wpAnyH_take (i := 1) (v := ?_) rfl (by kernel_rfl) (by kernel_rfl) (by kernel_rfl) (fun _ _ _ h => h) (Or.inl ⟨by rfl, ?_⟩) hHeld ?_
          rotate_left
          · intro V hSw; obtain ⟨z1, z2, z3⟩ := hSw; have y1 := z1.cv; have y2 := z2.cv; clear z1 z2; go_simp; rfl
          simp only [Act.put, List.getElem_toArray, List.getElem_cons_succ, List.getElem_cons_zero, List.setIfInBounds_toArray, List.set_cons_zero, List.set_cons_succ]
          refine wpAnyH_ready (rs := [2]) (by kernel_rfl) (by simp) ?_
          refine AllReadyH.cons rfl (fun K hK => ?_) AllReadyH.nil
          go_simp
          go_at_call 79
          with_reducible refine (unhide HC _).mono ?_
          rintro e w2 ⟨rfl, b2⟩
          have H2 := hide ((unhide hB).trans (((unhide AL).drew.trans (b2.mono (unhide AL).size)).mono (unhide hB).size))
          have X2 := hide ((((unhide HX).alloc _).drew).below b2)
          have Y2 := hide ((unhide XE).drew.below b2)
          have A2 := hide ((unhide HRA).1.below ((unhide AL).drew.trans (b2.mono (unhide AL).size)))
          refine hK.out _ _ (⟨hHeld.1.below b2, hHeld.2.1.below b2, ((unhide AL).drew.trans (b2.mono (unhide AL).size)).cell (p := ⟨bb, o + j * 7, none⟩) hlb |>.trans d0⟩) (fun hHeld => ?_)
          clear hK K
          try simp only [Act.put, List.getElem_toArray, List.getElem_cons_succ, List.getElem_cons_zero, List.setIfInBounds_toArray, List.set_cons_zero, List.set_cons_succ]
          refine wpAnyH_take (i := 3) (v := ?_) rfl (by kernel_rfl) (by kernel_rfl) (by kernel_rfl) (fun _ _ _ h => h) (Or.inl ⟨by rfl, ?_⟩) hHeld ?_
          rotate_left
          · intro V hSw; obtain ⟨z1, z2, z3⟩ := hSw; have y1 := z1.cv; have y2 := z2.cv; clear z1 z2; go_simp; rfl
          simp only [Act.put, List.getElem_toArray, List.getElem_cons_succ, List.getElem_cons_zero, List.setIfInBounds_toArray, List.set_cons_zero, List.set_cons_succ]
          refine wpAnyH_take (i := 4) (v := ?_) rfl (by kernel_rfl) (by kernel_rfl) (by kernel_rfl) (fun _ _ _ h => h) (Or.inl ⟨by rfl, ?_⟩) hHeld ?_
          rotate_left
          · intro V hSw; obtain ⟨z1, z2, z3⟩ := hSw; have y1 := z1.cv; have y2 := z2.cv; clear z1 z2; go_simp; rfl
          simp only [Act.put, List.getElem_toArray, List.getElem_cons_succ, List.getElem_cons_zero, List.setIfInBounds_toArray, List.set_cons_zero, List.set_cons_succ]
          refine wpAnyH_take (i := 5) (v := ?_) rfl (by kernel_rfl) (by kernel_rfl) (by kernel_rfl) (fun _ _ _ h => h) (Or.inl ⟨by rfl, ?_⟩) hHeld ?_
          rotate_left
          · intro V hSw; obtain ⟨z1, z2, z3⟩ := hSw; have y1 := z1.cv; have y2 := z2.cv; clear z1 z2; go_simp; rfl
          simp only [Act.put, List.getElem_toArray, List.getElem_cons_succ, List.getElem_cons_zero, List.setIfInBounds_toArray, List.set_cons_zero, List.set_cons_succ]
          refine wpAnyH_take (i := 6) (v := ?_) rfl (by kernel_rfl) (by kernel_rfl) (by kernel_rfl) (fun _ _ _ h => h) (Or.inl ⟨by rfl, ?_⟩) hHeld ?_
          rotate_left
          · intro V hSw; obtain ⟨z1, z2, z3⟩ := hSw; have y1 := z1.cv; have y2 := z2.cv; clear z1 z2; go_simp; rfl
          simp only [Act.put, List.getElem_toArray, List.getElem_cons_succ, List.getElem_cons_zero, List.setIfInBounds_toArray, List.set_cons_zero, List.set_cons_succ]
          refine wpAnyH_take (i := 7) (v := ?_) rfl (by kernel_rfl) (by kernel_rfl) (by kernel_rfl) (fun _ _ _ h => h) (Or.inl ⟨by rfl, ?_⟩) hHeld ?_
          rotate_left
          · intro V hSw; obtain ⟨z1, z2, z3⟩ := hSw; have y1 := z1.cv; have y2 := z2.cv; clear z1 z2; go_simp; rfl
          simp only [Act.put, List.getElem_toArray, List.getElem_cons_succ, List.getElem_cons_zero, List.setIfInBounds_toArray, List.set_cons_zero, List.set_cons_succ]
          refine wpAnyH_ready (rs := [8]) (by kernel_rfl) (by simp) ?_
          refine AllReadyH.cons rfl (fun K hK => ?_) AllReadyH.nil
          go_simp
          go_at_call 34
          with_reducible refine (unhide HI _).mono ?_
          rintro e w9 ⟨rfl, h9⟩
          rw [h9]
          clear h9 w9
          refine hK.out _ _ (hHeld) (fun hHeld => ?_)
          clear hK K
          try simp only [Act.put, List.getElem_toArray, List.getElem_cons_succ, List.getElem_cons_zero, List.setIfInBounds_toArray, List.set_cons_zero, List.set_cons_succ]
          refine wpAnyH_take (i := 9) (v := ?_) rfl (by kernel_rfl) (by kernel_rfl) (by kernel_rfl) (fun _ _ _ h => h) (Or.inl ⟨by rfl, ?_⟩) hHeld ?_
          rotate_left
          · intro V hSw; obtain ⟨z1, z2, z3⟩ := hSw; have y1 := z1.cv; have y2 := z2.cv; clear z1 z2; go_simp; rfl
          simp only [Act.put, List.getElem_toArray, List.getElem_cons_succ, List.getElem_cons_zero, List.setIfInBounds_toArray, List.set_cons_zero, List.set_cons_succ]
          refine wpAnyH_take (i := 10) (v := ?_) rfl (by kernel_rfl) (by kernel_rfl) (by kernel_rfl) (fun _ _ _ h => h) (Or.inl ⟨by rfl, ?_⟩) hHeld ?_
          rotate_left
          · intro V hSw; obtain ⟨z1, z2, z3⟩ := hSw; have y1 := z1.cv; have y2 := z2.cv; clear z1 z2; go_simp; rfl
          simp only [Act.put, List.getElem_toArray, List.getElem_cons_succ, List.getElem_cons_zero, List.setIfInBounds_toArray, List.set_cons_zero, List.set_cons_succ]
          refine wpAnyH_take (i := 11) (v := ?_) rfl (by kernel_rfl) (by kernel_rfl) (by kernel_rfl) (fun _ _ _ h => h) (Or.inl ⟨by rfl, ?_⟩) hHeld ?_
          rotate_left
          · intro V hSw; obtain ⟨z1, z2, z3⟩ := hSw; have y1 := z1.cv; have y2 := z2.cv; clear z1 z2; go_simp; rfl
          simp only [Act.put, List.getElem_toArray, List.getElem_cons_succ, List.getElem_cons_zero, List.setIfInBounds_toArray, List.set_cons_zero, List.set_cons_succ]
          refine wpAnyH_take (i := 12) (v := ?_) rfl (by kernel_rfl) (by kernel_rfl) (by kernel_rfl) (fun _ _ _ h => h) (Or.inl ⟨by rfl, ?_⟩) hHeld ?_
          rotate_left
          · intro V hSw; obtain ⟨z1, z2, z3⟩ := hSw; have y1 := z1.cv; have y2 := z2.cv; clear z1 z2; go_simp; rfl
          simp only [Act.put, List.getElem_toArray, List.getElem_cons_succ, List.getElem_cons_zero, List.setIfInBounds_toArray, List.set_cons_zero, List.set_cons_succ]
          refine wpAnyH_take (i := 13) (v := ?_) rfl (by kernel_rfl) (by kernel_rfl) (by kernel_rfl) (fun _ _ _ h => h) (Or.inl ⟨by rfl, ?_⟩) hHeld ?_
          rotate_left
          · intro V hSw; obtain ⟨z1, z2, z3⟩ := hSw; have y1 := z1.cv; have y2 := z2.cv; clear z1 z2; go_simp; rfl
          simp only [Act.put, List.getElem_toArray, List.getElem_cons_succ, List.getElem_cons_zero, List.setIfInBounds_toArray, List.set_cons_zero, List.set_cons_succ]
          refine wpAnyH_take (i := 14) (v := ?_) rfl (by kernel_rfl) (by kernel_rfl) (by kernel_rfl) (fun _ _ _ h => h) (Or.inl ⟨by rfl, ?_⟩) hHeld ?_
          rotate_left
          · intro V hSw; obtain ⟨z1, z2, z3⟩ := hSw; have y1 := z1.cv; have y2 := z2.cv; clear z1 z2; go_simp; rfl
          simp only [Act.put, List.getElem_toArray, List.getElem_cons_succ, List.getElem_cons_zero, List.setIfInBounds_toArray, List.set_cons_zero, List.set_cons_succ]
          refine wpAnyH_take (i := 15) (v := ?_) rfl (by kernel_rfl) (by kernel_rfl) (by kernel_rfl) (fun _ _ _ h => h) (Or.inl ⟨by rfl, ?_⟩) hHeld ?_
          rotate_left
          · intro V hSw; obtain ⟨z1, z2, z3⟩ := hSw; have y1 := z1.cv; have y2 := z2.cv; clear z1 z2; go_simp; rfl
          simp only [Act.put, List.getElem_toArray, List.getElem_cons_succ, List.getElem_cons_zero, List.setIfInBounds_toArray, List.set_cons_zero, List.set_cons_succ]
          refine wpAnyH_take (i := 16) (v := ?_) rfl (by kernel_rfl) (by kernel_rfl) (by kernel_rfl) (fun _ _ _ h => h) (Or.inl ⟨by rfl, ?_⟩) hHeld ?_
          rotate_left
          · intro V hSw; obtain ⟨z1, z2, z3⟩ := hSw; have y1 := z1.cv; have y2 := z2.cv; clear z1 z2; go_simp; rfl
          simp only [Act.put, List.getElem_toArray, List.getElem_cons_succ, List.getElem_cons_zero, List.setIfInBounds_toArray, List.set_cons_zero, List.set_cons_succ]
          refine wpAnyH_take (i := 17) (v := ?_) rfl (by kernel_rfl) (by kernel_rfl) (by kernel_rfl) (fun _ _ _ h => h) (Or.inl ⟨by rfl, ?_⟩) hHeld ?_
          rotate_left
          · intro V hSw; obtain ⟨z1, z2, z3⟩ := hSw; have y1 := z1.cv; have y2 := z2.cv; clear z1 z2; go_simp; rfl
          simp only [Act.put, List.getElem_toArray, List.getElem_cons_succ, List.getElem_cons_zero, List.setIfInBounds_toArray, List.set_cons_zero, List.set_cons_succ]
          refine wpAnyH_take (i := 18) (v := ?_) rfl (by kernel_rfl) (by kernel_rfl) (by kernel_rfl) (fun _ _ _ h => h) (Or.inl ⟨by rfl, ?_⟩) hHeld ?_
          rotate_left
          · intro V hSw; obtain ⟨z1, z2, z3⟩ := hSw; have y1 := z1.cv; have y2 := z2.cv; clear z1 z2; go_simp; rfl
          simp only [Act.put, List.getElem_toArray, List.getElem_cons_succ, List.getElem_cons_zero, List.setIfInBounds_toArray, List.set_cons_zero, List.set_cons_succ]
          refine wpAnyH_take (i := 19) (v := ?_) rfl (by kernel_rfl) (by kernel_rfl) (by kernel_rfl) (fun _ _ _ h => h) (Or.inl ⟨by rfl, ?_⟩) hHeld ?_
          rotate_left
          · intro V hSw; obtain ⟨z1, z2, z3⟩ := hSw; have y1 := z1.cv; have y2 := z2.cv; clear z1 z2; go_simp; rfl
          simp only [Act.put, List.getElem_toArray, List.getElem_cons_succ, List.getElem_cons_zero, List.setIfInBounds_toArray, List.set_cons_zero, List.set_cons_succ]
          refine wpAnyH_ready (rs := [20]) (by kernel_rfl) (by simp) ?_
          refine AllReadyH.cons rfl (fun K hK => ?_) AllReadyH.nil
          go_simp
          go_at_call 34
          with_reducible refine (unhide HJ2 _).mono ?_
          rintro e w9 ⟨rfl, h9⟩
          rw [h9]
          clear h9 w9
          refine hK.out _ _ (hHeld) (fun hHeld => ?_)
          clear hK K
          try simp only [Act.put, List.getElem_toArray, List.getElem_cons_succ, List.getElem_cons_zero, List.setIfInBounds_toArray, List.set_cons_zero, List.set_cons_succ]
          refine wpAnyH_take (i := 21) (v := ?_) rfl (by kernel_rfl) (by kernel_rfl) (by kernel_rfl) (fun _ _ _ h => h) (Or.inl ⟨by rfl, ?_⟩) hHeld ?_
          rotate_left
          · intro V hSw; obtain ⟨z1, z2, z3⟩ := hSw; have y1 := z1.cv; have y2 := z2.cv; clear z1 z2; go_simp; rfl
          simp only [Act.put, List.getElem_toArray, List.getElem_cons_succ, List.getElem_cons_zero, List.setIfInBounds_toArray, List.set_cons_zero, List.set_cons_succ]
          refine wpAnyH_take (i := 22) (v := ?_) rfl (by kernel_rfl) (by kernel_rfl) (by kernel_rfl) (fun _ _ _ h => h) (Or.inl ⟨by rfl, ?_⟩) hHeld ?_
          rotate_left
          · intro V hSw; obtain ⟨z1, z2, z3⟩ := hSw; have y1 := z1.cv; have y2 := z2.cv; clear z1 z2; go_simp; rfl
          simp only [Act.put, List.getElem_toArray, List.getElem_cons_succ, List.getElem_cons_zero, List.setIfInBounds_toArray, List.set_cons_zero, List.set_cons_succ]
          refine wpAnyH_take (i := 23) (v := ?_) rfl (by kernel_rfl) (by kernel_rfl) (by kernel_rfl) (fun _ _ _ h => h) (Or.inl ⟨by rfl, ?_⟩) hHeld ?_
          rotate_left
          · intro V hSw; obtain ⟨z1, z2, z3⟩ := hSw; have y1 := z1.cv; have y2 := z2.cv; clear z1 z2; go_simp; rfl
          simp only [Act.put, List.getElem_toArray, List.getElem_cons_succ, List.getElem_cons_zero, List.setIfInBounds_toArray, List.set_cons_zero, List.set_cons_succ]
          refine wpAnyH_take (i := 24) (v := ?_) rfl (by kernel_rfl) (by kernel_rfl) (by kernel_rfl) (fun _ _ _ h => h) (Or.inl ⟨by rfl, ?_⟩) hHeld ?_
          rotate_left
          · intro V hSw; obtain ⟨z1, z2, z3⟩ := hSw; have y1 := z1.cv; have y2 := z2.cv; clear z1 z2; go_simp; rfl
          simp only [Act.put, List.getElem_toArray, List.getElem_cons_succ, List.getElem_cons_zero, List.setIfInBounds_toArray, List.set_cons_zero, List.set_cons_succ]
          refine wpAnyH_take (i := 25) (v := ?_) rfl (by kernel_rfl) (by kernel_rfl) (by kernel_rfl) (fun _ _ _ h => h) (Or.inl ⟨by rfl, ?_⟩) hHeld ?_
          rotate_left
          · intro V hSw; obtain ⟨z1, z2, z3⟩ := hSw; have y1 := z1.cv; have y2 := z2.cv; clear z1 z2; go_simp; rfl
          simp only [Act.put, List.getElem_toArray, List.getElem_cons_succ, List.getElem_cons_zero, List.setIfInBounds_toArray, List.set_cons_zero, List.set_cons_succ]
          refine wpAnyH_take (i := 26) (v := ?_) rfl (by kernel_rfl) (by kernel_rfl) (by kernel_rfl) (fun _ _ _ h => h) (Or.inl ⟨by rfl, ?_⟩) hHeld ?_
          rotate_left
          · intro V hSw; obtain ⟨z1, z2, z3⟩ := hSw; have y1 := z1.cv; have y2 := z2.cv; clear z1 z2; go_simp; rfl
          simp only [Act.put, List.getElem_toArray, List.getElem_cons_succ, List.getElem_cons_zero, List.setIfInBounds_toArray, List.set_cons_zero, List.set_cons_succ]
          refine wpAnyH_take (i := 27) (v := ?_) rfl (by kernel_rfl) (by kernel_rfl) (by kernel_rfl) (fun _ _ _ h => h) (Or.inl ⟨by rfl, ?_⟩) hHeld ?_
          rotate_left
          · intro V hSw; obtain ⟨z1, z2, z3⟩ := hSw; have y1 := z1.cv; have y2 := z2.cv; clear z1 z2; go_simp; rfl
          simp only [Act.put, List.getElem_toArray, List.getElem_cons_succ, List.getElem_cons_zero, List.setIfInBounds_toArray, List.set_cons_zero, List.set_cons_succ]
          refine wpAnyH_take (i := 28) (v := ?_) rfl (by kernel_rfl) (by kernel_rfl) (by kernel_rfl) (fun _ _ _ h => h) (Or.inl ⟨by rfl, ?_⟩) hHeld ?_
          rotate_left
          · intro V hSw; obtain ⟨z1, z2, z3⟩ := hSw; have y1 := z1.cv; have y2 := z2.cv; clear z1 z2; go_simp; rfl
          simp only [Act.put, List.getElem_toArray, List.getElem_cons_succ, List.getElem_cons_zero, List.setIfInBounds_toArray, List.set_cons_zero, List.set_cons_succ]
          refine wpAnyH_take (i := 29) (v := ?_) rfl (by kernel_rfl) (by kernel_rfl) (by kernel_rfl) (fun _ _ _ h => h) (Or.inl ⟨by rfl, ?_⟩) hHeld ?_
          rotate_left
          · intro V hSw; obtain ⟨z1, z2, z3⟩ := hSw; have y1 := z1.cv; have y2 := z2.cv; clear z1 z2; go_simp; rfl
          simp only [Act.put, List.getElem_toArray, List.getElem_cons_succ, List.getElem_cons_zero, List.setIfInBounds_toArray, List.set_cons_zero, List.set_cons_succ]
          refine wpAnyH_take (i := 30) (v := ?_) rfl (by kernel_rfl) (by kernel_rfl) (by kernel_rfl) (fun _ _ _ h => h) (Or.inl ⟨by rfl, ?_⟩) hHeld ?_
          rotate_left
          · intro V hSw; obtain ⟨z1, z2, z3⟩ := hSw; have y1 := z1.cv; have y2 := z2.cv; clear z1 z2; go_simp; rfl
          simp only [Act.put, List.getElem_toArray, List.getElem_cons_succ, List.getElem_cons_zero, List.setIfInBounds_toArray, List.set_cons_zero, List.set_cons_succ]
          refine wpAnyH_take (i := 31) (v := ?_) rfl (by kernel_rfl) (by kernel_rfl) (by kernel_rfl) (fun _ _ _ h => h) (Or.inl ⟨by rfl, ?_⟩) hHeld ?_
          rotate_left
          · intro V hSw; obtain ⟨z1, z2, z3⟩ := hSw; have y1 := z1.cv; have y2 := z2.cv; clear z1 z2; go_simp; rfl
          simp only [Act.put, List.getElem_toArray, List.getElem_cons_succ, List.getElem_cons_zero, List.setIfInBounds_toArray, List.set_cons_zero, List.set_cons_succ]
          refine wpAnyH_take (i := 32) (v := ?_) rfl (by kernel_rfl) (by kernel_rfl) (by kernel_rfl) (fun _ _ _ h => h) (Or.inl ⟨by rfl, ?_⟩) hHeld ?_
          rotate_left
          · intro V hSw; obtain ⟨z1, z2, z3⟩ := hSw; have y1 := z1.cv; have y2 := z2.cv; clear z1 z2; go_simp; rfl
          simp only [Act.put, List.getElem_toArray, List.getElem_cons_succ, List.getElem_cons_zero, List.setIfInBounds_toArray, List.set_cons_zero, List.set_cons_succ]
          refine wpAnyH_take (i := 33) (v := ?_) rfl (by kernel_rfl) (by kernel_rfl) (by kernel_rfl) (fun _ _ _ h => h) (Or.inl ⟨by rfl, ?_⟩) hHeld ?_
          rotate_left
          · intro V hSw; obtain ⟨z1, z2, z3⟩ := hSw; have y1 := z1.cv; have y2 := z2.cv; clear z1 z2; go_simp; rfl
          simp only [Act.put, List.getElem_toArray, List.getElem_cons_succ, List.getElem_cons_zero, List.setIfInBounds_toArray, List.set_cons_zero, List.set_cons_succ]
          refine wpAnyH_take (i := 34) (v := ?_) rfl (by kernel_rfl) (by kernel_rfl) (by kernel_rfl) (fun _ _ _ h => h) (Or.inl ⟨by rfl, ?_⟩) hHeld ?_
          rotate_left
          · intro V hSw; obtain ⟨z1, z2, z3⟩ := hSw; have y1 := z1.cv; have y2 := z2.cv; clear z1 z2; go_simp; rfl
          simp only [Act.put, List.getElem_toArray, List.getElem_cons_succ, List.getElem_cons_zero, List.setIfInBounds_toArray, List.set_cons_zero, List.set_cons_succ]
          refine wpAnyH_take (i := 35) (v := ?_) rfl (by kernel_rfl) (by kernel_rfl) (by kernel_rfl) (fun _ _ _ h => h) (Or.inl ⟨by rfl, ?_⟩) hHeld ?_
          rotate_left
          · intro V hSw; obtain ⟨z1, z2, z3⟩ := hSw; have y1 := z1.cv; have y2 := z2.cv; clear z1 z2; go_simp; rfl
          simp only [Act.put, List.getElem_toArray, List.getElem_cons_succ, List.getElem_cons_zero, List.setIfInBounds_toArray, List.set_cons_zero, List.set_cons_succ]
          refine wpAnyH_take (i := 36) (v := ?_) rfl (by kernel_rfl) (by kernel_rfl) (by kernel_rfl) (fun _ _ _ h => h) (Or.inl ⟨by rfl, ?_⟩) hHeld ?_
          rotate_left
          · intro V hSw; obtain ⟨z1, z2, z3⟩ := hSw; have y1 := z1.cv; have y2 := z2.cv; clear z1 z2; go_simp; rfl
          simp only [Act.put, List.getElem_toArray, List.getElem_cons_succ, List.getElem_cons_zero, List.setIfInBounds_toArray, List.set_cons_zero, List.set_cons_succ]
          refine wpAnyH_take (i := 37) (v := ?_) rfl (by kernel_rfl) (by kernel_rfl) (by kernel_rfl) (fun _ _ _ h => h) (Or.inl ⟨by rfl, ?_⟩) hHeld ?_
          rotate_left
          · intro V hSw; obtain ⟨z1, z2, z3⟩ := hSw; have y1 := z1.cv; have y2 := z2.cv; clear z1 z2; go_simp; rfl
          simp only [Act.put, List.getElem_toArray, List.getElem_cons_succ, List.getElem_cons_zero, List.setIfInBounds_toArray, List.set_cons_zero, List.set_cons_succ]
          refine wpAnyH_take (i := 38) (v := ?_) rfl (by kernel_rfl) (by kernel_rfl) (by kernel_rfl) (fun _ _ _ h => h) (Or.inl ⟨by rfl, ?_⟩) hHeld ?_
          rotate_left
          · intro V hSw; obtain ⟨z1, z2, z3⟩ := hSw; have y1 := z1.cv; have y2 := z2.cv; clear z1 z2; go_simp; rfl
          simp only [Act.put, List.getElem_toArray, List.getElem_cons_succ, List.getElem_cons_zero, List.setIfInBounds_toArray, List.set_cons_zero, List.set_cons_succ]
          refine wpAnyH_take (i := 39) (v := ?_) rfl (by kernel_rfl) (by kernel_rfl) (by kernel_rfl) (fun _ _ _ h => h) (Or.inl ⟨by rfl, ?_⟩) hHeld ?_
          rotate_left
          · intro V hSw; obtain ⟨z1, z2, z3⟩ := hSw; have y1 := z1.cv; have y2 := z2.cv; clear z1 z2; go_simp; rfl
          simp only [Act.put, List.getElem_toArray, List.getElem_cons_succ, List.getElem_cons_zero, List.setIfInBounds_toArray, List.set_cons_zero, List.set_cons_succ]
          refine wpAnyH_take (i := 40) (v := ?_) rfl (by kernel_rfl) (by kernel_rfl) (by kernel_rfl) (fun _ _ _ h => h) (Or.inl ⟨by rfl, ?_⟩) hHeld ?_
          rotate_left
          · intro V hSw; obtain ⟨z1, z2, z3⟩ := hSw; have y1 := z1.cv; have y2 := z2.cv; clear z1 z2; go_simp; rfl
          simp only [Act.put, List.getElem_toArray, List.getElem_cons_succ, List.getElem_cons_zero, List.setIfInBounds_toArray, List.set_cons_zero, List.set_cons_succ]
          refine wpAnyH_done (by kernel_rfl) ?_ _
          refine NoPanic.normal ?_
          clear hHeld
          clear b2
          go_wp2_with fail
          go_meet
          exact ⟨⟨false, rfl, unhide F⟩, unhide X2, unhide Y2, unhide A2, unhide H2⟩
      case rest =>
      obtain ⟨⟨r, rfl, hr⟩, X1, Y1, A1, B1⟩ := hcut
      have HX1 := hide X1
      have HY1 := hide Y1
      have HB1 := hide B1
      have HA1 := hide A1
      have y1 := Y1.cv
      have hebl := Y1.lt
      clear X1 Y1 A1 B1 HX XE AL HC hB HRA HJ c0 c1 c2 c3 c4 c5 c6 hlb
      generalize wr.heap.size = eb at *
      clear wr
      cases r with
      | true =>
        have hE := hide (unhide HNO hr).1
        clear hr
        go_wp2
        go_ret
        exact ⟨by unfold gtB; rw [unhide hE, Bool.and_false]; rfl, unhide HB1⟩
      | false =>
        have HP : Hid (preB D up = true) := hr
        clear hr
        go_wp2_with fail
        clear y1
        go_loopw [61] (fun i wm => ∃ m : Nat, m ≤ D.S.length ∧ i = .int .i64 m ∧ okS D.S D.sv m = true ∧ Bx wm w.heap.size [.slice (some ⟨bb, o, none⟩) L.length cap] ∧ Bx wm eb [.int .i64 D.sl, .int .i64 D.sv, .int .i64 D.nc, .string D.k, .bool D.t, .slice ra D.S.length cp, .int .i64 D.nx] ∧ Aa wm ra D.S ∧ Below w.heap.size w wm) (fun i _ => D.S.length - (intOf i).toNat)
        case atStart => exact ⟨0, Nat.zero_le _, rfl, rfl, unhide HX1, unhide HY1, unhide HA1, unhide HB1⟩
        case round =>
          obtain ⟨m, hm, rfl, hO, hX, hY, hAa, hbm⟩ := hrel
          clear HX1 HY1 HA1 HB1
          by_cases hmt : m < D.S.length
          · rcases hAa with h0 | ⟨ab, ao, rfl, hes⟩
            · rw [h0] at hmt; exact absurd hmt (Nat.not_lt_zero _)
            have c0 := hes.ci m hmt
            have c1 := hes.cb m hmt
            have y1 := hY.cv
            have hyl := hY.lt
            have HX := hide hX
            have HY := hide hY
            have HB := hide hbm
            have hnk : (m : Int) < (D.S.length : Int) := by omega
            have hlb := hes.lt
            have HK := hide (fun W => specBk (aA D.S m).b W ((unhide HGk).2.2 m hmt).2)
            clear hX hY hbm
            by_cases e0 : ((aA D.S m).i.size : Int) = D.sv
            case neg =>
              have hE := hide (unhide HNS (okS_no D.S D.sv hmt (okA_0 D.S D.sv m e0)))
              have e1 : (((aA D.S m).i.size : Int) != D.sv) = true := bne_iff_ne.2 e0
              clear hO hes e0 HK
              generalize aA D.S m = A at *
              go_wp2_with fail
              go_quiet (fail)
              go_wp2
              go_ret
              exact ⟨by unfold gtB; rw [unhide hE, Bool.and_false]; rfl, below_drewN ((unhide HB).alloc (unhide HB).size _) _⟩
            have e1 : (((aA D.S m).i.size : Int) != D.sv) = false := by rw [e0]; exact bne_self_eq_false' _
            by_cases f0 : bkB (aA D.S m).b = true
            case neg =>
              have f1 := Bool.eq_false_iff.2 f0
              have hE := hide (unhide HNS (okS_no D.S D.sv hmt (okA_1 D.S D.sv m f1)))
              rw [f1] at HK
              clear hO hes e0 f0 f1
              generalize aA D.S m = A at *
              go_wp2_with fail
              go_quiet (with_reducible exact Calls.quiet_of_same (unhide HK _))
              go_wp2
              go_ret
              exact ⟨by unfold gtB; rw [unhide hE, Bool.and_false]; rfl, below_drewN ((unhide HB).alloc (unhide HB).size _) _⟩
            rw [f0] at HK
            go_upto_region 9 with fail
            go_cut [94] (fun s94 wx => (∃ r : Bool, s94 = .bool r ∧ (decide (m = 0) || ltT (aA D.S (m - 1)).i (aA D.S m).i) = !r) ∧ Bx wx w.heap.size [.slice (some ⟨bb, o, none⟩) L.length cap] ∧ Bx wx eb [.int .i64 D.sl, .int .i64 D.sv, .int .i64 D.nc, .string D.k, .bool D.t, .slice (some ⟨ab, ao, none⟩) D.S.length cp, .int .i64 D.nx] ∧ Bx wx wr.heap.size [.string (aA D.S m).i, .string (aA D.S m).b] ∧ Al wx ab ao D.S ∧ Below w.heap.size w wx)
            case first =>
              have AL := hide ((Below.refl wr.heap.size wr).alloc (Nat.le_refl _) (.cells #[.string (aA D.S m).i, .string (aA D.S m).b] 129))
              have FIN := hide (fun nq => And.intro (((unhide HX).below (below_drewN (unhide AL) nq))) (And.intro ((unhide HY).below (below_drewN (unhide AL) nq)) (And.intro ((Bx.new wr [.string (aA D.S m).i, .string (aA D.S m).b] 129).below (below_drewN (Below.refl _ _) nq)) (And.intro (hes.below (below_drewN (unhide AL) nq)) ((unhide HB).trans ((below_drewN (unhide AL) nq).mono (unhide HB).size))))))
              by_cases g0 : 0 < m
              case neg =>
                have k9 : decide (0 < m) = false := decide_eq_false (by omega)
                have F : Hid ((decide (m = 0) || ltT (aA D.S (m - 1)).i (aA D.S m).i) = !false) := by show _ = _; rw [decide_eq_true (show m = 0 by omega)]; rfl
                clear hO e0 f0 g0 hes
                generalize ltT (aA D.S (m - 1)).i (aA D.S m).i = z9 at *
                generalize aA D.S m = A at *
                go_quiet (with_reducible exact Calls.quiet_of_same (unhide HK _))
                go_wp2_with fail
                go_meet
                exact ⟨⟨false, rfl, unhide F⟩, unhide FIN _⟩
              obtain ⟨j, hj⟩ : ∃ j : Nat, m = j + 1 := ⟨m - 1, by omega⟩
              have hw : IntKind.i64.wrap ((m : Int) - 1) = (j : Int) := by rw [wraps_i64 _ (by omega) (by omega)]; omega
              have hj0 : (0 : Int) ≤ (j : Int) := by omega
              have hj1 : (j : Int) < (D.S.length : Int) := by omega
              have hk0 : (0 : Int) < (m : Int) := by omega
              have d0 := hes.ci j (by omega)
              by_cases t0 : ltT (aA D.S (m - 1)).i (aA D.S m).i = true
              case neg =>
                have t1 := Bool.eq_false_iff.2 t0
                have F : Hid ((decide (m = 0) || ltT (aA D.S (m - 1)).i (aA D.S m).i) = !true) := by show _ = _; rw [decide_eq_false (show ¬ m = 0 by omega), t1]; rfl
                rw [show m - 1 = j by omega] at t1
                unfold ltT at t1
                clear hO e0 f0 t0 hes hj
                generalize ltT (aA D.S (m - 1)).i (aA D.S m).i = z9 at *
                generalize aA D.S m = A at *
                generalize aA D.S j = A' at *
                go_quiet (with_reducible exact Calls.quiet_of_same (unhide HK _))
                go_wp2_with fail
                go_meet
                exact ⟨⟨true, rfl, unhide F⟩, unhide FIN _⟩
              · have F : Hid ((decide (m = 0) || ltT (aA D.S (m - 1)).i (aA D.S m).i) = !false) := by show _ = _; rw [t0, Bool.or_true]; rfl
                rw [show m - 1 = j by omega] at t0
                unfold ltT at t0
                clear hO e0 f0 hes hj
                generalize ltT (aA D.S (m - 1)).i (aA D.S m).i = z9 at *
                generalize aA D.S m = A at *
                generalize aA D.S j = A' at *
                go_quiet (with_reducible exact Calls.quiet_of_same (unhide HK _))
                go_wp2_with fail
                go_meet
                exact ⟨⟨false, rfl, unhide F⟩, unhide FIN _⟩
            case rest =>
            obtain ⟨⟨r, rfl, hr⟩, X1, Y1, V1, A1, B1⟩ := hcut
            have HX1 := hide X1
            have HY1 := hide Y1
            have HV1 := hide V1
            have HA1 := hide A1
            have HB1 := hide B1
            have y2 := Y1.cv
            clear X1 Y1 V1 A1 B1 HX HY HB HK hes c0 c1 y1 hyl hlb e1
            generalize wr.heap.size = vb at *
            clear wr
            cases r with
            | true =>
              have hE := hide (unhide HNS (okS_no D.S D.sv hmt (okA_u D.S D.sv m hr)))
              clear hr hO e0 f0
              go_wp2
              go_ret
              exact ⟨by unfold gtB; rw [unhide hE, Bool.and_false]; rfl, unhide HB1⟩
            | false =>
              have HOK := hide (fun h3 => okS_step D.S D.sv m hO (okA_y' D.S D.sv m e0 f0 hr h3))
              have HN3 := hide (fun h3 => unhide HNS (okS_no D.S D.sv hmt (okA_3 D.S D.sv m h3)))
              clear hr hO e0 f0
              have hmc : (m : Int) ≤ (cp : Int) := by omega
              generalize hA9 : aA D.S m = A at *
              clear hA9
              go_wp2_with fail
              clear y2
              go_loopw [100] (fun i wq => ∃ q : Nat, q ≤ m ∧ i = .int .i64 q ∧ hasB D.S A.b q = false ∧ Bx wq w.heap.size [.slice (some ⟨bb, o, none⟩) L.length cap] ∧ Bx wq eb [.int .i64 D.sl, .int .i64 D.sv, .int .i64 D.nc, .string D.k, .bool D.t, .slice (some ⟨ab, ao, none⟩) D.S.length cp, .int .i64 D.nx] ∧ Bx wq vb [.string A.i, .string A.b] ∧ Al wq ab ao D.S ∧ Below w.heap.size w wq) (fun i _ => m - (intOf i).toNat)
              case atStart => exact ⟨0, Nat.zero_le _, rfl, rfl, unhide HX1, unhide HY1, unhide HV1, unhide HA1, unhide HB1⟩
              case round =>
                obtain ⟨q, hq, rfl, hH, hX, hY, hV, hes, hbq⟩ := hrel
                clear HX1 HY1 HV1 HA1 HB1
                by_cases hqt : q < m
                · have c0 := hes.ci q (by omega)
                  have c1 := hes.cb q (by omega)
                  have v1 := hV.cv
                  have hvl := hV.lt
                  have hqn : (q : Int) < (m : Int) := by omega
                  have AL := hide ((Below.refl wr.heap.size wr).alloc (Nat.le_refl _) (.cells #[.string (aA D.S q).i, .string (aA D.S q).b] 129))
                  have FIN := hide (And.intro (hX.below (unhide AL)) (And.intro (hY.below (unhide AL)) (And.intro (hV.below (unhide AL)) (And.intro (hes.below (unhide AL)) (hbq.trans ((unhide AL).mono hbq.size))))))
                  clear hX hY hV hes hbq
                  by_cases e9 : ((aA D.S q).b.toList == A.b.toList) = true
                  · have hE := hide (unhide HN3 (hasB_at D.S A.b hqt hH e9).1)
                    have e8 := eq_of_beq e9
                    clear hH e9
                    generalize aA D.S q = A' at *
                    go_wp2
                    go_ret
                    exact ⟨by unfold gtB; rw [unhide hE, Bool.and_false]; rfl, (unhide FIN).2.2.2.2⟩
                  · have hE : Hid (hasB D.S A.b (q + 1) = false) := by show _ = _; rw [hasB, hH, Bool.eq_false_iff.2 e9]; rfl
                    have e8 := Bool.eq_false_iff.2 e9
                    clear hH e9
                    generalize aA D.S q = A' at *
                    go_wp2
                    exact ⟨⟨q + 1, by omega, by go_num, unhide hE, unhide FIN⟩, by simp [intOf]; omega⟩
                · obtain rfl : q = m := by omega
                  have hE := hide (unhide HOK hH)
                  have FIN := hide (And.intro hX (And.intro hY (And.intro (show Aa wr (some ⟨ab, ao, none⟩) D.S from Or.inr ⟨ab, ao, rfl, hes⟩) hbq)))
                  clear hH hX hY hV hes hbq
                  go_wp2
                  exact ⟨⟨q + 1, by omega, by go_num, unhide hE, unhide FIN⟩, by simp [intOf]; omega⟩
          · obtain rfl : m = D.S.length := by omega
            have hE := hide (unhide HYE (unhide HP) hO)
            have hX2 := hide hX
            have hB2 := hide hbm
            clear hO hX hY hbm hAa
            go_wp2
            exact ⟨⟨k + 1, by omega, by go_num, unhide hE, unhide hX2, unhide hB2⟩, by simp [intOf]; omega⟩
    · obtain rfl : k = L.length := by omega
      have hE := hide hA
      have hB := hide hbel
      have x1 := hX.cv
      clear hA hbel hX
      go_wp2
      go_ret
      exact ⟨by unfold gtB; rw [unhide hE, Bool.and_true]; exact congrArg (fun b => Ending.returned (.bool b)) (decide_eq_decide.2 (by omega)), unhide hB⟩
end Go.Proofs.Ytbabipaipbjlbaa
