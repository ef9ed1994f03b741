/-
  Contracts: the program's slotsOf: a good table's entries in a map of the call's own.
-/
import Derived.Test.YtldjenhknejpnaaMps
import Derived.Test.YtldjenhknejpnaaTge
namespace Go.Proofs.Ytldjenhknejpnaa
open Go.ChangeShapes Go.WideShapes Go.ChangeAt Go.RowKit Go.Deep Go.Maps
set_option linter.unusedVariables false
set_option maxRecDepth 100000

/-- every text of a table is short -/
def smE (L : List EnD) : Prop := ∀ i, i < L.length → (eA L i).k.size ≤ 1048576 ∧ (eA L i).S.length ≤ 1000000 ∧ ∀ j, j < (eA L i).S.length → (aA (eA L i).S j).i.size ≤ 1048576 ∧ (aA (eA L i).S j).b.size ≤ 1048576
/-- the entry of a slot among the first k -/
def atE (L : List EnD) (s : Int) : Nat → Option EnD
  | 0 => none
  | k + 1 => if (eA L k).sl = s then some (eA L k) else atE L s k
/-- the map holds the first k entries -/
def Fk (L : List EnD) (k : Nat) (F : Int → Option EnR) : Prop := ∀ s, (F s).map (·.D) = atE L s k
theorem okT_slot (L : List EnD) : ∀ {m : Nat}, okT L m = true → ∀ i, i < m → gcB (eA L i).sl (eA L i).sv (eA L i).nc (eA L i).k.size = true ∧ (eA L i).sl < 3 ∧ (i = 0 ∨ (eA L (i - 1)).sl < (eA L i).sl)
  | 0, _, i, hi => absurd hi (Nat.not_lt_zero _)
  | m + 1, h, i, hi => by
    unfold okT at h
    simp only [Bool.and_eq_true, geB, Bool.or_eq_true, decide_eq_true_eq] at h
    by_cases e : i = m
    · subst e; exact ⟨h.2.1.1.1.1.1, h.2.1.1.1.1.2, h.2.2⟩
    · exact okT_slot L h.1 i (by omega)
theorem okT_up (L : List EnD) {m : Nat} (h : okT L m = true) : ∀ i j, i < j → j < m → (eA L i).sl < (eA L j).sl := by
  intro i j hij hj
  induction j with
  | zero => omega
  | succ j ih =>
    have h1 := (okT_slot L h (j + 1) hj).2.2
    simp at h1
    by_cases e : i = j
    · subst e; exact h1
    · exact Int.lt_trans (ih (by omega) (by omega)) h1
theorem atE_new (L : List EnD) {m : Nat} (h : okT L m = true) : ∀ k, k < m → ∀ q, q ≤ k → atE L (eA L k).sl q = none
  | k, hk, 0, _ => rfl
  | k, hk, q + 1, hq => by
    unfold atE
    rw [if_neg (by have := okT_up L h q k (by omega) hk; omega)]
    exact atE_new L h k hk q (by omega)
/-- each row with its room, no two in one block -/
structure Ra (base : Nat) (w : World) (F : Int → Option EnR) : Prop where
  ro : ∀ s r, F s = some r → Oa base w (.slice r.ra r.D.S.length r.cap) r.D.S
  ne : ∀ s t r q, s ≠ t → F s = some r → F t = some q → r.ra = none ∨ r.ra ≠ q.ra
theorem Ra.below {base : Nat} {w w' : World} {F : Int → Option EnR} (h : Ra base w F) (hb : Below w.heap.size w w') : Ra base w' F := ⟨fun s r e => (h.ro s r e).below hb, h.ne⟩
theorem Oa.at {base : Nat} {w : World} {a : Option Addr} {n cap : Nat} {L : List AlD} (h : Oa base w (.slice a n cap) L) : a = none ∨ ∃ g, a = some ⟨g, 0, none⟩ ∧ base ≤ g ∧ g < w.heap.size := by
  rcases h.2 with ⟨e, _⟩ | ⟨g, cap, cur, e, hb, hg, _⟩
  · injection e with e; exact Or.inl e
  · injection e with e; exact Or.inr ⟨g, e, hb, (Array.getElem?_eq_some_iff.1 hg).1⟩
theorem Oa.off {base : Nat} {w : World} {v : Value} {L : List AlD} (h : Oa base w v L) {b n : Nat} {F : Int → Option EnR} (hm : Mg w b n F) : v.ownBlock ≠ some b := by
  intro e
  obtain ⟨es, c, hmap⟩ := hm.isMap
  rcases h.2 with ⟨rfl, _⟩ | ⟨g, cap, cur, rfl, _, hg, _⟩
  · cases e
  · injection e with e
    have e' : g = b := e
    rw [e', hmap] at hg
    cases hg
theorem Oa.turn {base : Nat} {w w' : World} {v : Value} {L : List AlD} (h : Oa base w v L) {b n : Nat} {F : Int → Option EnR} (hm : Mg w b n F) (hg : w.grownBy w' (some b)) : Oa base w' v L := World.ownsRow.kept h hg (Or.inr (h.off hm))
theorem Ra.put {base : Nat} {w w' : World} {b n : Nat} {F : Int → Option EnR} (h : Ra base w F) (hm : Mg w b n F) (hg : w.grownBy w' (some b)) (s : Int) (r : EnR) (hr : Oa base w (.slice r.ra r.D.S.length r.cap) r.D.S) (hne : ∀ t q, F t = some q → r.ra = none ∨ r.ra ≠ q.ra) : Ra base w' (putF F s (some r)) := by
  refine ⟨fun t q e => ?_, fun t u q p htu ht hu => ?_⟩
  · unfold putF at e
    by_cases e1 : t = s
    · rw [if_pos e1] at e; injection e with e; subst e; exact hr.turn hm hg
    · rw [if_neg e1] at e; exact (h.ro t q e).turn hm hg
  · unfold putF at ht hu
    by_cases e1 : t = s
    · have e2 : ¬ u = s := fun e => htu (by rw [e1, e])
      rw [if_pos e1] at ht
      rw [if_neg e2] at hu
      injection ht with ht
      subst ht
      exact hne u p hu
    · rw [if_neg e1] at ht
      by_cases e2 : u = s
      · rw [if_pos e2] at hu
        injection hu with hu
        subst hu
        rcases hne t q ht with x | x
        · by_cases y : q.ra = none
          · exact Or.inl y
          · exact Or.inr (by rw [x]; exact y)
        · exact Or.inr (fun e => x e.symm)
      · rw [if_neg e2] at hu
        exact h.ne t u q p htu ht hu
theorem Oa.mono {base base' : Nat} {w : World} {v : Value} {L : List AlD} (h : Oa base w v L) (hb : base' ≤ base) : Oa base' w v L := ⟨h.1, h.2.imp id fun ⟨g, cap, cur, e, h1, h2⟩ => ⟨g, cap, cur, e, Nat.le_trans hb h1, h2⟩⟩
/-- the map holds what it must -/
def Ms (base : Nat) (w wr : World) (mb : Nat) (L : List EnD) (k : Nat) : Prop := ∃ F B, Mo base wr mb k F B ∧ Fk L k F ∧ (∀ s r, F s = some r → r.D.S ≠ [] → B s < wr.heap.size) ∧ Ra base wr F
set_option maxHeartbeats 8000000 in
theorem slots_own (a : Option Addr) (cap : Nat) (L : List EnD) (w : World) (hG : okE L) (hS : ∀ i, i < L.length → (eA L i).S.length ≤ 1048576) (hsm : smE L) (hgt : gtB L = true) (h : Ea w a L) :
    Calls Try.prog 35 #[.agg #[.slice a L.length cap]] w fun e w' => ∃ b F B, e = .returned (.tuple #[.map (some b), .bool true]) ∧ Mo w.heap.size w' b L.length F B ∧ Fk L L.length F ∧ Ra w.heap.size w' F ∧ Below w.heap.size w w' := by
  have HG := hide (fun W (b : Below w.heap.size w W) => implGT a cap L W hG hS (h.below b))
  rw [hgt] at HG
  have hL3 : L.length ≤ 3 := by unfold gtB at hgt; rw [Bool.and_eq_true, decide_eq_true_eq] at hgt; exact hgt.1
  have hok : okT L L.length = true := by unfold gtB at hgt; rw [Bool.and_eq_true] at hgt; exact hgt.2
  have HOK := hide hok
  have HR := hide h
  have HSM := hide hsm
  clear h hG hS hsm hgt hok
  have hmm := @run_makeMap Try.prog
  go_enter Try.func35, Try.ntmps35
  go_wp2_with fail
  refine (unhide HG _ ((Below.refl _ _).alloc (Nat.le_refl _) _)).mono ?_
  rintro e w1 ⟨rfl, b1⟩
  have X1 := (Bx.new w [.slice a L.length cap] 32).below b1
  have B1 : Below w.heap.size w w1 := ((Below.refl _ _).alloc (Nat.le_refl _) _).trans (b1.mono (by simp))
  have HX0 := hide (X1.alloc (.map #[] 0))
  have HB0 := hide (B1.alloc B1.size (.map #[] 0))
  have x1 := X1.cv
  have hx1 := X1.lt
  have HM0 : Hid (Ms w.heap.size w (w1.alloc (.map #[] 0)) w1.heap.size L 0) := ⟨fun _ => none, fun _ => 0, ⟨B1.size, Mg.made w1, fun s r e => (by cases e), fun s t r q _ e => (by cases e)⟩, fun s => rfl, fun s r e => (by cases e), ⟨fun s r e => (by cases e), fun s t r q _ e => (by cases e)⟩⟩
  clear X1 B1 b1
  go_wp2
  go_loopw [14] (fun i wr => ∃ k : Nat, k ≤ L.length ∧ i = .int .i64 k ∧ Bx wr w.heap.size [.slice a L.length cap] ∧ Ms w.heap.size w wr w1.heap.size L k ∧ Below w.heap.size w wr) (fun i _ => L.length - (intOf i).toNat)
  case atStart => exact ⟨0, Nat.zero_le _, rfl, unhide HX0, unhide HM0, unhide HB0⟩
  case round =>
    obtain ⟨k, hk, rfl, hX, ⟨F, B, hM, hF, hBl, hRa⟩, hbel⟩ := hrel
    clear x1 hx1 HX0 HM0 HB0
    generalize w1.heap.size = mb at *
    by_cases hlt : k < L.length
    · rcases (unhide HR).below hbel with h0 | ⟨bb, o, rfl, hel⟩
      · rw [h0] at hlt; exact absurd hlt (Nat.not_lt_zero _)
      obtain ⟨ra, cp, hc, hcp, hra⟩ := hel k hlt
      have HX := hide hX
      have HM := hide hM
      have hB := hide hbel
      have hnk : (k : Int) < (L.length : Int) := by omega
      obtain ⟨s1, s2, s3⟩ := unhide HSM k hlt
      have HC := hide (ownCf (eA L k).sl (eA L k).sv (eA L k).nc (eA L k).k (eA L k).t s1)
      have HS := hide (fun W (b : Below wr.heap.size wr W) => ownSrv ra cp (eA L k).S W s2 s3 (hra.below b))
      have hg0 := okT_slot L (unhide HOK) k hlt
      have HW : Hid ((Lit.int .i64 (eA L k).sl).wf = true) := WalkArith.wf_i64 (by have := ((gcB_iff _ _ _ _).1 hg0.1).1; have := hg0.2.1; omega)
      have HF : Hid (F (eA L k).sl = none) := by
        have e9 := hF (eA L k).sl
        rw [atE_new L (unhide HOK) k hlt k (Nat.le_refl _)] at e9
        cases e8 : F (eA L k).sl with
        | none => rfl
        | some r => rw [e8] at e9; cases e9
      have HK := hide (And.intro hF hBl)
      have HRA := hide hRa
      have HEQ : Hid (∀ s, atE L s (k + 1) = if (eA L k).sl = s then some (eA L k) else atE L s k) := fun s => rfl
      obtain ⟨c0, c1, c2, c3, c4, c5, c6⟩ := hc
      clear hbel hra hX hM hel s1 s2 s3 hF hBl hg0 hRa
      generalize eA L k = D at *
      have AL := hide ((Below.refl wr.heap.size wr).alloc (Nat.le_refl _) (.cells #[.int .i64 D.sl, .int .i64 D.sv, .int .i64 D.nc, .string D.k, .bool D.t, .slice ra D.S.length cp, .int .i64 D.nx] 73))
      have XE := hide (Bx.new wr [.int .i64 D.sl, .int .i64 D.sv, .int .i64 D.nc, .string D.k, .bool D.t, .slice ra D.S.length cp, .int .i64 D.nx] 73)
      go_wp2_with fail
      refine wp_region_noPanic ?_
      refine wp_region_held_drew (S := fun V => Bx V w.heap.size [.slice (some ⟨bb, o, none⟩) L.length cap] ∧ Bx V wr.heap.size [.int .i64 D.sl, .int .i64 D.sv, .int .i64 D.nc, .string D.k, .bool D.t, .slice ra D.S.length cp, .int .i64 D.nx]) (by kernel_rfl) ⟨((unhide HX).alloc _).drew, (unhide XE).drew⟩ (fun hHeld => ?_)
      refine wpAnyH_take (i := 0) (v := ?_) rfl (by kernel_rfl) (by kernel_rfl) (by kernel_rfl) (fun _ _ _ h => h) (Or.inl ⟨by rfl, ?_⟩) hHeld ?_
      rotate_left
      · intro V hSw; have y2 := hSw.2.cv; go_simp; rfl
      simp only [Act.put, List.getElem_toArray, List.getElem_cons_zero, List.setIfInBounds_toArray, List.set_cons_zero, List.set_cons_succ]
      refine wpAnyH_take (i := 1) (v := ?_) rfl (by kernel_rfl) (by kernel_rfl) (by kernel_rfl) (fun _ _ _ h => h) (Or.inl ⟨by rfl, ?_⟩) hHeld ?_
      rotate_left
      · intro V hSw; have y2 := hSw.2.cv; go_simp; rfl
      simp only [Act.put, List.getElem_toArray, List.getElem_cons_succ, List.getElem_cons_zero, List.setIfInBounds_toArray, List.set_cons_zero, List.set_cons_succ]
      refine wpAnyH_take (i := 2) (v := ?_) rfl (by kernel_rfl) (by kernel_rfl) (by kernel_rfl) (fun _ _ _ h => h) (Or.inl ⟨by rfl, ?_⟩) hHeld ?_
      rotate_left
      · intro V hSw; have y2 := hSw.2.cv; go_simp; rfl
      simp only [Act.put, List.getElem_toArray, List.getElem_cons_succ, List.getElem_cons_zero, List.setIfInBounds_toArray, List.set_cons_zero, List.set_cons_succ]
      refine wpAnyH_take (i := 3) (v := ?_) rfl (by kernel_rfl) (by kernel_rfl) (by kernel_rfl) (fun _ _ _ h => h) (Or.inl ⟨by rfl, ?_⟩) hHeld ?_
      rotate_left
      · intro V hSw; have y2 := hSw.2.cv; go_simp; rfl
      simp only [Act.put, List.getElem_toArray, List.getElem_cons_succ, List.getElem_cons_zero, List.setIfInBounds_toArray, List.set_cons_zero, List.set_cons_succ]
      refine wpAnyH_take (i := 4) (v := ?_) rfl (by kernel_rfl) (by kernel_rfl) (by kernel_rfl) (fun _ _ _ h => h) (Or.inl ⟨by rfl, ?_⟩) hHeld ?_
      rotate_left
      · intro V hSw; have y2 := hSw.2.cv; go_simp; rfl
      simp only [Act.put, List.getElem_toArray, List.getElem_cons_succ, List.getElem_cons_zero, List.setIfInBounds_toArray, List.set_cons_zero, List.set_cons_succ]
      refine wpAnyH_take (i := 5) (v := ?_) rfl (by kernel_rfl) (by kernel_rfl) (by kernel_rfl) (fun _ _ _ h => h) (Or.inl ⟨by rfl, ?_⟩) hHeld ?_
      rotate_left
      · intro V hSw; have y2 := hSw.2.cv; go_simp; rfl
      simp only [Act.put, List.getElem_toArray, List.getElem_cons_succ, List.getElem_cons_zero, List.setIfInBounds_toArray, List.set_cons_zero, List.set_cons_succ]
      refine wpAnyH_take (i := 7) (v := ?_) rfl (by kernel_rfl) (by kernel_rfl) (by kernel_rfl) (fun _ _ _ h => h) (Or.inl ⟨by rfl, ?_⟩) hHeld ?_
      rotate_left
      · intro V hSw; have y2 := hSw.2.cv; go_simp; rfl
      simp only [Act.put, List.getElem_toArray, List.getElem_cons_succ, List.getElem_cons_zero, List.setIfInBounds_toArray, List.set_cons_zero, List.set_cons_succ]
      refine wpAnyH_take (i := 8) (v := ?_) rfl (by kernel_rfl) (by kernel_rfl) (by kernel_rfl) (fun _ _ _ h => h) (Or.inl ⟨by rfl, ?_⟩) hHeld ?_
      rotate_left
      · intro V hSw; have y2 := hSw.2.cv; go_simp; rfl
      simp only [Act.put, List.getElem_toArray, List.getElem_cons_succ, List.getElem_cons_zero, List.setIfInBounds_toArray, List.set_cons_zero, List.set_cons_succ]
      refine wpAnyH_take (i := 10) (v := ?_) rfl (by kernel_rfl) (by kernel_rfl) (by kernel_rfl) (fun _ _ _ h => h) (Or.inl ⟨by rfl, ?_⟩) hHeld ?_
      rotate_left
      · intro V hSw; have y2 := hSw.2.cv; go_simp; rfl
      simp only [Act.put, List.getElem_toArray, List.getElem_cons_succ, List.getElem_cons_zero, List.setIfInBounds_toArray, List.set_cons_zero, List.set_cons_succ]
      refine wpAnyH_take (i := 11) (v := ?_) rfl (by kernel_rfl) (by kernel_rfl) (by kernel_rfl) (fun _ _ _ h => h) (Or.inl ⟨by rfl, ?_⟩) hHeld ?_
      rotate_left
      · intro V hSw; have y2 := hSw.2.cv; go_simp; rfl
      simp only [Act.put, List.getElem_toArray, List.getElem_cons_succ, List.getElem_cons_zero, List.setIfInBounds_toArray, List.set_cons_zero, List.set_cons_succ]
      refine wpAnyH_ready (rs := [6]) (by kernel_rfl) (by simp) ?_
      refine AllReadyH.cons rfl (fun K hK => ?_) AllReadyH.nil
      go_simp
      go_at_call 57
      with_reducible refine (unhide HC _).mono ?_
      rintro e w2 ⟨rfl, b2⟩
      have Z2 := hide ((unhide AL).drew.trans (b2.mono (unhide AL).size))
      refine hK.out _ _ (⟨hHeld.1.below b2, hHeld.2.below b2⟩) (fun hHeld => ?_)
      clear hK K
      try simp only [Act.put, List.getElem_toArray, List.getElem_cons_succ, List.getElem_cons_zero, List.setIfInBounds_toArray, List.set_cons_zero, List.set_cons_succ]
      refine wpAnyH_ready (rs := [9]) (by kernel_rfl) (by simp) ?_
      refine AllReadyH.cons rfl (fun K hK => ?_) AllReadyH.nil
      go_simp
      go_at_call 58
      with_reducible refine (unhide HS _ (unhide Z2)).mono ?_
      rintro e w3 ⟨v3, rfl, hO3, b3⟩
      have Z3 := hide ((unhide Z2).trans (b3.mono (unhide Z2).size))
      obtain ⟨ra3, cap3, rfl, hcp3, hA3⟩ := hO3.form
      have hge3 : wr.heap.size ≤ w2.heap.size := (unhide Z2).size
      have HA3 := hide hA3
      have HO3 := hide hO3
      clear hO3 hA3
      refine hK.out _ _ (⟨hHeld.1.below b3, hHeld.2.below b3⟩) (fun hHeld => ?_)
      clear hK K
      try simp only [Act.put, List.getElem_toArray, List.getElem_cons_succ, List.getElem_cons_zero, List.setIfInBounds_toArray, List.set_cons_zero, List.set_cons_succ]
      refine wpAnyH_take (i := 12) (v := ?_) rfl (by kernel_rfl) (by kernel_rfl) (by kernel_rfl) (fun _ _ _ h => h) (Or.inl ⟨by rfl, ?_⟩) hHeld ?_
      rotate_left
      · intro V hSw; have y2 := hSw.2.cv; go_simp; rfl
      simp only [Act.put, List.getElem_toArray, List.getElem_cons_succ, List.getElem_cons_zero, List.setIfInBounds_toArray, List.set_cons_zero, List.set_cons_succ]
      obtain ⟨w4, hrun, hM4, hg4⟩ := ((unhide HM).mp.below (unhide Z3)).store (by unfold maxLen; omega) D.sl (unhide HW) ⟨D, ra3, cap3⟩
      have RUN := hide hrun
      clear hrun
      refine wpAnyH_ready (rs := [13]) (by kernel_rfl) (by simp) ?_
      refine AllReadyH.cons rfl (fun K hK => ?_) AllReadyH.nil
      refine stp_map rfl _ _ _ 60 rfl _ _ _ _ rfl rfl rfl (unhide RUN) ?_
      have hxne : w.heap.size ≠ mb := by intro e9; obtain ⟨es9, c9, h9⟩ := (unhide HM).mp.isMap; have := (unhide HX).cv 0; unfold World.cell? at this; rw [show (⟨w.heap.size, 0, none⟩ : Addr).block = w.heap.size from rfl, e9, h9] at this; simp at this
      have X4 := hide (hHeld.1.kept hg4.size (hg4.block _ hHeld.1.lt (by intro e9; injection e9 with e9; exact hxne e9)))
      have hne2 : wr.heap.size ≠ mb := by have := (unhide HM).mp.lt; omega
      have Y4 := hide (hHeld.2.kept hg4.size (hg4.block _ hHeld.2.lt (by intro e9; injection e9 with e9; exact hne2 e9)))
      refine hK.out _ _ ⟨unhide X4, unhide Y4⟩ (fun hHeld => ?_)
      clear hK K
      try simp only [Act.put, List.getElem_toArray, List.getElem_cons_succ, List.getElem_cons_zero]
      refine wpAnyH_done (by kernel_rfl) ?_ _
      refine NoPanic.normal ?_
      clear hHeld
      have M3 := (unhide HM).below (unhide Z3)
      have hs3 : w2.heap.size ≤ w3.heap.size := b3.size
      have MF : Hid (Ms w.heap.size w w4 mb L (k + 1)) := by
        obtain ⟨g3, hg3⟩ : ∃ g, D.S = [] ∨ (ra3 = some ⟨g, 0, none⟩ ∧ Ao w2.heap.size w3 g D.S) := by
          rcases unhide HA3 with x | ⟨g, x⟩
          · exact ⟨0, Or.inl x⟩
          · exact ⟨g, Or.inr x⟩
        have hwz : w.heap.size ≤ w2.heap.size := Nat.le_trans (unhide hB).size (unhide Z2).size
        have hwr : wr.heap.size ≤ w2.heap.size := (unhide Z2).size
        refine ⟨_, _, M3.put hg4 D.sl ⟨D, ra3, cap3⟩ g3 hM4 ⟨hcp3, hg3.imp id fun ⟨x, y⟩ => ⟨x, y.mono hwz⟩⟩ (fun t q ht hq h1 h2 => ?_), fun s => ?_, fun s r e h1 => ?_, ((unhide HRA).below (unhide Z3)).put M3.mp hg4 D.sl ⟨D, ra3, cap3⟩ ((unhide HO3).mono hwz) (fun t q hq => ?_)⟩
        · rcases hg3 with x | ⟨x, y⟩
          · exact absurd x h1
          · have := (unhide HK).2 t q hq h2
            have := y.ge
            omega
        · rw [unhide HEQ s]
          unfold putF
          by_cases e9 : s = D.sl
          · rw [if_pos e9, if_pos e9.symm]; rfl
          · rw [if_neg e9, if_neg (fun q => e9 q.symm)]; exact (unhide HK).1 s
        · unfold putF at e
          by_cases e9 : s = D.sl
          · rw [if_pos e9] at e
            injection e with e
            subst e
            simp only [if_pos e9]
            rcases hg3 with x | ⟨x, y⟩
            · exact absurd x h1
            · exact Nat.lt_of_lt_of_le y.al.lt hg4.size
          · rw [if_neg e9] at e
            simp only [if_neg e9]
            have := (unhide HK).2 s r e h1
            have := hg4.size
            omega
        · rcases (unhide HO3).at with x | ⟨g, x, hge, _⟩
          · exact Or.inl x
          · refine Or.inr (fun e => ?_)
            rcases ((unhide HRA).ro t q hq).at with y | ⟨g2, y, _, hlt⟩
            · have e' : ra3 = q.ra := e
              rw [x, y] at e'
              cases e'
            · have e' : ra3 = q.ra := e
              rw [x, y] at e'
              injection e' with e'
              injection e' with e'
              omega
      have BF : Hid (Below w.heap.size w w4) := by
        refine ((unhide hB).trans ((unhide Z3).mono (unhide hB).size)).trans (grown_below (v := .slice (some ⟨mb, 0, none⟩) 0 0) (by simpa [Value.ownBlock] using hg4) (Nat.le_trans (unhide hB).size (unhide Z3).size) (fun q e => by simp [Value.ownBlock] at e; rw [← e]; exact (unhide HM).ge))
      clear hM4 hg4 M3
      go_wp2
      exact ⟨⟨k + 1, by omega, by go_num, unhide X4, unhide MF, unhide BF⟩, by simp [intOf]; omega⟩
    · obtain rfl : k = L.length := by omega
      have HM := hide (And.intro hM hF)
      have hB := hide hbel
      have HRA := hide hRa
      clear hM hF hbel hX hBl hRa
      go_wp2
      go_ret2
      exact ⟨_, F, B, rfl, (unhide HM).1, (unhide HM).2, unhide HRA, unhide hB⟩
theorem slots_ok (a : Option Addr) (cap : Nat) (L : List EnD) (w : World) (hG : okE L) (hS : ∀ i, i < L.length → (eA L i).S.length ≤ 1048576) (hsm : smE L) (hgt : gtB L = true) (h : Ea w a L) :
    Calls Try.prog 35 #[.agg #[.slice a L.length cap]] w fun e w' => ∃ b F B, e = .returned (.tuple #[.map (some b), .bool true]) ∧ Mo w.heap.size w' b L.length F B ∧ Fk L L.length F ∧ Below w.heap.size w w' :=
  (slots_own a cap L w hG hS hsm hgt h).mono fun e w' ⟨b, F, B, h1, h2, h3, _, h4⟩ => ⟨b, F, B, h1, h2, h3, h4⟩
end Go.Proofs.Ytldjenhknejpnaa
