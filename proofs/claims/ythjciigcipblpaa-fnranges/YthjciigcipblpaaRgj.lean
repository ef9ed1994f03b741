/-
  Contract: JoinRanges of the model.
-/
import Derived.Test.YthjciigcipblpaaRgc
namespace Go.Proofs.Ythjciigcipblpaa.Rc
open Go.ChangeShapes Go.WideShapes Go.ChangeAt Go.RowKit Go.Deep
set_option linter.unusedVariables false
set_option maxRecDepth 100000

theorem bd_put : ∀ (L : List RangeD) (x : RangeD) (p : Bool), (∀ r ∈ L, bdR r) → bdR x → ∀ r ∈ putG L x p, bdR r
  | [], x, p, _, hx, r, hr => by
    cases p with
    | true => cases hr
    | false => rw [putG] at hr; simp at hr; rw [hr]; exact hx
  | y :: l, x, p, hL, hx, r, hr => by
    have hl : ∀ r ∈ l, bdR r := fun r h => hL r (List.mem_cons_of_mem _ h)
    have hy := hL y (List.mem_cons_self)
    rw [putG] at hr
    split at hr
    · rcases List.mem_cons.1 hr with rfl | h
      · exact hy
      · exact bd_put l x p hl hx r h
    · split at hr
      · cases p with
        | true =>
          rcases List.mem_cons.1 hr with rfl | h
          · exact hy
          · exact bd_put l x true hl hx r h
        | false =>
          rcases List.mem_cons.1 hr with rfl | h
          · exact hx
          · rcases List.mem_cons.1 h with rfl | h
            · exact hy
            · exact bd_put l x true hl hx r h
      · exact bd_put l (mrg y x) p hl (bd_mrg hy hx) r hr
/-- ranges joined -/
def jnG (A B : List RangeD) : List RangeD := B.foldl (fun o r => putG o r false) A
theorem jnG_step (A B : List RangeD) (k : Nat) (h : k < B.length) : jnG A (B.take (k + 1)) = putG (jnG A (B.take k)) (gt rangeK B k) false := by
  unfold jnG
  rw [List.take_succ_eq_append_getElem h, List.foldl_append, gt_of rangeK B k h]
  rfl
theorem jnG_len : ∀ (B A : List RangeD), (jnG A B).length ≤ A.length + B.length
  | [], A => Nat.le_refl _
  | x :: B, A => by
    have h := jnG_len B (putG A x false)
    have h2 := putG_len A x false
    show (jnG (putG A x false) B).length ≤ _
    rw [List.length_cons]
    omega
theorem jnG_bd : ∀ (B A : List RangeD), (∀ r ∈ A, bdR r) → (∀ r ∈ B, bdR r) → ∀ r ∈ jnG A B, bdR r
  | [], A, hA, _ => hA
  | x :: B, A, hA, hB => jnG_bd B (putG A x false) (bd_put A x false hA (hB x (List.mem_cons_self))) (fun r h => hB r (List.mem_cons_of_mem _ h))
theorem gr_mem {L : List RangeD} (h : grB L = true) : ∀ r ∈ L, bdR r := by
  intro r hr
  obtain ⟨i, hi, rfl⟩ := List.getElem_of_mem hr
  have := gr_bd h i hi
  rwa [gt_of rangeK L i hi] at this
theorem gr_len {L : List RangeD} (h : grB L = true) : L.length ≤ 20 := by unfold grB at h; rw [Bool.and_eq_true, decide_eq_true_eq] at h; exact h.1
/-- whether ranges are joined, and to what -/
def jnB (A B : List RangeD) : Bool := grB A && (grB B && decide ((jnG A B).length ≤ 20))
def jnL (A B : List RangeD) : Bool → List RangeD
  | true => jnG A B
  | false => []
theorem jnL_len (A B : List RangeD) : (jnL A B (jnB A B)).length ≤ 20 := by
  cases e : jnB A B with
  | true => unfold jnB at e; simp only [Bool.and_eq_true, decide_eq_true_eq] at e; exact e.2.2
  | false => exact Nat.zero_le _
/-- what is answered -/
def JRP (A B : List RangeD) (W : World) (e : Ending) (w' : World) : Prop := ∃ (a9 : Option Addr) (c9 : Nat), e = .returned (.tuple #[.slice a9 (jnL A B (jnB A B)).length c9, .bool (jnB A B)]) ∧ Rd rangeK w' a9 (jnL A B (jnB A B)) ∧ Below W.heap.size W w'
theorem JRP.no {A B : List RangeD} {W w' : World} (h : jnB A B = false) (b : Below W.heap.size W w') : JRP A B W (.returned (.tuple #[.slice none 0 0, .bool false])) w' := ⟨none, 0, by rw [h]; rfl, by rw [h]; exact Or.inl rfl, b⟩
theorem JRP.yes {A B : List RangeD} {W w' : World} {a : Option Addr} {c : Nat} (h : jnB A B = true) (hr : Rd rangeK w' a (jnG A B)) (b : Below W.heap.size W w') : JRP A B W (.returned (.tuple #[.slice a (jnG A B).length c, .bool true])) w' := ⟨a, c, by rw [h]; rfl, by rw [h]; exact hr, b⟩
set_option maxHeartbeats 4000000 in
theorem specJR (A B : List RangeD) (hA : A.length ≤ 1048576) (hB : B.length ≤ 1048576) (oA : rgO A) (oB : rgO B) (W : World) (a : Option Addr) (c : Nat) (a' : Option Addr) (c' : Nat) (h : Rd rangeK W a A) (h' : Rd rangeK W a' B) :
    Calls Try.prog 11 #[.slice a A.length c, .slice a' B.length c'] W (JRP A B W) := by
  have H0 := hide (specGR a c A W hA oA h)
  have H1 := hide (fun W1 (b : Below W.heap.size W W1) => specGR a' c' B W1 hB oB (h'.below b))
  cases e0 : grB A with
  | false =>
    have er : jnB A B = false := by unfold jnB; rw [e0]; rfl
    have HE := hide er
    rw [e0] at H0
    clear er e0 h h'
    go_enter Try.func11, Try.ntmps11
    go_wp2_with fail
    refine (unhide H0).mono ?_
    rintro e w1 ⟨rfl, b1⟩
    have B1 := hide b1
    clear b1
    go_wp2
    go_ret2
    exact JRP.no (unhide HE) (unhide B1)
  | true =>
    rw [e0] at H0
    cases e1 : grB B with
    | false =>
      have er : jnB A B = false := by unfold jnB; rw [e0, e1]; rfl
      have HE := hide er
      rw [e1] at H1
      clear er e0 e1 h h'
      go_enter Try.func11, Try.ntmps11
      go_wp2_with fail
      refine (unhide H0).mono ?_
      rintro e w1 ⟨rfl, b1⟩
      have B1 := hide b1
      clear b1
      go_wp2_with fail
      refine (unhide H1 _ (unhide B1)).mono ?_
      rintro e w2 ⟨rfl, b2⟩
      have B2 := hide ((unhide B1).trans (b2.mono (unhide B1).size))
      clear b2
      go_wp2
      go_ret2
      exact JRP.no (unhide HE) (unhide B2)
    | true =>
      have lA := gr_len e0
      have lB := gr_len e1
      have HBD := hide (fun k => jnG_bd (B.take k) A (gr_mem e0) (fun r h => gr_mem e1 r (List.mem_of_mem_take h)))
      have HBB := hide (gr_bd e1)
      have er : Hid (jnB A B = decide ((jnG A B).length ≤ 20)) := by show _ = _; unfold jnB; rw [e0, e1]; rfl
      rw [e1] at H1
      have HA := hide (fun W1 (b : Below W.heap.size W W1) => h.below b)
      have HB := hide (fun W1 (b : Below W.heap.size W W1) => h'.below b)
      clear e0 e1 h h' oA oB
      go_enter Try.func11, Try.ntmps11
      go_wp2_with fail
      refine (unhide H0).mono ?_
      rintro e w1 ⟨rfl, b1⟩
      have B1 := hide b1
      clear b1
      go_wp2_with fail
      refine (unhide H1 _ (unhide B1)).mono ?_
      rintro e w2 ⟨rfl, b2⟩
      have B2 := hide ((unhide B1).trans (b2.mono (unhide B1).size))
      clear b2 H0 H1 B1
      have A2 := hide ((unhide B2).alloc (unhide B2).size (.cells #[] 65))
      obtain ⟨v3, w3, run, o3, b3, _⟩ := joinRange (w2.alloc (.cells #[] 65)) W.heap.size _ [] A a c (lit0Range w2 W.heap.size (unhide B2).size) (unhide HA _ (unhide A2)) (by simp; omega) (unhide A2).size
      have RUN := hide run
      have O3 : Hid (Ro rangeK 65 W.heap.size w3 v3 (jnG A (B.take 0))) := o3
      have B3 := hide ((unhide A2).trans b3)
      clear run o3 b3 HA
      go_upto_region 4 with (at_builtin; refine wpl_app rfl _ _ 23 rfl _ _ _ _ rfl rfl (unhide RUN) ?_)
      go_wp2_with fail
      go_loopw [6, 22] (fun ov iv wr => ∃ k : Nat, k ≤ B.length ∧ iv = .int .i64 k ∧ Hid (Ro rangeK 65 W.heap.size wr ov (jnG A (B.take k))) ∧ Hid (Below W.heap.size W wr)) (fun _ iv _ => B.length - (intOf iv).toNat)
      case atStart => exact ⟨0, Nat.zero_le _, rfl, O3, B3⟩
      case round =>
        obtain ⟨k, hk, rfl, hO, hW⟩ := hrel
        clear O3 B3 A2 B2 RUN
        obtain ⟨ao, co, rfl, _, io⟩ := (unhide hO).form
        have hjl := jnG_len (B.take k) A
        rw [List.length_take] at hjl
        by_cases hlt : k < B.length
        · rcases unhide HB _ (unhide hW) with h0 | ⟨b, o, rfl, _, hel⟩
          · rw [h0] at hlt; exact absurd hlt (Nat.not_lt_zero _)
          have c0 := range_r0 hel hlt
          have c1 := range_r1 hel hlt
          have hst := hide (jnG_step A B k hlt)
          have hbd := unhide HBD k
          have hbx := unhide HBB k hlt
          clear hel
          obtain ⟨V, hV⟩ : ∃ V, V = wr.alloc (.cells #[.int .i64 (gt rangeK B k).f0, .int .i64 (gt rangeK B k).f1] 65) := ⟨_, rfl⟩
          have hAl : Below wr.heap.size wr V := by rw [hV]; exact (Below.refl _ _).alloc (Nat.le_refl _) _
          have BX := hide (show Bx V wr.heap.size (rangeC (gt rangeK B k)) by rw [hV]; exact Bx.new wr _ _)
          have H2 := hide (specPu ao co (jnG A (B.take k)) (gt rangeK B k) V (by omega) (fun i hi => hbd _ (gt_mem rangeK _ i hi)) hbx ((io.rd).below hAl))
          have BV := hide ((unhide hW).trans (hAl.mono (unhide hW).size))
          have HV := hide hV
          have x0 := (unhide BX).cv
          clear hV hAl io hbd hbx BX
          generalize gt rangeK B k = r at *
          obtain ⟨r0, r1⟩ := r
          go_upto_region 7 with fail
          rw [← unhide HV]
          clear HV
          go_wp2_with fail
          refine (unhide H2).mono ?_
          rintro e w4 ⟨v4, rfl, o4, b4⟩
          have O4 : Hid (Ro rangeK 65 W.heap.size w4 v4 (jnG A (B.take (k + 1)))) := by rw [unhide hst]; exact o4.mono (unhide BV).size
          have B4 := hide ((unhide BV).trans (b4.mono (unhide BV).size))
          clear o4 b4 hst H2
          go_wp2
          exact ⟨⟨k + 1, by omega, by go_num, O4, B4⟩, by simp [intOf]; omega⟩
        · have ek : Hid (jnG A (B.take k) = jnG A B) := by show _ = _; rw [List.take_of_length_le (by omega)]
          rw [unhide ek] at io hjl
          have IO := hide io.rd
          rw [unhide ek]
          clear io ek hO HBD HBB HB
          cases er2 : decide ((jnG A B).length ≤ 20) with
          | true =>
            have h20 := of_decide_eq_true er2
            have g9 : ¬ (20 : Int) < ((jnG A B).length : Int) := by omega
            have HE : Hid (jnB A B = true) := (unhide er).trans er2
            clear er er2 h20 hjl
            obtain ⟨n, hN⟩ : ∃ n, (jnG A B).length = n := ⟨_, rfl⟩
            have FIN : Hid (JRP A B W (.returned (.tuple #[.slice ao n co, .bool true])) wr) := by rw [← hN]; exact JRP.yes (unhide HE) (unhide IO) (unhide hW)
            rw [hN] at g9 ⊢
            clear hN HE IO hW
            go_wp2
            go_ret2
            exact unhide FIN
          | false =>
            have h20 := of_decide_eq_false er2
            have g9 : (20 : Int) < ((jnG A B).length : Int) := by omega
            have HE : Hid (jnB A B = false) := (unhide er).trans er2
            clear er er2 h20 hjl
            have FIN : Hid (JRP A B W (.returned (.tuple #[.slice none 0 0, .bool false])) wr) := JRP.no (unhide HE) (unhide hW)
            generalize (jnG A B).length = n at *
            clear HE IO hW
            go_wp2
            go_ret2
            exact unhide FIN
end Go.Proofs.Ythjciigcipblpaa.Rc
