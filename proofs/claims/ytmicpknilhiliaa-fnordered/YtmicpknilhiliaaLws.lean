/-
  A drawn region that ends in a send: all its other operations lie behind the send in no order, so it comes last; they are walked as ever ('wpAnyH', over the operations with a mute one in the send's place), and the send is a step of its own.
-/
import Derived.Test.YtmicpknilhiliaaLwk
import Derived.OrdersHeld
namespace Go.Proofs.Ytmicpknilhiliaa.Rc
open Go.Conc
set_option linter.unusedVariables false

section
variable {P : Program} {ops ops₁ : Array Oper} {Q Q₁ : Exit → Act → World → Prop}

/-- whatever the walk reckons of an operation is a step -/
theorem Lw.upon {a : Act} {w : World} {i : Nat} {rest : List Nat} {o : Oper} {K : Act → World → Prop} (ho : ops[i]? = some o) (hw : Region.wanted o (yielded ops a.tmps) = true)
    (hQ : ∀ e a w, e ≠ .normal → Q₁ e a w → Q e a w) (h : o.wp P a w K Q₁) (hK : ∀ a w, K a w → Lw P ops Q rest a w) : Lw P ops Q (i :: rest) a w := by
  unfold Oper.wp at h
  generalize hr : (execOp a.eval o).run P w = r at h
  intro b k cs
  have hg := stepG_op (P := P) (b := b) (k := k) (cs := cs) (w := w) (rest := rest) ho hw
  match r, h with
  | .ok (.value v) w', h => exact Lw.value ho hw hr (hK _ _ h) b k cs
  | .ok .skip w', h =>
    obtain ⟨e, a', w'', hq, harr⟩ := hK _ _ h b k cs
    refine ⟨e, a', w'', hq, .of_steps (.one (step_lone_go ?_)) harr⟩
    rw [hg, ← fin_at ho]
    simp [stepG.apply, hr]
  | .ok (.defer d) w', h =>
    obtain ⟨e, a', w'', hq, harr⟩ := hK _ _ h b k cs
    refine ⟨e, a', w'', hq, .of_steps (.one (step_lone_go ?_)) harr⟩
    have hf : ({ b.at a (.inRegion ops (i :: rest) :: k) with defers := d :: a.defers } : Frame).finish undef = b.at ({ a with defers := d :: a.defers }.put o.dst undef) (.inRegion ops rest :: k) :=
      fin_at (b := b) (a := { a with defers := d :: a.defers }) ho undef
    rw [hg, ← hf]
    simp [stepG.apply, hr, Frame.at]
  | .ok (.enter f args) w', h =>
    obtain ⟨e, w'', fr, hR, hsteps, _, hleave⟩ := h (b.at a (.inRegion ops (i :: rest) :: k) :: cs)
    have henter : step P (lone (b.at a (.inRegion ops (i :: rest) :: k)) cs w) = .next (lone (Frame.enter P f args .normal) (b.at a (.inRegion ops (i :: rest) :: k) :: cs) w') :=
      step_lone_go (by rw [hg]; simp [stepG.apply, hr, Frame.at])
    cases e with
    | returned v =>
      obtain ⟨e, a', w₃, hq, harr⟩ := hK _ _ hR b k cs
      refine ⟨e, a', w₃, hq, .of_steps (.head henter (hsteps.trans (.one ?_))) harr⟩
      rw [← fin_at ho]
      exact step_leave_returned hleave
    | panicked chain =>
      refine ⟨.panic chain, a, w'', hQ _ _ _ (by simp) hR, .inRegion ops (i :: rest) :: k, .head henter (hsteps.trans (.one ?_))⟩
      rw [← Frame.raise_at]
      exact step_leave_panicked hleave
    | outgrown =>
      obtain ⟨a₀, w₀, hq⟩ := hR
      exact ⟨.outgrown, a₀, w₀, hQ _ _ _ (by simp) hq, .inr (Outgrown.of_steps (.one henter) hsteps)⟩
  | .ok (.row row args) w', h =>
    obtain ⟨v, w'', hR, hsteps⟩ := h (b.at a (.inRegion ops (i :: rest) :: k)) cs
    have henter : step P (lone (b.at a (.inRegion ops (i :: rest) :: k)) cs w) = .next (lone (Frame.ofRow P row args .normal) (b.at a (.inRegion ops (i :: rest) :: k) :: cs) w') :=
      step_lone_go (by rw [hg]; simp [stepG.apply, hr, Frame.at])
    obtain ⟨e, a', w₃, hq, harr⟩ := hK _ _ hR b k cs
    refine ⟨e, a', w₃, hq, .of_steps (.head henter ?_) harr⟩
    rw [← fin_at ho]
    exact hsteps
  | .halt (.panic v) w', h =>
    refine ⟨_, a, w', hQ _ _ _ (by simp) h, .inRegion ops (i :: rest) :: k, .one (step_lone_go ?_)⟩
    rw [hg, ← Frame.raise_at]
    simp [stepG.apply, hr]

theorem Lw.wpOp {a : Act} {w : World} {i : Nat} {rest : List Nat} {K : Act → World → Prop} (hi : ops₁[i]? = ops[i]?) (hy : ∀ t, yielded ops₁ t = yielded ops t)
    (hQ : ∀ e a w, e ≠ .normal → Q₁ e a w → Q e a w) (h : Go.wpOp P ops₁ Q₁ i K a w) (hK : ∀ a w, K a w → Lw P ops Q rest a w) : Lw P ops Q (i :: rest) a w := by
  unfold Go.wpOp at h
  rw [hi] at h
  cases ho : ops[i]? with
  | none =>
    simp only [ho] at h
    intro b k cs
    obtain ⟨e, a', w', hq, harr⟩ := hK _ _ h b k cs
    have hs := step_op_skip (P := P) (b := b) (a := a) (k := k) (cs := cs) (w := w) (ops := ops) (i := i) (rest := rest) (by simp [ho])
    simp only [ho, Option.bind_none, Act.put] at hs
    exact ⟨e, a', w', hq, .of_steps (.one hs) harr⟩
  | some o =>
    simp only [ho, hy] at h
    by_cases hw : Region.wanted o (yielded ops a.tmps) = true
    · simp only [hw, if_true] at h
      rcases h with h | ⟨hasks, a₀, w₀, hq⟩
      · exact Lw.upon ho hw hQ h hK
      · intro b k cs
        by_cases hk : b.kind = .early
        · exact ⟨.outgrown, a₀, w₀, hQ _ _ _ (by simp) hq, .inl hk⟩
        · exact ⟨.outgrown, a₀, w₀, hQ _ _ _ (by simp) hq, .inr (asks_outgrown ho hw hk hasks)⟩
    · simp only [hw] at h
      exact Lw.pass ho (by simpa using hw) (hK _ _ h)

/-- what is listed has behind it what it waits for -/
def Closed (ops : Array Oper) (listed : Array Bool) : Prop := ∀ i o, ops[i]? = some o → listed.getD i false = true → ∀ e ∈ o.after, listed.getD e.on false = true
/-- each operation but the last (number n) is waited for by a later one; all wait backwards, in every order -/
structure Lasts (ops : Array Oper) (n : Nat) : Prop where
  size : ops.size = n + 1
  back : ∀ i o, ops[i]? = some o → ∀ e ∈ o.after, Region.binds .any e = true ∧ e.on < i
  up : ∀ j, j < n → ∃ m o, j < m ∧ ops[m]? = some o ∧ ∃ e ∈ o.after, e.on = j

theorem Lasts.all {n : Nat} (L : Lasts ops n) {listed : Array Bool} (hc : Closed ops listed) (hr : n ∈ Region.ready .any ops listed) (d : Nat) : ∀ j, j < n → n ≤ j + d → listed.getD j false = true := by
  induction d with
  | zero => intro j h1 h2; omega
  | succ d ih =>
    intro j h1 h2
    obtain ⟨m, o, hm, ho, e, he, rfl⟩ := L.up j h1
    have hlt := (Array.getElem?_eq_some_iff.1 ho).1
    rw [L.size] at hlt
    by_cases hmn : m = n
    · subst hmn
      obtain ⟨_, o', ho', hall⟩ := mem_ready.1 hr
      rw [ho] at ho'
      obtain rfl := Option.some.inj ho'
      exact hall e he (L.back m o ho e he).1
    · exact hc m o ho (ih m (by omega) (by omega)) e he

theorem Lasts.some {n : Nat} (L : Lasts ops n) {listed : Array Bool} (hs : listed.size = n + 1) : ∀ i, i ≤ n → listed.getD i false = false → Region.ready .any ops listed ≠ [] := by
  intro i
  induction i using Nat.strongRecOn with
  | _ i ih =>
    intro hi hl
    by_cases h : ∃ j, j < i ∧ listed.getD j false = false
    · obtain ⟨j, h1, h2⟩ := h
      exact ih j h1 (by omega) h2
    · have hlt : i < ops.size := by rw [L.size]; omega
      have hm : i ∈ Region.ready .any ops listed := by
        rw [mem_ready]
        refine ⟨?_, ops[i], by simp [hlt], fun e he _ => ?_⟩
        · have : i < listed.size := by omega
          simp [Array.getD, this] at hl ⊢
          exact hl
        · have h1 := (L.back i ops[i] (by simp [hlt]) e he).2
          cases hq : listed.getD e.on false with
          | true => rfl
          | false => exact absurd ⟨e.on, h1, hq⟩ h
      intro h0
      rw [h0] at hm
      cases hm

theorem Closed.set {n : Nat} {listed : Array Bool} (hc : Closed ops listed) (L : Lasts ops n) {i : Nat} (hr : i ∈ Region.ready .any ops listed) : Closed ops (listed.setIfInBounds i true) := by
  intro j o ho hl e he
  by_cases hij : i = j
  · subst hij
    obtain ⟨_, o', ho', hall⟩ := mem_ready.1 hr
    rw [ho] at ho'
    obtain rfl := Option.some.inj ho'
    exact getD_set_true (hall e he (L.back _ _ ho e he).1)
  · rw [getD_set_ne false hij] at hl
    exact getD_set_true (hc j o ho hl e he)

theorem ready_nil {n : Nat} (L : Lasts ops n) {listed : Array Bool} (h : ∀ j, j ≤ n → listed.getD j false = true) : Region.ready .any ops listed = [] := by
  rw [List.eq_nil_iff_forall_not_mem]
  intro j hj
  obtain ⟨h0, o, ho, _⟩ := mem_ready.1 hj
  have hlt := (Array.getElem?_eq_some_iff.1 ho).1
  rw [L.size] at hlt
  have h1 := h j (by omega)
  rcases Nat.lt_or_ge j listed.size with h' | h'
  · simp [Array.getD, h'] at h0 h1
    rw [h0] at h1
    cases h1
  · simp [Array.getD, Nat.not_lt.2 h'] at h1

theorem lw_any {n : Nat} (L : Lasts ops n) (hready : ∀ listed, Region.ready .any ops₁ listed = Region.ready .any ops listed) (hi : ∀ i, i ≠ n → ops₁[i]? = ops[i]?) (hy : ∀ t, yielded ops₁ t = yielded ops t)
    (hQ : ∀ e a w, e ≠ .normal → Q₁ e a w → Q e a w) (hN : ∀ a w, Q₁ .normal a w → Lw P ops Q [n] a w) (hmute : ∀ (K : Act → World → Prop) a w, wpOp P ops₁ Q₁ n K a w → K a w) :
    ∀ (fuel t : Nat) (listed : Array Bool) (a : Act) (w : World), Closed ops listed → listed.size = n + 1 → listed.getD n true = false → wpAny P .any ops₁ Q₁ fuel listed a w →
    Lw P ops Q (Region.linearise.go .any ops fuel t listed []) a w := by
  intro fuel
  induction fuel with
  | zero =>
    intro t listed a w hc hs hn h
    have h0 := h.1
    rw [hready] at h0
    refine absurd h0 (L.some hs n (Nat.le_refl _) ?_)
    have : n < listed.size := by omega
    simp [Array.getD, this] at hn ⊢
    exact hn
  | succ fuel ih =>
    intro t listed a w hc hs hn h
    obtain ⟨_, h₁⟩ := h
    have hne : Region.ready .any ops listed ≠ [] := L.some hs n (Nat.le_refl _) (by have : n < listed.size := by omega
                                                                                    simp [Array.getD, this] at hn ⊢
                                                                                    exact hn)
    simp only [Region.linearise.go]
    change Lw P ops Q (match (Region.ready .any ops listed)[t % (Region.ready .any ops listed).length]? with
      | some i => Region.linearise.go .any ops fuel (t / (Region.ready .any ops listed).length) (listed.setIfInBounds i true) [i]
      | none => [].reverse) a w
    cases hc2 : (Region.ready .any ops listed)[t % (Region.ready .any ops listed).length]? with
    | none =>
      have hlt : t % (Region.ready .any ops listed).length < (Region.ready .any ops listed).length := Nat.mod_lt _ (List.length_pos_iff.2 hne)
      rw [List.getElem?_eq_none_iff] at hc2
      omega
    | some i =>
      have him := List.mem_of_getElem? hc2
      have hw := h₁ i (by rw [hready]; exact him)
      simp only []
      rw [linearise_go_acc, List.reverse_singleton, List.singleton_append]
      by_cases hin : i = n
      · subst hin
        have hall := L.all hc him i
        have hnil : Region.ready .any ops (listed.setIfInBounds i true) = [] := by
          refine ready_nil L (fun j hj => ?_)
          by_cases hji : i = j
          · subst hji
            have : i < listed.size := by omega
            simp [Array.getD, this]
          · rw [getD_set_ne false hji]
            exact hall j (by omega) (by omega)
        have hend : Region.linearise.go .any ops fuel (t / (Region.ready .any ops listed).length) (listed.setIfInBounds i true) [] = [] := by
          cases fuel with
          | zero => simp [Region.linearise.go]
          | succ fuel =>
            have hf := hnil
            unfold Region.ready at hf
            simp only [Region.linearise.go, hf]
            simp
        rw [hend]
        refine hN _ _ ?_
        have hk := hmute _ _ _ hw
        cases fuel with
        | zero => exact hk.2
        | succ fuel => exact hk.1 (by rw [hready]; exact hnil)
      · refine Lw.wpOp (hi i hin) hy hQ hw (fun a' w' h' => ih _ _ _ _ (hc.set L him) (by simp [hs]) ?_ h')
        rw [getD_set_ne true hin]
        exact hn

/-- the drawn region with a send last, from the walk over the mute operations -/
theorem wp_lw_last {id n : Nat} {S : World → Prop} {a : Act} {w : World} (hm : P.follows .mixedOrders = true) (L : Lasts ops n) (hsz : ops₁.size = ops.size) (hready : ∀ listed, Region.ready .any ops₁ listed = Region.ready .any ops listed)
    (hi : ∀ i, i ≠ n → ops₁[i]? = ops[i]?) (hy : ∀ t, yielded ops₁ t = yielded ops t) (hQ : ∀ e a w, e ≠ .normal → Q₁ e a w → Q e a w) (hN : ∀ a w, Q₁ .normal a w → Lw P ops Q [n] a w)
    (hmute : ∀ (K : Act → World → Prop) a w, wpOp P ops₁ Q₁ n K a w → K a w) (hS : S w.drew) (h : S w.drew → wpAnyH P .any ops₁ Q₁ S ops₁.size (Array.replicate ops₁.size false) a w.drew) : (Code.region id ops true).wp P Q a w := by
  refine wp_lwd (fun t => ?_)
  simp only [Region.schedule, hm, Bool.true_or, if_true]
  have h1 := wpAny_of_held _ _ _ _ (h hS)
  rw [hsz, L.size] at h1
  have h2 := lw_any L hready hi hy hQ hN hmute (n + 1) t (Array.replicate (n + 1) false) a w.drew ?_ (by simp) ?_ h1
  · unfold Region.linearise
    rw [L.size]
    exact h2
  · intro i o _ hl
    have : (Array.replicate (n + 1) false).getD i false = false := by
      rcases Nat.lt_or_ge i (n + 1) with h' | h'
      · simp [Array.getD, h']
      · simp [Array.getD, Nat.not_lt.2 h']
    rw [this] at hl
    cases hl
  · simp [Array.getD]
end
end Go.Proofs.Ytmicpknilhiliaa.Rc
