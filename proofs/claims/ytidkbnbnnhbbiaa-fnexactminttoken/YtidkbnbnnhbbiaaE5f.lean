/-
  Contracts: the program's texts filled up.
-/
import Derived.Test.YtidkbnbnnhbbiaaSpr
namespace Go.Proofs.Ytidkbnbnnhbbiaa
open Go.ChangeShapes Go.WideShapes Go.ChangeAt Go.RowKit
set_option linter.unusedVariables false

/-- how long a text is when it is filled up -/
def flN (n : Nat) : Nat := (n + 15) / 16 * 16
/-- a text with noughts behind it -/
def flF (n : Nat) (f : Nat → Nat) (i : Nat) : Nat := if i < n then f i else 0
theorem flN_le (n : Nat) : n ≤ flN n ∧ flN n ≤ n + 15 ∧ flN n % 16 = 0 := by unfold flN; omega
theorem flF_lt (n : Nat) (f : Nat → Nat) (hf : ∀ i, f i < 256) (i : Nat) : flF n f i < 256 := by
  unfold flF
  split
  · exact hf i
  · omega
/-- one byte put behind a slice with no room -/
theorem Sg.grows {w : World} {g o n cap : Nat} {f : Nat → Nat} (h : Sg w g o n cap f) (hr : ¬ n + 1 ≤ cap) (ad : Addr) (c : Nat) (x : Value) (hx : w.cell? ad = some x) (hfx : x = .int .u8 (f n : Nat)) (had : ad.add 0 = ad) (hn : n ≤ 1048576) (ty : TypeId) :
    ∃ g' cap' w', (Builtin.append_ #[59, 59] ty #[.slice (some ⟨g, o, none⟩) n cap, .slice (some ad) 1 c]).run Try.prog w = .ok (.slice (some ⟨g', 0, none⟩) (n + 1) cap') w' ∧ w.heap.size ≤ g' ∧ Sg w' g' 0 (n + 1) cap' f ∧ Below w.heap.size w w' := by
  obtain ⟨i0, hi, hz0, hz1, hz2⟩ := info_parts info_u8
  subst hfx
  have hnews : ∀ j u, ([.int .u8 ((f n : Nat) : Int)] : List Value)[j]? = some u → w.cell? (ad.add j) = some u := by
    intro j u hu
    match j, hu with
    | 0, hu => simp at hu; subst hu; rw [had]; exact hx
  obtain ⟨v', w', hrun, hown, hgrow⟩ := run_append_arg_grows (P := Try.prog) w 59 ty 5 i0 (.int .u8 0) 1 1 Try.underlying59 hi hz0 hz1 hz2 rfl (by decide) ⟨g, o, none⟩ n cap (us n f) (by rw [us_length, Nat.mul_one])
    (fun j u hu => by rw [Addr.add_mid]; exact h.ar.range j u hu) ad 1 c [.int .u8 ((f n : Nat) : Int)] (by simp) hnews (by omega) (by unfold maxLen; omega) (by omega)
  rw [← us_succ] at hown
  have hown0 := hown
  rcases hown.2 with ⟨_, h0⟩ | ⟨g', cap', cur, rfl, hg', hgg, hnc, hcm, hcs, htk⟩
  · omega
  · refine ⟨g', cap', w', hrun, hg', ⟨⟨fun i hi => ?_, fun i hi => ?_, ?_⟩, hnc, fun j h1 h2 => ?_⟩, ⟨hgrow.os, hgrow.tape, hgrow.output, hgrow.size, fun k hk => hgrow.block k (by omega) (by simp)⟩⟩
    · rw [Nat.zero_add, hown0.cellAt i (by omega)]
      simp [us_def, hi]
    · rw [Nat.zero_add]; exact hown0.frozenAt i
    · exact (Array.getElem?_eq_some_iff.1 hgg).1
    · rw [Nat.zero_add]
      exact ⟨isSome_of_row hgg j (by omega), hown0.frozenAt j⟩
/-- append at the list of a plain region's operations, by its run -/
theorem wpList_append_run {P : Program} {ops : Array Oper} {rest : List Oper} {o : Oper} {a : Act} {w : World} {Q : Exit → Act → World → Prop} (hg : o.guard = none) (d x : Operand) (t : TypeId)
    (hop : o.op = Op.call { callee := Callee.builtin Builtin.append, args := #[d, x], argTypes := #[t, t] }) (v1 v2 v' : Value) (w' : World) (hd : a.eval d = v1) (hx : a.eval x = v2)
    (hrun : (Builtin.append_ #[t, t] o.type #[v1, v2]).run P w = .ok v' w') (h : wpList P ops Q rest (a.put o.dst v') w') : wpList P ops Q (o :: rest) a w :=
  wpList_plain hg fun K hK => by
    unfold Oper.wp
    simp [execOp, hop, resolve, invoke, builtin, hd, hx, hrun, Result.andThen]
    exact hK _ _ h
theorem ot_below {g : Nat} {w w' : World} (h : Below w.heap.size w w') : Ot g w w' := ⟨h.size, fun b hb _ => h.block b hb⟩
theorem Ot.trans {g g' : Nat} {w w1 w2 : World} (h1 : Ot g w w1) (h2 : Ot g' w1 w2) (hg : g' = g ∨ w.heap.size ≤ g') : Ot g w w2 :=
  ⟨Nat.le_trans h1.1 h2.1, fun b hb hne => by rw [h2.2 b (Nat.lt_of_lt_of_le hb h1.1) (by omega), h1.2 b hb hne]⟩
/-- a text of which k bytes are there, filled up -/
def FI (w wr : World) (g o n cap : Nat) (f : Nat → Nat) (v : Value) (k : Nat) : Prop :=
  ∃ g' o' cap', v = .slice (some ⟨g', o', none⟩) k cap' ∧ Sg wr g' o' k cap' (flF n f) ∧ (g' = g ∨ w.heap.size ≤ g') ∧ Ot g w wr ∧ (∀ B, B ≤ g → B ≤ w.heap.size → Below B w wr) ∧ (cap = n → Below w.heap.size w wr ∧ (w.heap.size ≤ g' ∨ (k = n ∧ cap' = n)))
theorem FI.start {w : World} {g o n cap : Nat} {f : Nat → Nat} (h : Sg w g o n cap f) : FI w w g o n cap f (.slice (some ⟨g, o, none⟩) n cap) n :=
  ⟨g, o, cap, rfl, ⟨h.ar.congr (fun i hi => by unfold flF; rw [if_pos hi]), h.le, h.sp⟩, Or.inl rfl, ⟨Nat.le_refl _, fun _ _ _ => rfl⟩, fun B _ _ => Below.refl _ _, fun e => ⟨Below.refl _ _, Or.inr ⟨rfl, e⟩⟩⟩
theorem FI.step {w wr : World} {g o n cap k : Nat} {f : Nat → Nat} {v : Value} (h : FI w wr g o n cap f v k) (hk : n ≤ k) (hm : k ≤ 10000) :
    ∃ v' w', (Builtin.append_ #[59, 59] 59 #[v, .slice (some ⟨wr.heap.size, 0, none⟩) 1 1]).run Try.prog (wr.alloc (.cells #[.int .u8 0] 5)) = .ok v' w' ∧ FI w w' g o n cap f v' (k + 1) := by
  obtain ⟨g', o', cap', rfl, hs, hg, ho, hb, hc⟩ := h
  have hx : (wr.alloc (.cells #[.int .u8 0] 5)).cell? ⟨wr.heap.size, 0, none⟩ = some (.int .u8 0) := new_cell _ _ _
  have hf : (Value.int .u8 0) = .int .u8 ((flF n f k : Nat) : Int) := by unfold flF; rw [if_neg (by omega)]; rfl
  have al := (Below.refl wr.heap.size wr).alloc (Nat.le_refl _) (.cells #[.int .u8 0] 5)
  have hs1 := hs.alloc (.cells #[.int .u8 0] 5)
  have hsz : (wr.alloc (.cells #[.int .u8 0] 5)).heap.size = wr.heap.size + 1 := by simp
  generalize wr.alloc (.cells #[.int .u8 0] 5) = W1 at *
  have hws : w.heap.size ≤ wr.heap.size := ho.1
  by_cases hcase : cap = n ∧ k = n ∧ cap' = n
  · obtain ⟨c1, c2, c3⟩ := hcase
    obtain ⟨g2, cap2, w2, hrun, hg2, hs2, hb2⟩ := hs1.grows (by omega) ⟨wr.heap.size, 0, none⟩ 1 _ hx hf rfl (by omega) 59
    have hb3 : Below wr.heap.size wr w2 := al.trans (hb2.mono (by omega))
    exact ⟨_, w2, hrun, g2, 0, cap2, rfl, hs2, Or.inr (by omega), ho.trans (ot_below (g := g) hb3) (Or.inl rfl), fun B h1 h2 => (hb B h1 h2).trans (hb3.mono (by omega)), fun e => ⟨(hc e).1.trans (hb3.mono hws), Or.inl (by omega)⟩⟩
  · obtain ⟨g2, o2, cap2, w2, hrun, hg2, hs2, hb2, _, ho2⟩ := hs1.push (base := 0) (Nat.zero_le _) (Nat.zero_le _) ⟨wr.heap.size, 0, none⟩ 1 _ hx hf rfl (by omega) 59
    have hB : ∀ B, B ≤ g' → B ≤ wr.heap.size → Below B wr w2 := fun B h1 h2 => by
      obtain ⟨g3, o3, cap3, w3, hrun3, _, _, hb3, _, _⟩ := hs1.push (base := B) h1 (by omega) ⟨wr.heap.size, 0, none⟩ 1 _ hx hf rfl (by omega) 59
      rw [hrun] at hrun3
      injection hrun3 with _ e
      subst e
      exact (al.mono h2).trans hb3
    have hg3 : g2 = g ∨ w.heap.size ≤ g2 := by omega
    have ho3 : Ot g' wr w2 := ⟨Nat.le_trans al.size ho2.1, fun b hb9 hne => by rw [ho2.2 b (by omega) hne, al.block b hb9]⟩
    refine ⟨_, w2, hrun, g2, o2, cap2, rfl, hs2, hg3, ho.trans ho3 hg, fun B h1 h2 => (hb B h1 h2).trans (hB B (by omega) (by omega)), fun e => ?_⟩
    obtain ⟨e1, e2⟩ := hc e
    have e3 : w.heap.size ≤ g' := by
      rcases e2 with e2 | ⟨e2, e4⟩
      · exact e2
      · exact absurd ⟨e, e2, e4⟩ hcase
    exact ⟨e1.trans (hB _ e3 hws), Or.inl (by omega)⟩
set_option maxRecDepth 100000 in
set_option maxHeartbeats 1000000 in
theorem implFilled (g o n cap : Nat) (f : Nat → Nat) (hn : n ≤ 4000) (w : World) (hS : Sg w g o n cap f) :
    Calls Try.prog 39 #[.slice (some ⟨g, o, none⟩) n cap] w fun e w' => ∃ v, e = .returned v ∧ FI w w' g o n cap f v (flN n) := by
  have HS := hide (FI.start hS)
  clear hS
  obtain ⟨hf1, hf2, hf3⟩ := flN_le n
  generalize flN n = N at *
  have HFN : Hid (∀ k, n ≤ k → k % 16 = 0 → k ≤ N → k = N) := fun k h1 h2 h3 => by omega
  go_enter Try.func39, Try.ntmps39
  go_wp2_with fail
  go_loopw [0] (fun v wr => ∃ k : Nat, n ≤ k ∧ k ≤ N ∧ FI w wr g o n cap f v k) (fun v _ => 5000 - (match v with | .slice _ k _ => k | _ => 0))
  case atStart => exact ⟨n, Nat.le_refl _, hf1, unhide HS⟩
  case round =>
    obtain ⟨k, hk1, hk2, hFI⟩ := hrel
    clear HS
    by_cases hm : k % 16 = 0
    · have hkN := unhide HFN k hk1 hm hk2
      have h1 : ((k : Int) % 16 != 0) = false := by simp; omega
      have HF := hide hFI
      obtain ⟨g1, o1, cap1, rfl, hs1, _⟩ := hFI
      clear hs1 hm
      go_wp2
      go_ret
      exact ⟨_, rfl, by rw [← hkN]; exact unhide HF⟩
    · obtain ⟨v', w', hrun, hF2⟩ := hFI.step hk1 (by omega)
      obtain ⟨g1, o1, cap1, rfl, hs1, _⟩ := hFI
      have h1 : ((k : Int) % 16 != 0) = true := by simp; omega
      have hkk : k + 1 ≤ N := by omega
      have HF2 := hide hF2
      clear hs1 hm hF2
      have RUN := hide hrun
      clear hrun
      obtain ⟨g2, o2, cap2, rfl⟩ : ∃ g2 o2 cap2, v' = .slice (some ⟨g2, o2, none⟩) (k + 1) cap2 := by
        obtain ⟨g2, o2, cap2, e, _⟩ := unhide HF2
        exact ⟨g2, o2, cap2, e⟩
      go_wp2_with (at_builtin; refine wpList_append_run rfl _ _ 59 rfl _ _ _ _ rfl rfl (unhide RUN) ?_)
      exact ⟨⟨k + 1, by omega, hkk, unhide HF2⟩, by simp; omega⟩
end Go.Proofs.Ytidkbnbnnhbbiaa
