/-
  Contracts: the program's InstallConfig.
-/
import Derived.Test.YtcpccdejhmaenaaRmc
namespace Go.Proofs.Ytcpccdejhmaenaa
open Go.ChangeShapes Go.WideShapes Go.ChangeAt Go.RowKit Go.Deep Go.Maps
set_option linter.unusedVariables false
set_option maxRecDepth 100000

/-- the list with e at place k -/
def isE (L : List EnD) (k : Nat) (e : EnD) : List EnD := L.take k ++ e :: L.drop k
/-- k is e's place -/
def plE (L : List EnD) (k : Nat) (s : Int) : Prop := k ≤ L.length ∧ (∀ i, i < k → (eA L i).sl < s) ∧ ∀ i, k ≤ i → i < L.length → s < (eA L i).sl
theorem is_mem (L : List EnD) (k : Nat) (e x : EnD) : x ∈ isE L k e ↔ x = e ∨ x ∈ L := by
  unfold isE
  rw [List.mem_append, List.mem_cons]
  constructor
  · rintro (h | h | h)
    · exact Or.inr (List.mem_of_mem_take h)
    · exact Or.inl h
    · exact Or.inr (List.mem_of_mem_drop h)
  · rintro (h | h)
    · exact Or.inr (Or.inl h)
    · rw [← List.take_append_drop k L, List.mem_append] at h
      exact h.imp id Or.inr
theorem is_len (L : List EnD) (k : Nat) (e : EnD) : (isE L k e).length = L.length + 1 := by
  unfold isE
  rw [List.length_append, List.length_cons, List.length_take, List.length_drop]
  omega
theorem is_up {L : List EnD} (hu : upL L) {k : Nat} {e : EnD} (hp : plE L k e.sl) : upL (isE L k e) := by
  unfold isE upL
  rw [List.pairwise_append, List.pairwise_cons]
  refine ⟨hu.sublist (List.take_sublist _ _), ⟨fun x hx => ?_, hu.sublist (List.drop_sublist _ _)⟩, fun x hx y hy => ?_⟩
  · obtain ⟨i, hi, q⟩ := List.mem_iff_getElem.1 hx
    rw [List.getElem_drop] at q
    have hi' : k + i < L.length := by rw [List.length_drop] at hi; omega
    have := hp.2.2 (k + i) (by omega) hi'
    rw [show eA L (k + i) = x by simp [eA, List.getD, List.getElem?_eq_getElem hi', q]] at this
    exact this
  · have h1 : ∀ x ∈ L.take k, x.sl < e.sl := fun x hx => by
      obtain ⟨i, hi, q⟩ := List.mem_iff_getElem.1 hx
      rw [List.getElem_take] at q
      have hi' : i < L.length := by rw [List.length_take] at hi; omega
      have := hp.2.1 i (by rw [List.length_take] at hi; omega)
      rw [show eA L i = x by simp [eA, List.getD, List.getElem?_eq_getElem hi', q]] at this
      exact this
    rcases List.mem_cons.1 hy with rfl | hy
    · exact h1 x hx
    · have := List.take_append_drop k L ▸ hu
      exact (List.pairwise_append.1 this).2.2 x hx y hy
theorem pl_uniq {L : List EnD} {k k' : Nat} {s : Int} (h : plE L k s) (h' : plE L k' s) : k = k' := by
  rcases Nat.lt_trichotomy k k' with q | q | q
  · have h1 := h'.2.1 k q
    have h2 := h.2.2 k (Nat.le_refl _) (by have := h'.1; omega)
    omega
  · exact q
  · have h1 := h.2.1 k' q
    have h2 := h'.2.2 k' (Nat.le_refl _) (by have := h.1; omega)
    omega
theorem pl_has {L : List EnD} (hu : upL L) (s : Int) (hn : ∀ i, i < L.length → (eA L i).sl ≠ s) : ∃ k, plE L k s := by
  have : ∀ n, n ≤ L.length → ∃ k, k ≤ n ∧ (∀ i, i < k → (eA L i).sl < s) ∧ ∀ i, k ≤ i → i < n → s < (eA L i).sl := by
    intro n
    induction n with
    | zero => intro _; exact ⟨0, Nat.le_refl _, fun i hi => absurd hi (Nat.not_lt_zero _), fun i _ hi => absurd hi (Nat.not_lt_zero _)⟩
    | succ n ih =>
      intro hn'
      obtain ⟨k, h1, h2, h3⟩ := ih (by omega)
      by_cases c : (eA L n).sl < s
      · refine ⟨n + 1, Nat.le_refl _, fun i hi => ?_, fun i h4 h5 => by omega⟩
        by_cases e : i = n
        · rw [e]; exact c
        · have := up_lt hu i n (by omega) (by omega); omega
      · refine ⟨k, by omega, h2, fun i h4 h5 => ?_⟩
        by_cases e : i = n
        · have := hn n (by omega); rw [e]; omega
        · exact h3 i h4 (by omega)
  obtain ⟨k, h⟩ := this L.length (Nat.le_refl _)
  exact ⟨k, h⟩
theorem FL.insert {F : Int → Option EnR} {L : List EnD} (h : FL F L) (k : Nat) (e : EnD) (r : EnR) (hr : r.D = e) (hn : ∀ x ∈ L, x.sl ≠ e.sl) : FL (putF F e.sl (some r)) (isE L k e) := by
  refine ⟨fun s => ?_, fun x hx => ?_⟩
  · unfold putF
    by_cases c : s = e.sl
    · rw [if_pos c]; exact ⟨fun _ => ⟨e, (is_mem L k e e).2 (Or.inl rfl), c.symm⟩, fun _ => rfl⟩
    · rw [if_neg c, h.1 s]
      constructor
      · rintro ⟨x, hx, q⟩; exact ⟨x, (is_mem L k e x).2 (Or.inr hx), q⟩
      · rintro ⟨x, hx, q⟩
        rcases (is_mem L k e x).1 hx with rfl | hx
        · exact absurd q.symm c
        · exact ⟨x, hx, q⟩
  · unfold putF
    rcases (is_mem L k e x).1 hx with rfl | hx
    · rw [if_pos rfl]; exact ⟨r, rfl, hr⟩
    · rw [if_neg (hn x hx)]; exact h.2 x hx
/-- what InstallConfig makes of a table -/
def inP (L : List EnD) (sl sv nc : Int) (k : ByteArray) (t : Bool) (L' : List EnD) (c : Int) : Prop :=
  (gtB L = false ∧ L' = [] ∧ c = 1) ∨ (gtB L = true ∧ (gcB sl sv nc k.size && decide (sl < 3)) = false ∧ L' = L ∧ c = 1) ∨
  (gtB L = true ∧ (gcB sl sv nc k.size && decide (sl < 3)) = true ∧ (∃ i, i < L.length ∧ (eA L i).sl = sl) ∧ L' = L ∧ c = 3) ∨
  (gtB L = true ∧ (gcB sl sv nc k.size && decide (sl < 3)) = true ∧ (∀ i, i < L.length → (eA L i).sl ≠ sl) ∧ ∃ p, plE L p sl ∧ L' = isE L p ⟨sl, sv, nc, k, t, [], 0⟩ ∧ c = 0)
theorem inP_uniq {L : List EnD} {sl sv nc : Int} {k : ByteArray} {t : Bool} {L1 L2 : List EnD} {c1 c2 : Int} (h1 : inP L sl sv nc k t L1 c1) (h2 : inP L sl sv nc k t L2 c2) : L1 = L2 ∧ c1 = c2 := by
  rcases h1 with ⟨a, rfl, rfl⟩ | ⟨a, b, rfl, rfl⟩ | ⟨a, b, ⟨i, d1, d2⟩, rfl, rfl⟩ | ⟨a, b, d, p, e, rfl, rfl⟩ <;> rcases h2 with ⟨a', rfl, rfl⟩ | ⟨a', b', rfl, rfl⟩ | ⟨a', b', ⟨i', d1', d2'⟩, rfl, rfl⟩ | ⟨a', b', d', p', e', rfl, rfl⟩ <;>
    first
    | exact ⟨rfl, rfl⟩
    | (exfalso; rw [a] at a'; cases a'; done)
    | (exfalso; rw [b] at b'; cases b'; done)
    | exact absurd d2 (d' i d1)
    | exact absurd d2' (d i' d1')
    | (rw [pl_uniq e e']; exact ⟨rfl, rfl⟩)
theorem mo_mono {base : Nat} {w : World} {b n n' : Nat} {F : Int → Option EnR} {B : Int → Nat} (h : Mo base w b n F B) (hn : n ≤ n') : Mo base w b n' F B := ⟨h.ge, h.mp.mono hn, h.ro, h.ne⟩
set_option maxHeartbeats 4000000 in
theorem insBad (b : Nat) (sl sv nc : Int) (k : ByteArray) (t : Bool) (w : World) (hg : (gcB sl sv nc k.size && decide (sl < 3)) = false) :
    Calls Try.prog 23 #[.map (some b), kv sl sv nc k t] w fun e w' => e = .returned (.int .i64 1) ∧ Below w.heap.size w w' := by
  have HC := hide (gdIn sl sv nc k t)
  rw [hg] at HC
  go_enter Try.func23, Try.ntmps23
  go_wp2_with fail
  refine (unhide HC _).mono ?_
  rintro e w1 ⟨rfl, b1⟩
  go_wp2
  go_ret
  exact ⟨rfl, ((Below.refl _ _).alloc (Nat.le_refl _) _).trans (b1.mono (by simp))⟩
set_option maxHeartbeats 4000000 in
theorem insTwice (base b n : Nat) (F : Int → Option EnR) (B : Int → Nat) (sl sv nc : Int) (k : ByteArray) (t : Bool) (r : EnR) (w : World) (hs : (Lit.int .i64 sl).wf = true) (hg : (gcB sl sv nc k.size && decide (sl < 3)) = true) (hM : Mo base w b n F B) (hr : F sl = some r) :
    Calls Try.prog 23 #[.map (some b), kv sl sv nc k t] w fun e w' => e = .returned (.int .i64 3) ∧ Below w.heap.size w w' := by
  have HC := hide (gdIn sl sv nc k t)
  rw [hg] at HC
  have HM := hide hM
  clear hM
  go_enter Try.func23, Try.ntmps23
  go_wp2_with fail
  refine (unhide HC _).mono ?_
  rintro e w1 ⟨rfl, b1⟩
  have X1 := (Bx.new w [.int .i64 sl, .int .i64 sv, .int .i64 nc, .string k, .bool t] 35).below b1
  have B1 := ((Below.refl w.heap.size w).alloc (Nat.le_refl _) (.cells #[.int .i64 sl, .int .i64 sv, .int .i64 nc, .string k, .bool t] 35)).trans (b1.mono (by simp))
  have hlook : (Instr.lookup 51 (.map (some b)) (.int .i64 sl) true).run Try.prog w1 = .ok (.tuple #[ev r.D r.ra r.cap, .bool true]) w1 := by
    rw [(((unhide HM).below B1).mp).look_ok sl hs]; unfold atV; rw [hr]; rfl
  have x1 := X1.cv
  have HB := hide (B1.alloc B1.size (.cells #[.int .i64 r.D.sl, .int .i64 r.D.sv, .int .i64 r.D.nc, .string r.D.k, .bool r.D.t, .slice r.ra r.D.S.length r.cap, .int .i64 r.D.nx] 48))
  clear X1 B1 b1 hr
  go_wp2
  go_ret
  exact ⟨rfl, unhide HB⟩
set_option maxHeartbeats 4000000 in
theorem insNew (base b n : Nat) (F : Int → Option EnR) (B : Int → Nat) (sl sv nc : Int) (k : ByteArray) (t : Bool) (w : World) (hn : n ≤ 1000) (hs : (Lit.int .i64 sl).wf = true) (hk : k.size ≤ 1048576) (hg : (gcB sl sv nc k.size && decide (sl < 3)) = true) (hbs : base ≤ w.heap.size) (hM : Mo base w b n F B) (hr : F sl = none) :
    Calls Try.prog 23 #[.map (some b), kv sl sv nc k t] w fun e w' => e = .returned (.int .i64 0) ∧ Mo base w' b (n + 1) (putF F sl (some ⟨⟨sl, sv, nc, k, t, [], 0⟩, none, 0⟩)) B ∧ Below base w w' := by
  have HC := hide (gdIn sl sv nc k t)
  rw [hg] at HC
  have HO := hide (ownCf sl sv nc k t hk)
  have HM := hide hM
  clear hM
  go_enter Try.func23, Try.ntmps23
  go_wp2_with fail
  refine (unhide HC _).mono ?_
  rintro e w1 ⟨rfl, b1⟩
  have X1 := (Bx.new w [.int .i64 sl, .int .i64 sv, .int .i64 nc, .string k, .bool t] 35).below b1
  have B1 := ((Below.refl w.heap.size w).alloc (Nat.le_refl _) (.cells #[.int .i64 sl, .int .i64 sv, .int .i64 nc, .string k, .bool t] 35)).trans (b1.mono (by simp))
  have hlook : (Instr.lookup 51 (.map (some b)) (.int .i64 sl) true).run Try.prog w1 = .ok (.tuple #[.agg #[.int .i64 0, .int .i64 0, .int .i64 0, .string ⟨#[]⟩, .bool false, .slice none 0 0, .int .i64 0], .bool false]) w1 := by
    rw [(((unhide HM).below B1).mp).look_ok sl hs]; unfold atV; rw [hr]; rfl
  have x1 := X1.cv
  have AL : Below w1.heap.size w1 (w1.alloc (.cells #[.int .i64 0, .int .i64 0, .int .i64 0, .string ⟨#[]⟩, .bool false, .slice none 0 0, .int .i64 0] 48)) := (Below.refl _ _).alloc (Nat.le_refl _) _
  have XD := hide ((X1.below AL).drew)
  have ZD := hide ((B1.trans (AL.mono B1.size)).drew)
  have hxl := X1.lt
  clear X1 B1 b1 AL
  go_upto_region 6 with fail
  clear hlook x1
  refine wp_region_noPanic ?_
  refine wp_region_held_drew (S := fun V => Bx V w.heap.size [.int .i64 sl, .int .i64 sv, .int .i64 nc, .string k, .bool t]) (by kernel_rfl) (unhide XD) (fun hHeld => ?_)
  refine wpAnyH_take (i := 0) (v := ?_) rfl (by kernel_rfl) (by kernel_rfl) (by kernel_rfl) (fun _ _ _ h => h) (Or.inl ⟨by rfl, ?_⟩) hHeld ?_
  rotate_left
  · intro V hSw; have y1 := hSw.cv; go_simp; rfl
  simp only [Act.put, List.getElem_toArray, List.getElem_cons_zero, List.setIfInBounds_toArray, List.set_cons_zero, List.set_cons_succ]
  refine wpAnyH_take (i := 1) (v := ?_) rfl (by kernel_rfl) (by kernel_rfl) (by kernel_rfl) (fun _ _ _ h => h) (Or.inl ⟨by rfl, ?_⟩) hHeld ?_
  rotate_left
  · intro V hSw; have y1 := hSw.cv; go_simp; rfl
  simp only [Act.put, List.getElem_toArray, List.getElem_cons_succ, List.getElem_cons_zero, List.setIfInBounds_toArray, List.set_cons_zero, List.set_cons_succ]
  refine wpAnyH_take (i := 2) (v := ?_) rfl (by kernel_rfl) (by kernel_rfl) (by kernel_rfl) (fun _ _ _ h => h) (Or.inl ⟨by rfl, ?_⟩) hHeld ?_
  rotate_left
  · intro V hSw; have y1 := hSw.cv; go_simp; rfl
  simp only [Act.put, List.getElem_toArray, List.getElem_cons_succ, List.getElem_cons_zero, List.setIfInBounds_toArray, List.set_cons_zero, List.set_cons_succ]
  refine wpAnyH_take (i := 3) (v := ?_) rfl (by kernel_rfl) (by kernel_rfl) (by kernel_rfl) (fun _ _ _ h => h) (Or.inl ⟨by rfl, ?_⟩) hHeld ?_
  rotate_left
  · intro V hSw; have y1 := hSw.cv; go_simp; rfl
  simp only [Act.put, List.getElem_toArray, List.getElem_cons_succ, List.getElem_cons_zero, List.setIfInBounds_toArray, List.set_cons_zero, List.set_cons_succ]
  refine wpAnyH_ready (rs := [4]) (by kernel_rfl) (by simp) ?_
  refine AllReadyH.cons rfl (fun K hK => ?_) AllReadyH.nil
  go_simp
  go_at_call 34
  with_reducible refine (unhide HO _).mono ?_
  rintro e w3 ⟨rfl, b3⟩
  have Z3 := hide ((unhide ZD).trans (b3.mono (unhide ZD).size))
  refine hK.out _ _ (hHeld.below b3) (fun hHeld => ?_)
  clear hK K
  try simp only [Act.put, List.getElem_toArray, List.getElem_cons_succ, List.getElem_cons_zero, List.setIfInBounds_toArray, List.set_cons_zero, List.set_cons_succ]
  refine wpAnyH_take (i := 5) (v := ?_) rfl (by kernel_rfl) (by kernel_rfl) (by kernel_rfl) (fun _ _ _ h => h) (Or.inl ⟨by rfl, ?_⟩) hHeld ?_
  rotate_left
  · intro V hSw; have y1 := hSw.cv; go_simp; rfl
  simp only [Act.put, List.getElem_toArray, List.getElem_cons_succ, List.getElem_cons_zero, List.setIfInBounds_toArray, List.set_cons_zero, List.set_cons_succ]
  obtain ⟨w4, hrun, hM4, hg4⟩ := ((unhide HM).mp.below (unhide Z3)).store (by unfold maxLen; omega) sl hs ⟨⟨sl, sv, nc, k, t, [], 0⟩, none, 0⟩
  have RUN := hide hrun
  clear hrun
  refine wpAnyH_ready (rs := [6]) (by kernel_rfl) (by simp) ?_
  refine AllReadyH.cons rfl (fun K hK => ?_) AllReadyH.nil
  refine stp_map rfl _ _ _ 51 rfl _ _ _ _ rfl rfl rfl (unhide RUN) ?_
  have hne : w.heap.size ≠ b := by have := (unhide HM).mp.lt; omega
  have X4 := hide (hHeld.kept hg4.size (hg4.block _ hHeld.lt (by intro e9; injection e9 with e9; exact hne e9)))
  refine hK.out _ _ (unhide X4) (fun hHeld => ?_)
  clear hK K
  try simp only [Act.put, List.getElem_toArray, List.getElem_cons_succ, List.getElem_cons_zero]
  refine wpAnyH_done (by kernel_rfl) ?_ _
  refine NoPanic.normal ?_
  clear hHeld
  have M3 := (unhide HM).below (unhide Z3)
  have FIN : Hid (Mo base w4 b (n + 1) (putF F sl (some ⟨⟨sl, sv, nc, k, t, [], 0⟩, none, 0⟩)) B ∧ Below base w w4) := by
    refine ⟨M3.turn hg4 hM4 (fun s r e => ?_), ((unhide Z3).mono hbs).trans (grown_below (v := .slice (some ⟨b, 0, none⟩) 0 0) (by simpa [Value.ownBlock] using hg4) (Nat.le_trans hbs (unhide Z3).size) (fun q e => by simp [Value.ownBlock] at e; rw [← e]; exact (unhide HM).ge))⟩
    unfold putF at e
    by_cases c : s = sl
    · rw [if_pos c] at e; injection e with e; subst e; exact Or.inr ⟨Nat.zero_le _, rfl⟩
    · rw [if_neg c] at e; exact Or.inl e
  clear hM4 hg4 M3 b3
  go_wp2
  go_ret
  exact ⟨rfl, unhide FIN⟩
set_option maxHeartbeats 4000000 in
theorem implIn (a : Option Addr) (cap : Nat) (L : List EnD) (sl sv nc : Int) (k : ByteArray) (t : Bool) (w : World) (hs : (Lit.int .i64 sl).wf = true) (hk : k.size ≤ 1048576) (hG : okE L) (hS : ∀ i, i < L.length → (eA L i).S.length ≤ 1048576) (hsm : gtB L = true → smE L) (h : Ea w a L) :
    Calls Try.prog 10 #[.agg #[.slice a L.length cap], kv sl sv nc k t] w fun e w' => ∃ L' c a' cap', inP L sl sv nc k t L' c ∧ e = .returned (.tuple #[.agg #[.slice a' L'.length cap'], .int .i64 c]) ∧ En w.heap.size w' a' L' ∧ Below w.heap.size w w' := by
  have AL : Below w.heap.size w (((w.alloc (.cells #[.slice a L.length cap] 31)).alloc (.cells #[.int .i64 sl, .int .i64 sv, .int .i64 nc, .string k, .bool t] 35)).alloc (.cells #[.slice none 0 0] 31)) := (((Below.refl _ _).alloc (Nat.le_refl _) _).alloc (by simp) _).alloc (by simp; omega) _
  have HAL := hide AL
  cases hgt : gtB L with
  | false =>
    have HN := hide (slots_no a cap L _ hG hS hgt (h.below AL))
    have HP : Hid (inP L sl sv nc k t [] 1) := Or.inl ⟨hgt, rfl, rfl⟩
    clear h hG hS hsm hgt AL
    go_enter Try.func10, Try.ntmps10
    go_wp2_with fail
    refine (unhide HN).mono ?_
    rintro e w1 ⟨rfl, b1⟩
    have R1 : Bx w1 (w.heap.size + 1 + 1) [.slice none 0 0] := (Bx.newAt ((w.alloc _).alloc _) _ _ _ (by simp)).below b1
    have B1 := hide ((unhide HAL).trans (b1.mono (unhide HAL).size))
    have r1 := R1.cv
    have r2 := R1.fz
    clear R1 b1
    go_wp2
    refine bodyPost_ret (v := .tuple #[.agg #[.slice none 0 0], .int .i64 1]) (by simp [results, Try.results10, go_sem, r1]) rfl ⟨[], 1, none, 0, unhide HP, rfl, Or.inl rfl, ?_⟩
    exact (unhide B1).setCell (by simp; omega) _
  | true =>
    obtain ⟨hL3, hu, hwf⟩ := gt_facts hgt
    have HN := hide (slots_ok a cap L _ hG hS (hsm hgt) hgt (h.below AL))
    have HGT := hide hgt
    clear h hG hS hsm hgt AL
    go_enter Try.func10, Try.ntmps10
    go_wp2_with fail
    refine (unhide HN).mono ?_
    rintro e w1 ⟨b, F, B, rfl, hM, hFk, b1⟩
    have hF := hFk.fl hu
    have C1 : Bx w1 (w.heap.size + 1) [.int .i64 sl, .int .i64 sv, .int .i64 nc, .string k, .bool t] := ((Bx.newAt (w.alloc _) _ _ _ (by simp)).alloc _).below b1
    have R1 : Bx w1 (w.heap.size + 1 + 1) [.slice none 0 0] := (Bx.newAt ((w.alloc _).alloc _) _ _ _ (by simp)).below b1
    have B1 := hide ((unhide HAL).trans (b1.mono (unhide HAL).size))
    have hM : Mo (w.heap.size + 1 + 1 + 1) w1 b L.length F B := by simpa using hM
    have hsz : w.heap.size + 1 + 1 + 1 ≤ w1.heap.size := by have := b1.size; simp at this; omega
    have HR := hide R1
    have x1 := C1.cv
    have HM := hide hM
    have HSZ := hide hsz
    clear R1 C1 b1 hM hFk HN hsz
    -- what install does, and what the table then is
    have ST : Hid (∃ (L2 : List EnD) (c2 : Int), inP L sl sv nc k t L2 c2 ∧ Calls Try.prog 23 #[.map (some b), kv sl sv nc k t] w1 fun e w' => e = .returned (.int .i64 c2) ∧ Below (w.heap.size + 1 + 1 + 1) w1 w' ∧
        Calls Try.prog 24 #[.map (some b)] w' fun e w'' => ∃ a' cap', e = .returned (.agg #[.slice a' L2.length cap']) ∧ En (w.heap.size + 1 + 1 + 1) w'' a' L2 ∧ Below w'.heap.size w' w'') := by
      cases hg : (gcB sl sv nc k.size && decide (sl < 3)) with
      | false =>
        refine ⟨L, 1, Or.inr (Or.inl ⟨unhide HGT, hg, rfl, rfl⟩), (insBad b sl sv nc k t w1 hg).mono ?_⟩
        rintro e w' ⟨rfl, b'⟩
        exact ⟨rfl, b'.mono (unhide HSZ), tab_ok (w.heap.size + 1 + 1 + 1) b L.length F B L w' (Nat.le_trans (unhide HSZ) b'.size) (by omega) ((unhide HM).below b') hF hu hwf (by omega)⟩
      | true =>
        cases e9 : F sl with
        | some r =>
          obtain ⟨e0, he0, hes⟩ := (hF.1 sl).1 (by rw [e9]; rfl)
          obtain ⟨i, hi, hie⟩ := mem_eA.1 he0
          refine ⟨L, 3, Or.inr (Or.inr (Or.inl ⟨unhide HGT, hg, ⟨i, hi, by rw [hie]; exact hes⟩, rfl, rfl⟩)), (insTwice (w.heap.size + 1 + 1 + 1) b L.length F B sl sv nc k t r w1 hs hg (unhide HM) e9).mono ?_⟩
          rintro e w' ⟨rfl, b'⟩
          exact ⟨rfl, b'.mono (unhide HSZ), tab_ok (w.heap.size + 1 + 1 + 1) b L.length F B L w' (Nat.le_trans (unhide HSZ) b'.size) (by omega) ((unhide HM).below b') hF hu hwf (by omega)⟩
        | none =>
          have hno : ∀ i, i < L.length → (eA L i).sl ≠ sl := fun i hi q => by
            have := (hF.1 sl).2 ⟨eA L i, mem_eA.2 ⟨i, hi, rfl⟩, q⟩
            rw [e9] at this
            cases this
          obtain ⟨p, hp⟩ := pl_has hu sl hno
          refine ⟨isE L p ⟨sl, sv, nc, k, t, [], 0⟩, 0, Or.inr (Or.inr (Or.inr ⟨unhide HGT, hg, hno, p, hp, rfl, rfl⟩)), (insNew (w.heap.size + 1 + 1 + 1) b L.length F B sl sv nc k t w1 (by omega) hs hk hg (unhide HSZ) (unhide HM) e9).mono ?_⟩
          rintro e w' ⟨rfl, hM', b'⟩
          refine ⟨rfl, b', tab_ok (w.heap.size + 1 + 1 + 1) b (L.length + 1) _ B _ w' (Nat.le_trans (unhide HSZ) b'.size) (by omega) hM' (hF.insert p ⟨sl, sv, nc, k, t, [], 0⟩ _ rfl (fun x hx => ?_)) (is_up hu hp) (fun x hx => ?_) (by rw [is_len]; omega)⟩
          · obtain ⟨i, hi, q⟩ := mem_eA.1 hx
            rw [← q]; exact hno i hi
          · rcases (is_mem _ _ _ _).1 hx with rfl | hx
            · exact hs
            · exact hwf x hx
    obtain ⟨L2, c2, hP, HI⟩ := unhide ST
    have HP := hide hP
    have HI2 := hide HI
    clear ST hP HI hF hu hwf
    go_wp2_with fail
    refine (unhide HI2).mono ?_
    rintro e w2 ⟨rfl, b2, ht⟩
    have HT := hide ht
    have R2 := (unhide HR).kept b2.size (b2.block _ (by omega))
    have HR2 := hide R2
    have B2 := hide ((unhide B1).trans (b2.mono (by omega)))
    clear b2 ht R2 x1
    go_wp2_with fail
    refine (unhide HT).mono ?_
    rintro e w3 ⟨a3, p3, rfl, hE3, b3⟩
    have R3 := (unhide HR2).below b3
    have r1 := R3.cv
    have r2 := R3.fz
    have B3 := hide ((unhide B2).trans (b3.mono (unhide B2).size))
    have HE3 := hide hE3
    clear b3 hE3 R3
    go_wp2
    refine bodyPost_ret (v := .tuple #[.agg #[.slice a3 L2.length p3], .int .i64 c2]) (by simp [results, Try.results10, go_sem, r1]) rfl ⟨L2, c2, a3, p3, unhide HP, rfl, ?_, (unhide B3).setCell (by simp; omega) _⟩
    exact ((unhide HE3).setLow (by omega)).mono (by omega)
end Go.Proofs.Ytcpccdejhmaenaa
