/-
  Contracts: the program's RemoveConfig; what tables become.
-/
import Derived.Test.YtdebdakfmlnlcaaTbn
namespace Go.Proofs.Ytdebdakfmlnlcaa
open Go.ChangeShapes Go.WideShapes Go.ChangeAt Go.RowKit Go.Deep Go.Maps
set_option linter.unusedVariables false
set_option maxRecDepth 100000

theorem mem_eA {L : List EnD} {e : EnD} : e ∈ L ↔ ∃ i, i < L.length ∧ eA L i = e := by
  rw [List.mem_iff_getElem]
  constructor
  · rintro ⟨i, h, q⟩; exact ⟨i, h, by simp [eA, List.getD, List.getElem?_eq_getElem h, q]⟩
  · rintro ⟨i, h, q⟩; exact ⟨i, h, by simpa [eA, List.getD, List.getElem?_eq_getElem h] using q⟩
theorem up_of (L : List EnD) (h : ∀ i j, i < j → j < L.length → (eA L i).sl < (eA L j).sl) : upL L := by
  unfold upL
  rw [List.pairwise_iff_getElem]
  intro i j hi hj hij
  simpa [eA, List.getD, List.getElem?_eq_getElem hj, List.getElem?_eq_getElem hi] using h i j hij hj
theorem atE_some (L : List EnD) (s : Int) (e : EnD) : ∀ n, atE L s n = some e → ∃ i, i < n ∧ eA L i = e ∧ e.sl = s
  | 0, h => by cases h
  | n + 1, h => by
    unfold atE at h
    by_cases c : (eA L n).sl = s
    · rw [if_pos c] at h; injection h with h; exact ⟨n, by omega, h, by rw [← h]; exact c⟩
    · rw [if_neg c] at h
      obtain ⟨i, h1, h2⟩ := atE_some L s e n h
      exact ⟨i, by omega, h2⟩
theorem atE_has (L : List EnD) (s : Int) : ∀ n i, i < n → (eA L i).sl = s → ∃ e, atE L s n = some e
  | 0, i, h, _ => absurd h (Nat.not_lt_zero _)
  | n + 1, i, h, e => by
    unfold atE
    by_cases c : (eA L n).sl = s
    · exact ⟨_, if_pos c⟩
    · rw [if_neg c]
      exact atE_has L s n i (by have : i ≠ n := fun q => c (q ▸ e); omega) e
theorem up_uniq {L : List EnD} (hu : upL L) {i j : Nat} (hi : i < L.length) (hj : j < L.length) (h : (eA L i).sl = (eA L j).sl) : i = j := by
  rcases Nat.lt_trichotomy i j with q | q | q
  · have := up_lt hu i j q hj; omega
  · exact q
  · have := up_lt hu j i q hi; omega
/-- what a map out of slotsOf tells -/
theorem Fk.fl {L : List EnD} {F : Int → Option EnR} (hu : upL L) (h : Fk L L.length F) : FL F L := by
  refine ⟨fun s => ?_, fun e he => ?_⟩
  · have hs := h s
    constructor
    · intro q
      obtain ⟨r, hr⟩ := Option.isSome_iff_exists.1 q
      rw [hr] at hs
      obtain ⟨i, h1, h2, h3⟩ := atE_some L s r.D L.length hs.symm
      exact ⟨r.D, mem_eA.2 ⟨i, h1, h2⟩, h3⟩
    · rintro ⟨e, he, q⟩
      obtain ⟨i, h1, h2⟩ := mem_eA.1 he
      obtain ⟨e', h3⟩ := atE_has L s L.length i h1 (by rw [h2]; exact q)
      rw [h3] at hs
      cases e9 : F s with
      | none => rw [e9] at hs; cases hs
      | some r => rfl
  · obtain ⟨i, h1, h2⟩ := mem_eA.1 he
    obtain ⟨e', h3⟩ := atE_has L e.sl L.length i h1 (by rw [h2])
    have hs := h e.sl
    rw [h3] at hs
    obtain ⟨j, g1, g2, g3⟩ := atE_some L e.sl e' L.length h3
    have : i = j := up_uniq hu h1 g1 (by rw [h2, g2, g3])
    cases e9 : F e.sl with
    | none => rw [e9] at hs; cases hs
    | some r =>
      rw [e9] at hs
      injection hs with hs
      exact ⟨r, rfl, by show r.D = e; rw [show r.D = e' from hs, ← g2, ← this, h2]⟩
/-- the list without entry i -/
def erE (L : List EnD) (i : Nat) : List EnD := L.take i ++ L.drop (i + 1)
theorem er_sub (L : List EnD) (i : Nat) : (erE L i).Sublist L := by
  unfold erE
  rw [← List.eraseIdx_eq_take_drop_succ]
  exact List.eraseIdx_sublist L i
theorem er_mem {L : List EnD} (hu : upL L) {i : Nat} (hi : i < L.length) (e : EnD) : e ∈ erE L i ↔ e ∈ L ∧ e.sl ≠ (eA L i).sl := by
  unfold erE
  rw [← List.eraseIdx_eq_take_drop_succ, List.mem_eraseIdx_iff_getElem?]
  constructor
  · rintro ⟨j, hj, q⟩
    have hjl := (List.getElem?_eq_some_iff.1 q).1
    have ej : eA L j = e := by simp [eA, List.getD, q]
    exact ⟨mem_eA.2 ⟨j, hjl, ej⟩, fun c => hj (up_uniq hu hjl hi (by rw [ej]; exact c))⟩
  · rintro ⟨he, c⟩
    obtain ⟨j, hj, ej⟩ := mem_eA.1 he
    exact ⟨j, fun q => c (by rw [← ej, q]), by rw [List.getElem?_eq_getElem hj, ← ej]; simp [eA, List.getD, List.getElem?_eq_getElem hj]⟩
theorem FL.erase {F : Int → Option EnR} {L : List EnD} (hu : upL L) (h : FL F L) {i : Nat} (hi : i < L.length) : FL (putF F (eA L i).sl none) (erE L i) := by
  refine ⟨fun s => ?_, fun e he => ?_⟩
  · unfold putF
    by_cases c : s = (eA L i).sl
    · rw [if_pos c]
      constructor
      · intro q; cases q
      · rintro ⟨e, he, q⟩
        exact absurd (q.trans c) ((er_mem hu hi e).1 he).2
    · rw [if_neg c, h.1 s]
      constructor
      · rintro ⟨e, he, q⟩; exact ⟨e, (er_mem hu hi e).2 ⟨he, by rw [q]; exact c⟩, q⟩
      · rintro ⟨e, he, q⟩; exact ⟨e, ((er_mem hu hi e).1 he).1, q⟩
  · obtain ⟨h1, h2⟩ := (er_mem hu hi e).1 he
    obtain ⟨r, h3, h4⟩ := h.2 e h1
    exact ⟨r, by unfold putF; rw [if_neg h2]; exact h3, h4⟩
theorem gt_facts {L : List EnD} (h : gtB L = true) : L.length ≤ 3 ∧ upL L ∧ ∀ e ∈ L, (Lit.int .i64 e.sl).wf = true := by
  unfold gtB at h
  rw [Bool.and_eq_true, decide_eq_true_eq] at h
  refine ⟨h.1, up_of L (okT_up L h.2), fun e he => ?_⟩
  obtain ⟨i, h1, h2⟩ := mem_eA.1 he
  have h3 := okT_slot L h.2 i h1
  rw [h2] at h3
  exact WalkArith.wf_i64 (by have := ((gcB_iff _ _ _ _).1 h3.1).1; have := h3.2.1; omega)
theorem gt_len {L : List EnD} (h : gtB L = true) : ∀ i, i < L.length → (eA L i).S.length ≤ 12 := by
  unfold gtB at h
  rw [Bool.and_eq_true] at h
  have h2 := h.2
  clear h
  have : ∀ m, okT L m = true → ∀ i, i < m → (eA L i).S.length ≤ 12 := by
    intro m
    induction m with
    | zero => intro _ i hi; omega
    | succ m ih =>
      intro h i hi
      unfold okT at h
      simp only [Bool.and_eq_true, geB, gsB, decide_eq_true_eq] at h
      by_cases e : i = m
      · subst e; exact h.2.1.1.1.2.1
      · exact ih h.1 i (by omega)
  exact this L.length h2
/-- what RemoveConfig makes of a table -/
def rmP (L : List EnD) (s : Int) (L' : List EnD) (c : Int) : Prop :=
  (gtB L = false ∧ L' = [] ∧ c = 1) ∨ (gtB L = true ∧ (∀ i, i < L.length → (eA L i).sl ≠ s) ∧ L' = L ∧ c = 2) ∨ (gtB L = true ∧ ∃ i, i < L.length ∧ (eA L i).sl = s ∧ L' = erE L i ∧ c = 0)
theorem rmP_uniq {L : List EnD} {s : Int} {L1 L2 : List EnD} {c1 c2 : Int} (h1 : rmP L s L1 c1) (h2 : rmP L s L2 c2) : L1 = L2 ∧ c1 = c2 := by
  rcases h1 with ⟨a, rfl, rfl⟩ | ⟨a, b, rfl, rfl⟩ | ⟨a, i, b1, b2, rfl, rfl⟩ <;> rcases h2 with ⟨a', rfl, rfl⟩ | ⟨a', b', rfl, rfl⟩ | ⟨a', i', b1', b2', rfl, rfl⟩
  · exact ⟨rfl, rfl⟩
  · rw [a] at a'; cases a'
  · rw [a] at a'; cases a'
  · rw [a] at a'; cases a'
  · exact ⟨rfl, rfl⟩
  · exact absurd b2' (b i' b1')
  · rw [a] at a'; cases a'
  · exact absurd b2 (b' i b1)
  · rw [up_uniq (gt_facts a).2.1 b1 b1' (b2.trans b2'.symm)]; exact ⟨rfl, rfl⟩
theorem slots_no (a : Option Addr) (cap : Nat) (L : List EnD) (w : World) (hG : okE L) (hS : ∀ i, i < L.length → (eA L i).S.length ≤ 1048576) (hgt : gtB L = false) (h : Ea w a L) :
    Calls Try.prog 25 #[.agg #[.slice a L.length cap]] w fun e w' => e = .returned (.tuple #[.map none, .bool false]) ∧ Below w.heap.size w w' := by
  have HG := hide (fun W (b : Below w.heap.size w W) => implGT a cap L W hG hS (h.below b))
  rw [hgt] at HG
  clear h hG hS hgt
  go_enter Try.func25, Try.ntmps25
  go_wp2_with fail
  refine (unhide HG _ ((Below.refl _ _).alloc (Nat.le_refl _) _)).mono ?_
  rintro e w1 ⟨rfl, b1⟩
  go_wp2
  go_ret2
  exact ⟨rfl, ((Below.refl _ _).alloc (Nat.le_refl _) _).trans (b1.mono (by simp))⟩
set_option maxHeartbeats 4000000 in
theorem implRm (a : Option Addr) (cap : Nat) (L : List EnD) (s : Int) (w : World) (hs : (Lit.int .i64 s).wf = true) (hG : okE L) (hS : ∀ i, i < L.length → (eA L i).S.length ≤ 1048576) (hsm : gtB L = true → smE L) (h : Ea w a L) :
    Calls Try.prog 16 #[.agg #[.slice a L.length cap], .int .i64 s] w fun e w' => ∃ L' c a' cap', rmP L s L' c ∧ e = .returned (.tuple #[.agg #[.slice a' L'.length cap'], .int .i64 c]) ∧ En w.heap.size w' a' L' ∧ Below w.heap.size w w' := by
  cases hgt : gtB L with
  | false =>
    have HN := hide (fun W (b : Below w.heap.size w W) => slots_no a cap L W hG hS hgt (h.below b))
    have HP : Hid (rmP L s [] 1) := Or.inl ⟨hgt, rfl, rfl⟩
    clear h hG hS hsm hgt
    go_enter Try.func16, Try.ntmps16
    go_wp2_with fail
    refine (unhide HN _ (((Below.refl _ _).alloc (Nat.le_refl _) _).alloc (by simp) _)).mono ?_
    rintro e w1 ⟨rfl, b1⟩
    have R1 : Bx w1 (w.heap.size + 1) [.slice none 0 0] := (Bx.newAt (w.alloc _) _ _ _ (by simp)).below b1
    have B1 := hide ((((Below.refl w.heap.size w).alloc (Nat.le_refl _) _).alloc (by simp) _).trans (b1.mono (by simp; omega)))
    have r1 := R1.cv
    have r2 := R1.fz
    clear R1 b1
    go_wp2
    refine bodyPost_ret (v := .tuple #[.agg #[.slice none 0 0], .int .i64 1]) (by simp [results, Try.results16, go_sem, r1]) rfl ⟨[], 1, none, 0, unhide HP, rfl, Or.inl rfl, ?_⟩
    exact (unhide B1).setCell (by simp) _
  | true =>
    obtain ⟨hL3, hu, hwf⟩ := gt_facts hgt
    have HN := hide (fun W (b : Below w.heap.size w W) => slots_ok a cap L W hG hS (hsm hgt) hgt (h.below b))
    have HPN : Hid ((∀ i, i < L.length → (eA L i).sl ≠ s) → rmP L s L 2) := fun q => Or.inr (Or.inl ⟨hgt, q, rfl, rfl⟩)
    have HPY : Hid (∀ i, i < L.length → (eA L i).sl = s → rmP L s (erE L i) 0) := fun i h1 h2 => Or.inr (Or.inr ⟨hgt, i, h1, h2, rfl, rfl⟩)
    clear h hG hS hsm hgt
    go_enter Try.func16, Try.ntmps16
    go_wp2_with fail
    refine (unhide HN _ (((Below.refl _ _).alloc (Nat.le_refl _) _).alloc (by simp) _)).mono ?_
    rintro e w1 ⟨b, F, B, rfl, hM, hFk, b1⟩
    have hF := hFk.fl hu
    have R1 : Bx w1 (w.heap.size + 1) [.slice none 0 0] := (Bx.newAt (w.alloc _) _ _ _ (by simp)).below b1
    have B1 := hide ((((Below.refl w.heap.size w).alloc (Nat.le_refl _) _).alloc (by simp) _).trans (b1.mono (by simp; omega)))
    have HR := hide R1
    have hM : Mo (w.heap.size + 1 + 1) w1 b L.length F B := by simpa using hM
    have hlook := hM.mp.look_ok s hs
    have hsz : w.heap.size + 1 + 1 ≤ w1.heap.size := by have := b1.size; simpa using this
    have HM := hide hM
    have HSZ := hide hsz
    clear R1 b1 hM hFk HN hsz
    cases e9 : F s with
    | none =>
      have HP := hide (unhide HPN (fun i hi q => by
        have := (hF.1 s).2 ⟨eA L i, mem_eA.2 ⟨i, hi, rfl⟩, q⟩
        rw [e9] at this
        cases this))
      have hlook2 : (Instr.lookup 53 (.map (some b)) (.int .i64 s) true).run Try.prog w1 = .ok (.tuple #[.agg #[.int .i64 0, .int .i64 0, .int .i64 0, .string ⟨#[]⟩, .bool false, .slice none 0 0, .int .i64 0], .bool false]) w1 := by
        rw [hlook]; unfold atV; rw [e9]; rfl
      have AL : Below w1.heap.size w1 (w1.alloc (.cells #[.int .i64 0, .int .i64 0, .int .i64 0, .string ⟨#[]⟩, .bool false, .slice none 0 0, .int .i64 0] 50)) := (Below.refl _ _).alloc (Nat.le_refl _) _
      have HT := hide (tab_ok (w.heap.size + 1 + 1) b L.length F B L _ (Nat.le_trans (unhide HSZ) AL.size) (by omega) ((unhide HM).below AL) hF hu hwf (by omega))
      have HA := hide AL
      clear hlook hF AL hu hwf e9
      go_wp2_with fail
      refine (unhide HT).mono ?_
      rintro e w2 ⟨a2, c2, rfl, hE2, b2⟩
      have R2 := ((unhide HR).below (unhide HA)).below b2
      have B2 := hide (((unhide B1).trans ((unhide HA).mono (unhide B1).size)).trans (b2.mono (Nat.le_trans (unhide B1).size (unhide HA).size)))
      have HE := hide hE2
      have r1 := R2.cv
      have r2 := R2.fz
      clear R2 b2 hE2 hlook2
      go_wp2
      refine bodyPost_ret (v := .tuple #[.agg #[.slice a2 L.length c2], .int .i64 2]) (by simp [results, Try.results16, go_sem, r1]) rfl ⟨L, 2, a2, c2, unhide HP, rfl, ?_, (unhide B2).setCell (by simp) _⟩
      exact ((unhide HE).setLow (by omega)).mono (by omega)
    | some r =>
      obtain ⟨e0, he0, hes⟩ := (hF.1 s).1 (by rw [e9]; rfl)
      obtain ⟨i, hi, hie⟩ := mem_eA.1 he0
      have his : (eA L i).sl = s := by rw [hie]; exact hes
      have HP := hide (unhide HPY i hi his)
      have hlook2 : (Instr.lookup 53 (.map (some b)) (.int .i64 s) true).run Try.prog w1 = .ok (.tuple #[ev r.D r.ra r.cap, .bool true]) w1 := by
        rw [hlook]; unfold atV; rw [e9]; rfl
      have AL : Below w1.heap.size w1 (w1.alloc (.cells #[.int .i64 r.D.sl, .int .i64 r.D.sv, .int .i64 r.D.nc, .string r.D.k, .bool r.D.t, .slice r.ra r.D.S.length r.cap, .int .i64 r.D.nx] 50)) := (Below.refl _ _).alloc (Nat.le_refl _) _
      have M2 := (unhide HM).below AL
      obtain ⟨w2, hdel, hM2, hg2⟩ := M2.mp.drop s hs 0
      have M3 : Mo (w.heap.size + 1 + 1) w2 b L.length (putF F s none) B := M2.turn hg2 hM2 (fun t q e => by
        unfold putF at e
        by_cases c : t = s
        · rw [if_pos c] at e; cases e
        · rw [if_neg c] at e; exact Or.inl e)
      have hF2 := hF.erase hu hi
      rw [his] at hF2
      have hlen : (erE L i).length ≤ L.length := (er_sub L i).length_le
      have HT := hide (tab_ok (w.heap.size + 1 + 1) b L.length (putF F s none) B (erE L i) w2 (Nat.le_trans (Nat.le_trans (unhide HSZ) AL.size) hg2.size) (by omega) M3 hF2 (hu.sublist (er_sub L i)) (fun e he => hwf e ((er_sub L i).subset he)) (by omega))
      have BW : Below (w.heap.size + 1 + 1) w1 w2 := (AL.mono (unhide HSZ)).trans (grown_below (v := .slice (some ⟨b, 0, none⟩) 0 0) (by simpa [Value.ownBlock] using hg2) (Nat.le_trans (unhide HSZ) AL.size) (fun q e => by simp [Value.ownBlock] at e; rw [← e]; exact (unhide HM).ge))
      have HBW := hide BW
      have RUN := hide hdel
      have HR2 : Hid (Bx w2 (w.heap.size + 1) [.slice none 0 0]) := (unhide HR).kept (Nat.le_trans AL.size hg2.size) (BW.block _ (by omega))
      clear hlook hF AL hu hwf e9 he0 hes hie his hi hF2 M2 M3 hM2 hg2 hdel BW hlen
      generalize erE L i = L2 at *
      go_wp2_with (first | (at_delete; refine wpl_del rfl _ _ 53 3 rfl _ _ _ _ rfl rfl (unhide RUN) ?_) | (go_at_call 27; refine (unhide HT).mono ?_; rintro e w3 ⟨a2, c2, rfl, hE2, b2⟩; have r1 := ((unhide HR2).below b2).cv; have r2 := ((unhide HR2).below b2).fz))
      refine bodyPost_ret (v := .tuple #[.agg #[.slice a2 L2.length c2], .int .i64 0]) (by simp [results, Try.results16, go_sem, r1]) rfl ⟨L2, 0, a2, c2, unhide HP, rfl, ?_, ?_⟩
      · exact (hE2.setLow (by omega)).mono (by omega)
      · refine Below.setCell ?_ (by simp) _
        exact ((unhide B1).trans ((unhide HBW).mono (by omega))).trans (b2.mono (Nat.le_trans (unhide B1).size (unhide HBW).size))
end Go.Proofs.Ytdebdakfmlnlcaa
