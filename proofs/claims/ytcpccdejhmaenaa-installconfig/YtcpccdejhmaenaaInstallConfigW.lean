/-
  The law on InstallConfig, walked.
-/
import Derived.Test.YtcpccdejhmaenaaTlw
import Derived.Test.YtcpccdejhmaenaaSin
import Derived.Deep.RegionHeld3
namespace Go.Proofs.Ytcpccdejhmaenaa.fnExactInstallConfig
open Go.ChangeShapes Go.WideShapes Go.ChangeAt Go.RowKit Go.Deep
set_option linter.unusedVariables false
set_option maxRecDepth 100000

/-- what comes of a table is as small -/
theorem in_small {L : List EnD} {sl sv nc : Int} {k : ByteArray} {t : Bool} {L' : List EnD} {c : Int} (h : inP L sl sv nc k t L' c) (hk : smK L) : smK L' := by
  have each : ∀ M : List EnD, (∀ e ∈ M, e ∈ L ∨ e.S = []) → M.length ≤ 4 → smK M := fun M hM hl => by
    have hS : ∀ i, i < M.length → (eA M i).S.length ≤ 1048576 := fun i hi => by
      rcases hM _ (mem_eA.2 ⟨i, hi, rfl⟩) with h9 | h9
      · obtain ⟨j, hj, e⟩ := mem_eA.1 h9
        rw [← e]; exact hk.2.1 j hj
      · rw [h9]; simp
    refine ⟨by omega, hS, fun i hi => ?_⟩
    have b : ∀ q, q ≤ M.length → kA 1 M q ≤ 1 + q * 2097158 := by
      intro q
      induction q with
      | zero => intro _; show 1 ≤ _; omega
      | succ q ih =>
        intro hq
        have h1 := ih (by omega)
        have h2 := hS q (by omega)
        show kA 1 M q + 6 + 2 * (eA M q).S.length ≤ _
        omega
    have := b i hi
    omega
  rcases h with ⟨_, rfl, _⟩ | ⟨hg, _, rfl, _⟩ | ⟨hg, _, _, rfl, _⟩ | ⟨hg, _, _, p, _, rfl, _⟩
  · exact each [] (fun e he => (by cases he)) (by simp)
  · exact hk
  · exact hk
  · refine each _ (fun e he => ?_) (by rw [is_len]; have := (gt_facts hg).1; omega)
    unfold isE at he
    have h9 : e ∈ L.take p ∨ e = ⟨sl, sv, nc, k, t, [], 0⟩ ∨ e ∈ L.drop p := by simpa using he
    rcases h9 with h | h | h
    · exact Or.inl (List.mem_of_mem_take h)
    · rw [h]; exact Or.inr rfl
    · exact Or.inl (List.mem_of_mem_drop h)
theorem ea_set {w : World} {b : Nat} {u : Value} {a : Option Addr} {L : List EnD} (hB : Bx w b [.slice none 0 0]) (h : Ea w a L) : Ea (w.setCell ⟨b, 0, none⟩ u) a L := by
  rcases h with h | ⟨g, o, e, h⟩
  · exact Or.inl h
  refine Or.inr ⟨g, o, e, fun i hi => ?_⟩
  obtain ⟨ra, cap, h1, h3, h2⟩ := h i hi
  have hg : b ≠ g := fun e9 => by
    have h9 := h1.c0
    rw [← e9, hB.cv] at h9
    generalize o + i * 7 = q at h9
    cases q <;> simp at h9
  refine ⟨ra, cap, h1.move (fun j _ => set_blk hg), h3, ?_⟩
  rcases h2 with h2 | ⟨b2, o2, e2, h2⟩
  · exact Or.inl h2
  by_cases hS : (eA L i).S = []
  · exact Or.inl hS
  refine Or.inr ⟨b2, o2, e2, h2.move (by simp) (fun j => set_blk (fun e9 => ?_))⟩
  have h9 := h2.ci 0 (List.length_pos_iff.2 hS)
  rw [← e9, hB.cv] at h9
  generalize o2 + 0 * 2 = q at h9
  cases q <;> simp at h9
theorem iv_set {w w3 V : World} {xs : List (Nat × List Value)} {b : Nat} {u x : Value} (h : Iv w w3 V xs) (hB : Bx V b [x]) (h0 : w.heap.size ≤ b) (h3 : w3.heap.size ≤ b) (hne : ∀ p ∈ xs, p.1 ≠ b) : Iv w w3 (V.setCell ⟨b, 0, none⟩ u) ((b, [u]) :: xs) := by
  refine ⟨h.b0.setCell h0 _, h.b3.setCell h3 _, fun p hp => ?_⟩
  rcases List.mem_cons.1 hp with rfl | hp
  · exact hB.set (i := 0) (by simp)
  · exact (h.bx p hp).other (fun e => hne p hp e.symm)
theorem eg_set {base s : Nat} {w : World} {a : Option Addr} {L : List EnD} {b : Nat} {u : Value} (h : Eg base s w a L) (hb : b < base ∨ s ≤ b) : Eg base s (w.setCell ⟨b, 0, none⟩ u) a L := by
  refine h.imp id fun ⟨g, B, e, h, t⟩ => ⟨g, B, e, ?_, t⟩
  have ek : ∀ q, Tb g B L q → (w.setCell ⟨b, 0, none⟩ u).heap[q]? = w.heap[q]? := fun q hq => Below.heap_setCell w ⟨b, 0, none⟩ u q (by show q ≠ b; have := t q hq; omega)
  have eg := ek g (Or.inl rfl)
  refine ⟨h.ge, Nat.lt_of_lt_of_le h.lt (by simp), fun o => (World.frozen?_of_block (a := ⟨g, o, none⟩) eg).trans (h.fz o), fun i hi => ?_, h.ne⟩
  obtain ⟨ra, cap, h1, h3, h2⟩ := h.en i hi
  refine ⟨ra, cap, h1.move (fun j _ => World.cell?_of_block (a := ⟨g, i * 7 + j, none⟩) eg), h3, ?_⟩
  by_cases hS : (eA L i).S = []
  · exact Or.inl hS
  rcases h2 with h2 | ⟨a, b, c⟩
  · exact Or.inl h2
  refine Or.inr ⟨a, b, ?_⟩
  have eb := ek (B i) (Or.inr ⟨i, hi, hS, rfl⟩)
  exact ⟨c.ge, c.al.move (by simp) (fun j => World.cell?_of_block (a := ⟨B i, j, none⟩) eb), fun o => (World.frozen?_of_block (a := ⟨B i, o, none⟩) eb).trans (c.fz o)⟩
theorem szCf (sl sv nc : Int) (k : ByteArray) (t : Bool) (hk : k.size ≤ maxLen) (m : Nat) (hm : m ≤ 1048576) (w : World) :
    Calls Try.prog 6 #[kv sl sv nc k t, .int .i64 (m : Int)] w fun e w' => e = .returned (.int .i64 (if (m : Int) < k.size then -1 else (m : Int) - k.size)) ∧ Below w.heap.size w w' := by
  unfold maxLen at hk
  split
  · go_enter Try.func6, Try.ntmps6
    go_wp2
    go_ret
    exact ⟨rfl, (Below.refl _ _).alloc (Nat.le_refl _) _⟩
  · go_enter Try.func6, Try.ntmps6
    go_wp2
    go_ret
    exact ⟨rfl, (Below.refl _ _).alloc (Nat.le_refl _) _⟩
set_option maxHeartbeats 8000000 in
theorem walk (a : Option Addr) (cap : Nat) (L : List EnD) (sl sv nc : Int) (k : ByteArray) (t : Bool) (hs : (Lit.int .i64 sl).wf = true) (hkm : k.size ≤ maxLen) (w : World) (hG : okE L) (h : Ea w a L) :
    Calls Try.prog 3 #[.agg #[.slice a L.length cap], kv sl sv nc k t] w fun e w' => e = .returned (.bool true) ∧ Below w.heap.size w w' := by
  have AL : Below w.heap.size w ((w.alloc (.cells #[.slice a L.length cap] 24)).alloc (.cells #[.int .i64 sl, .int .i64 sv, .int .i64 nc, .string k, .bool t] 26)) := ((Below.refl _ _).alloc (Nat.le_refl _) _).alloc (by simp) _
  have HZ := hide (fun W (b : Below w.heap.size w W) => szTb a cap L W hG (h.below b))
  by_cases hl : 1048576 < wtE L
  · rw [show lfR 1048576 (wtE L) = -1 from if_pos hl] at HZ
    have HAL := hide AL
    clear h hG AL
    go_enter Try.func3, Try.ntmps3
    go_wp2_with fail
    refine (unhide HZ _ (unhide HAL)).mono ?_
    rintro e w1 ⟨rfl, b1⟩
    have B1 := hide ((unhide HAL).trans (b1.mono (unhide HAL).size))
    clear b1
    go_wp2
    go_ret
    exact ⟨rfl, unhide B1⟩
  obtain ⟨hk, hsmall⟩ := wt_small L hl
  obtain ⟨m, hm, hm1⟩ : ∃ m : Nat, lfR 1048576 (wtE L) = (m : Int) ∧ m ≤ 1048576 := ⟨1048576 - wtE L, by unfold lfR; rw [if_neg hl]; omega, by omega⟩
  rw [hm] at HZ
  have hm0 : 0 ≤ (m : Int) := by omega
  have HS := hide (szCf sl sv nc k t hkm m hm1)
  have HAL := hide AL
  have I1 : ∀ w1, Below ((w.alloc (.cells #[.slice a L.length cap] 24)).alloc (.cells #[.int .i64 sl, .int .i64 sv, .int .i64 nc, .string k, .bool t] 26)).heap.size ((w.alloc (.cells #[.slice a L.length cap] 24)).alloc (.cells #[.int .i64 sl, .int .i64 sv, .int .i64 nc, .string k, .bool t] 26)) w1 → Iv w w w1 [(w.heap.size + 1, [.int .i64 sl, .int .i64 sv, .int .i64 nc, .string k, .bool t]), (w.heap.size, [.slice a L.length cap])] := fun w1 b1 => by
    have B := AL.trans (b1.mono AL.size)
    refine ⟨B, B, fun p hp => ?_⟩
    simp only [List.mem_cons, List.not_mem_nil, or_false] at hp
    rcases hp with rfl | rfl
    · exact (Bx.newAt (w.alloc _) _ _ _ (by simp)).below b1
    · exact ((Bx.new w _ _).alloc _).below b1
  have HI := hide I1
  clear AL I1
  by_cases hlk : (m : Int) < k.size
  · rw [if_pos hlk] at HS
    clear h hG hl hk hsmall hm hlk
    go_enter Try.func3, Try.ntmps3
    go_wp2_with fail
    refine (unhide HZ _ (unhide HAL)).mono ?_
    rintro e w1 ⟨rfl, b1⟩
    have J1 := hide (unhide HI _ b1)
    have x1 := ((unhide J1).bx _ List.mem_cons_self).cv
    have l1 := ((unhide J1).bx _ List.mem_cons_self).lt
    clear b1
    go_wp2_with fail
    refine (unhide HS _).mono ?_
    rintro e w2 ⟨rfl, b2⟩
    have J2 := hide ((unhide J1).below b2)
    clear b2 x1 J1 l1
    go_wp2
    go_ret
    exact ⟨rfl, (unhide J2).b0⟩
  rw [if_neg hlk] at HS
  have hmk : 0 ≤ (m : Int) - (k.size : Int) := by omega
  have hks : k.size ≤ 1048576 := by omega
  have H1 := hide (fun W (b : Below w.heap.size w W) => toTb a cap L W hk.1 hk.2.1 (h.below b))
  have HC := hide (toCfg sl sv nc k t)
  have H2 := hide (fun a' cap' W (hE : Ea W a' L) => specIn a' cap' L sl sv nc k t W hs hG hk.2.1 hE)
  have H3 := hide (fun a' cap' W (hE : Ea W a' L) => implIn a' cap' L sl sv nc k t W hs hks hG hk.2.1 (fun hg i hi => ⟨(hsmall i hi).1, by have := gt_len hg i hi; omega, (hsmall i hi).2.2⟩) hE)
  have H4 := hide (fun a1 a2 c1 c2 W (h1 : Ea W a1 L) (h2 : Ea W a2 L) => eqTb a1 a2 c1 c2 L W hk.1 hk.2.1 h1 h2)
  have HK := hide hk
  clear h hG hl hk hsmall hm hlk hks hkm
  go_enter Try.func3, Try.ntmps3
  go_wp2_with fail
  refine (unhide HZ _ (unhide HAL)).mono ?_
  rintro e w1 ⟨rfl, b1⟩
  have J0 := hide (unhide HI _ b1)
  have x1 := ((unhide J0).bx _ List.mem_cons_self).cv
  have l1 := ((unhide J0).bx _ List.mem_cons_self).lt
  clear b1 HZ HAL HI
  go_wp2_with fail
  refine (unhide HS _).mono ?_
  rintro e w1c ⟨rfl, b1c⟩
  have J1 := hide ((unhide J0).below b1c)
  clear b1c x1 J0 HS l1
  generalize (m : Int) - (k.size : Int) = mk at *
  clear hm0 hm1
  have l0 := ((unhide J1).bx _ List.mem_cons_self).lt
  dsimp only at l0
  go_upto_region 8 with fail
  go_cut [6, 7] (fun s6 s7 wx => ∃ b8 L0 c0 a0 p0, s6 = .pointer (some ⟨b8, 0, none⟩) ∧ s7 = .int .i64 c0 ∧ inP L sl sv nc k t L0 c0 ∧ Ea wx a0 L0 ∧ Iv w wx wx ((b8, [.slice a0 L0.length p0]) :: [(w.heap.size + 1, [.int .i64 sl, .int .i64 sv, .int .i64 nc, .string k, .bool t]), (w.heap.size, [.slice a L.length cap])]))
  case first =>
    refine wp_region_noPanic ?_
    refine wp_region_held_drew (S := fun V => Iv w w V [(w.heap.size + 1, [.int .i64 sl, .int .i64 sv, .int .i64 nc, .string k, .bool t]), (w.heap.size, [.slice a L.length cap])]) (by kernel_rfl) ((unhide J1).below (Below.refl _ _).drew) (fun hHeld => ?_)
    refine wpAnyH_take (i := 0) (v := ?_) rfl (by kernel_rfl) (by kernel_rfl) (by kernel_rfl) (fun _ _ _ h => h) (Or.inl ⟨by rfl, ?_⟩) hHeld ?_
    rotate_left
    · intro V hSw; have y1 := (hSw.bx _ (List.mem_cons_of_mem _ List.mem_cons_self)).cv; go_simp; rfl
    simp only [Act.put, List.getElem_toArray, List.getElem_cons_zero, List.setIfInBounds_toArray, List.set_cons_zero, List.set_cons_succ]
    refine wpAnyH_take (i := 2) (v := ?_) rfl (by kernel_rfl) (by kernel_rfl) (by kernel_rfl) (fun _ _ _ h => h) (Or.inl ⟨by rfl, ?_⟩) hHeld ?_
    rotate_left
    · intro V hSw; have y1 := (hSw.bx _ List.mem_cons_self).cv; go_simp; rfl
    simp only [Act.put, List.getElem_toArray, List.getElem_cons_succ, List.getElem_cons_zero, List.setIfInBounds_toArray, List.set_cons_zero, List.set_cons_succ]
    refine wpAnyH_ready (rs := [1, 8]) (by kernel_rfl) (by simp) ?_
    refine (AllReadyH.cons rfl (fun K hK => ?_) (AllReadyH.cons rfl (fun K hK => ?_) AllReadyH.nil))
    · -- call
      go_simp
      go_at_call 8
      refine (unhide H1 _ hHeld.b0).mono ?_
      rintro e w2 ⟨g2, B2, rfl, hE2, b2⟩
      refine hK.out _ _ (hHeld.below b2) (fun hHeld => ?_)
      clear hK K
      try simp only [Act.put, List.getElem_toArray, List.getElem_cons_succ, List.getElem_cons_zero, List.setIfInBounds_toArray, List.set_cons_zero, List.set_cons_succ]
      have z2 : w1c.heap.size ≤ w2.heap.size := by have := b2.size; first | (simp at this; omega) | omega
      have HE := hide (En.ea (Or.inr ⟨g2, B2, rfl, hE2⟩ : En _ w2 (some ⟨g2, 0, none⟩) L))
      clear hE2 b2
      refine wpAnyH_ready (rs := [3, 8]) (by kernel_rfl) (by simp) ?_
      refine (AllReadyH.cons rfl (fun K hK => ?_) (AllReadyH.cons rfl (fun K hK => ?_) AllReadyH.nil))
      · -- call
        go_simp
        go_at_call 9
        refine (unhide HC _).mono ?_
        rintro e w2c ⟨rfl, b2c⟩
        refine hK.out _ _ (hHeld.below b2c) (fun hHeld => ?_)
        clear hK K
        try simp only [Act.put, List.getElem_toArray, List.getElem_cons_succ, List.getElem_cons_zero, List.setIfInBounds_toArray, List.set_cons_zero, List.set_cons_succ]
        have z2c : w2.heap.size ≤ w2c.heap.size := by have := b2c.size; first | (simp at this; omega) | omega
        have HE := hide ((unhide HE).below b2c)
        clear b2c
        refine wpAnyH_ready (rs := [4, 8]) (by kernel_rfl) (by simp) ?_
        refine (AllReadyH.cons rfl (fun K hK => ?_) (AllReadyH.cons rfl (fun K hK => ?_) AllReadyH.nil))
        · -- call
          go_simp
          go_at_call 7
          refine (unhide H2 _ _ _ (unhide HE)).mono ?_
          rintro e w3 ⟨L0, c0, a0, p0, hP0, rfl, hE0, b3⟩
          refine hK.out _ _ (hHeld.below b3) (fun hHeld => ?_)
          clear hK K
          try simp only [Act.put, List.getElem_toArray, List.getElem_cons_succ, List.getElem_cons_zero, List.setIfInBounds_toArray, List.set_cons_zero, List.set_cons_succ]
          have z3 : w2c.heap.size ≤ w3.heap.size := by have := b3.size; first | (simp at this; omega) | omega
          have HE := hide ((unhide HE).below b3)
          have HE0 := hide hE0
          have HP0 := hide hP0
          have J3 := hide hHeld
          have FE0 : Hid (∀ u, Ea (w3.alloc (.cells #[u] 31)) a0 L0) := fun u => hE0.below ((Below.refl _ _).alloc (Nat.le_refl _) _)
          clear hE0 hP0 b3
          refine wpAnyH_take (i := 5) (v := ?_) rfl (by kernel_rfl) (by kernel_rfl) (by kernel_rfl) (fun _ _ _ h => h) (Or.inl ⟨by rfl, ?_⟩) hHeld ?_
          rotate_left
          · intro V hSw; go_simp; rfl
          simp only [Act.put, List.getElem_toArray, List.getElem_cons_succ, List.getElem_cons_zero, List.setIfInBounds_toArray, List.set_cons_zero, List.set_cons_succ]
          refine wpAnyH_take (i := 6) (v := ?_) rfl (by kernel_rfl) (by kernel_rfl) (by kernel_rfl) (fun _ _ _ h => h) (Or.inl ⟨by rfl, ?_⟩) hHeld ?_
          rotate_left
          · intro V hSw; go_simp; rfl
          simp only [Act.put, List.getElem_toArray, List.getElem_cons_succ, List.getElem_cons_zero, List.setIfInBounds_toArray, List.set_cons_zero, List.set_cons_succ]
          refine wpAnyH_take (i := 7) (v := ?_) rfl (by kernel_rfl) (by kernel_rfl) (by kernel_rfl) (fun _ _ _ h => h) (Or.inl ⟨by rfl, ?_⟩) hHeld ?_
          rotate_left
          · intro V hSw; go_simp; rfl
          simp only [Act.put, List.getElem_toArray, List.getElem_cons_succ, List.getElem_cons_zero, List.setIfInBounds_toArray, List.set_cons_zero, List.set_cons_succ]
          refine wpAnyH_ready (rs := [8]) (by kernel_rfl) (by simp) ?_
          refine (AllReadyH.cons rfl (fun K hK => ?_) AllReadyH.nil)
          go_simp
          refine hK.out _ _ (hHeld.below ((Below.refl _ _).alloc (Nat.le_refl _) _)) (fun hHeld => ?_)
          clear hK K
          try simp only [Act.put, List.getElem_toArray, List.getElem_cons_succ, List.getElem_cons_zero, List.setIfInBounds_toArray, List.set_cons_zero, List.set_cons_succ]
          have BX : Hid (Bx (w3.alloc (.cells #[.slice none 0 0] 31)) (w3.heap.size) [.slice none 0 0]) := Bx.newAt w3 _ _ _ (by simp)
          have HE := hide ((unhide HE).below (w' := w3.alloc (.cells #[.slice none 0 0] 31)) ((Below.refl _ _).alloc (Nat.le_refl _) _))
          have HE0 := hide ((unhide HE0).below (w' := w3.alloc (.cells #[.slice none 0 0] 31)) ((Below.refl _ _).alloc (Nat.le_refl _) _))
          have y1 := (unhide BX).cv
          have y2 := (unhide BX).fz
          have yl := (unhide BX).lt
          have FI : Hid (Iv w w ((w3.alloc (.cells #[.slice none 0 0] 31)).setCell ⟨w3.heap.size, 0, none⟩ (.slice a0 L0.length p0)) ((w3.heap.size, [.slice a0 L0.length p0]) :: [(w.heap.size + 1, [.int .i64 sl, .int .i64 sv, .int .i64 nc, .string k, .bool t]), (w.heap.size, [.slice a L.length cap])])) := iv_set hHeld (unhide BX) (by omega) (by omega) (fun p hp => by
            simp only [List.mem_cons, List.not_mem_nil, or_false] at hp
            rcases hp with rfl | rfl <;> (simp only; omega))
          have FE := hide (ea_set (u := .slice a0 L0.length p0) (unhide BX) (unhide HE0))
          have FI2 : Hid (Iv w w (w3.alloc (.cells #[.slice a0 L0.length p0] 31)) ((w3.heap.size, [.slice a0 L0.length p0]) :: [(w.heap.size + 1, [.int .i64 sl, .int .i64 sv, .int .i64 nc, .string k, .bool t]), (w.heap.size, [.slice a L.length cap])])) := Iv.push (unhide J3) [.slice a0 L0.length p0] 31
          have FE2 := hide (unhide FE0 (.slice a0 L0.length p0))
          refine wpAnyH_ready (rs := [9]) (by kernel_rfl) (by simp) ?_
          refine (AllReadyH.cons rfl (fun K hK => ?_) AllReadyH.nil)
          go_simp
          refine hK.out _ _ (by first | exact ⟨(unhide FI).b0, (unhide FI).b3, fun p hp => (unhide FI).bx p (List.mem_cons_of_mem _ hp)⟩ | exact ⟨(unhide FI2).b0, (unhide FI2).b3, fun p hp => (unhide FI2).bx p (List.mem_cons_of_mem _ hp)⟩) (fun hHeld => ?_)
          clear hK K
          try simp only [Act.put, List.getElem_toArray, List.getElem_cons_succ, List.getElem_cons_zero, List.setIfInBounds_toArray, List.set_cons_zero, List.set_cons_succ]
          refine wpAnyH_take (i := 10) (v := ?_) rfl (by kernel_rfl) (by kernel_rfl) (by kernel_rfl) (fun _ _ _ h => h) (Or.inl ⟨by rfl, ?_⟩) hHeld ?_
          rotate_left
          · intro V hSw; go_simp; rfl
          simp only [Act.put, List.getElem_toArray, List.getElem_cons_succ, List.getElem_cons_zero, List.setIfInBounds_toArray, List.set_cons_zero, List.set_cons_succ]
          refine wpAnyH_done (by kernel_rfl) ?_ _
          refine NoPanic.normal ?_
          clear hHeld
          clear y1 y2
          go_wp2_with fail
          go_meet
          first | exact ⟨w3.heap.size, L0, c0, a0, p0, rfl, rfl, unhide HP0, unhide FE2, ⟨(unhide FI2).b0, Below.refl _ _, (unhide FI2).bx⟩⟩ | exact ⟨w3.heap.size, L0, c0, a0, p0, rfl, rfl, unhide HP0, unhide FE, ⟨(unhide FI).b0, Below.refl _ _, (unhide FI).bx⟩⟩
        · -- box
          go_simp
          refine hK.out _ _ (hHeld.below ((Below.refl _ _).alloc (Nat.le_refl _) _)) (fun hHeld => ?_)
          clear hK K
          try simp only [Act.put, List.getElem_toArray, List.getElem_cons_succ, List.getElem_cons_zero, List.setIfInBounds_toArray, List.set_cons_zero, List.set_cons_succ]
          have BX : Hid (Bx (w2c.alloc (.cells #[.slice none 0 0] 31)) (w2c.heap.size) [.slice none 0 0]) := Bx.newAt w2c _ _ _ (by simp)
          have HE := hide ((unhide HE).below (w' := w2c.alloc (.cells #[.slice none 0 0] 31)) ((Below.refl _ _).alloc (Nat.le_refl _) _))
          refine wpAnyH_ready (rs := [4]) (by kernel_rfl) (by simp) ?_
          refine (AllReadyH.cons rfl (fun K hK => ?_) AllReadyH.nil)
          go_simp
          go_at_call 7
          refine (unhide H2 _ _ _ (unhide HE)).mono ?_
          rintro e w3 ⟨L0, c0, a0, p0, hP0, rfl, hE0, b3⟩
          refine hK.out _ _ (hHeld.below b3) (fun hHeld => ?_)
          clear hK K
          try simp only [Act.put, List.getElem_toArray, List.getElem_cons_succ, List.getElem_cons_zero, List.setIfInBounds_toArray, List.set_cons_zero, List.set_cons_succ]
          have z3 : (w2c.heap.size + 1) ≤ w3.heap.size := by have := b3.size; first | (simp at this; omega) | omega
          have HE := hide ((unhide HE).below b3)
          have BX := hide ((unhide BX).below b3)
          have HE0 := hide hE0
          have HP0 := hide hP0
          have J3 := hide hHeld
          have FE0 : Hid (∀ u, Ea (w3.alloc (.cells #[u] 31)) a0 L0) := fun u => hE0.below ((Below.refl _ _).alloc (Nat.le_refl _) _)
          clear hE0 hP0 b3
          refine wpAnyH_take (i := 5) (v := ?_) rfl (by kernel_rfl) (by kernel_rfl) (by kernel_rfl) (fun _ _ _ h => h) (Or.inl ⟨by rfl, ?_⟩) hHeld ?_
          rotate_left
          · intro V hSw; go_simp; rfl
          simp only [Act.put, List.getElem_toArray, List.getElem_cons_succ, List.getElem_cons_zero, List.setIfInBounds_toArray, List.set_cons_zero, List.set_cons_succ]
          refine wpAnyH_take (i := 6) (v := ?_) rfl (by kernel_rfl) (by kernel_rfl) (by kernel_rfl) (fun _ _ _ h => h) (Or.inl ⟨by rfl, ?_⟩) hHeld ?_
          rotate_left
          · intro V hSw; go_simp; rfl
          simp only [Act.put, List.getElem_toArray, List.getElem_cons_succ, List.getElem_cons_zero, List.setIfInBounds_toArray, List.set_cons_zero, List.set_cons_succ]
          refine wpAnyH_take (i := 7) (v := ?_) rfl (by kernel_rfl) (by kernel_rfl) (by kernel_rfl) (fun _ _ _ h => h) (Or.inl ⟨by rfl, ?_⟩) hHeld ?_
          rotate_left
          · intro V hSw; go_simp; rfl
          simp only [Act.put, List.getElem_toArray, List.getElem_cons_succ, List.getElem_cons_zero, List.setIfInBounds_toArray, List.set_cons_zero, List.set_cons_succ]
          have y1 := (unhide BX).cv
          have y2 := (unhide BX).fz
          have yl := (unhide BX).lt
          have FI : Hid (Iv w w (w3.setCell ⟨w2c.heap.size, 0, none⟩ (.slice a0 L0.length p0)) ((w2c.heap.size, [.slice a0 L0.length p0]) :: [(w.heap.size + 1, [.int .i64 sl, .int .i64 sv, .int .i64 nc, .string k, .bool t]), (w.heap.size, [.slice a L.length cap])])) := iv_set hHeld (unhide BX) (by omega) (by omega) (fun p hp => by
            simp only [List.mem_cons, List.not_mem_nil, or_false] at hp
            rcases hp with rfl | rfl <;> (simp only; omega))
          have FE := hide (ea_set (u := .slice a0 L0.length p0) (unhide BX) (unhide HE0))
          refine wpAnyH_ready (rs := [9]) (by kernel_rfl) (by simp) ?_
          refine (AllReadyH.cons rfl (fun K hK => ?_) AllReadyH.nil)
          go_simp
          refine hK.out _ _ (by first | exact ⟨(unhide FI).b0, (unhide FI).b3, fun p hp => (unhide FI).bx p (List.mem_cons_of_mem _ hp)⟩) (fun hHeld => ?_)
          clear hK K
          try simp only [Act.put, List.getElem_toArray, List.getElem_cons_succ, List.getElem_cons_zero, List.setIfInBounds_toArray, List.set_cons_zero, List.set_cons_succ]
          refine wpAnyH_take (i := 10) (v := ?_) rfl (by kernel_rfl) (by kernel_rfl) (by kernel_rfl) (fun _ _ _ h => h) (Or.inl ⟨by rfl, ?_⟩) hHeld ?_
          rotate_left
          · intro V hSw; go_simp; rfl
          simp only [Act.put, List.getElem_toArray, List.getElem_cons_succ, List.getElem_cons_zero, List.setIfInBounds_toArray, List.set_cons_zero, List.set_cons_succ]
          refine wpAnyH_done (by kernel_rfl) ?_ _
          refine NoPanic.normal ?_
          clear hHeld
          clear y1 y2
          go_wp2_with fail
          go_meet
          exact ⟨w2c.heap.size, L0, c0, a0, p0, rfl, rfl, unhide HP0, unhide FE, ⟨(unhide FI).b0, Below.refl _ _, (unhide FI).bx⟩⟩
      · -- box
        go_simp
        refine hK.out _ _ (hHeld.below ((Below.refl _ _).alloc (Nat.le_refl _) _)) (fun hHeld => ?_)
        clear hK K
        try simp only [Act.put, List.getElem_toArray, List.getElem_cons_succ, List.getElem_cons_zero, List.setIfInBounds_toArray, List.set_cons_zero, List.set_cons_succ]
        have BX : Hid (Bx (w2.alloc (.cells #[.slice none 0 0] 31)) (w2.heap.size) [.slice none 0 0]) := Bx.newAt w2 _ _ _ (by simp)
        have HE := hide ((unhide HE).below (w' := w2.alloc (.cells #[.slice none 0 0] 31)) ((Below.refl _ _).alloc (Nat.le_refl _) _))
        refine wpAnyH_ready (rs := [3]) (by kernel_rfl) (by simp) ?_
        refine (AllReadyH.cons rfl (fun K hK => ?_) AllReadyH.nil)
        go_simp
        go_at_call 9
        refine (unhide HC _).mono ?_
        rintro e w2c ⟨rfl, b2c⟩
        refine hK.out _ _ (hHeld.below b2c) (fun hHeld => ?_)
        clear hK K
        try simp only [Act.put, List.getElem_toArray, List.getElem_cons_succ, List.getElem_cons_zero, List.setIfInBounds_toArray, List.set_cons_zero, List.set_cons_succ]
        have z2c : (w2.heap.size + 1) ≤ w2c.heap.size := by have := b2c.size; first | (simp at this; omega) | omega
        have HE := hide ((unhide HE).below b2c)
        have BX := hide ((unhide BX).below b2c)
        clear b2c
        refine wpAnyH_ready (rs := [4]) (by kernel_rfl) (by simp) ?_
        refine (AllReadyH.cons rfl (fun K hK => ?_) AllReadyH.nil)
        go_simp
        go_at_call 7
        refine (unhide H2 _ _ _ (unhide HE)).mono ?_
        rintro e w3 ⟨L0, c0, a0, p0, hP0, rfl, hE0, b3⟩
        refine hK.out _ _ (hHeld.below b3) (fun hHeld => ?_)
        clear hK K
        try simp only [Act.put, List.getElem_toArray, List.getElem_cons_succ, List.getElem_cons_zero, List.setIfInBounds_toArray, List.set_cons_zero, List.set_cons_succ]
        have z3 : w2c.heap.size ≤ w3.heap.size := by have := b3.size; first | (simp at this; omega) | omega
        have HE := hide ((unhide HE).below b3)
        have BX := hide ((unhide BX).below b3)
        have HE0 := hide hE0
        have HP0 := hide hP0
        have J3 := hide hHeld
        have FE0 : Hid (∀ u, Ea (w3.alloc (.cells #[u] 31)) a0 L0) := fun u => hE0.below ((Below.refl _ _).alloc (Nat.le_refl _) _)
        clear hE0 hP0 b3
        refine wpAnyH_take (i := 5) (v := ?_) rfl (by kernel_rfl) (by kernel_rfl) (by kernel_rfl) (fun _ _ _ h => h) (Or.inl ⟨by rfl, ?_⟩) hHeld ?_
        rotate_left
        · intro V hSw; go_simp; rfl
        simp only [Act.put, List.getElem_toArray, List.getElem_cons_succ, List.getElem_cons_zero, List.setIfInBounds_toArray, List.set_cons_zero, List.set_cons_succ]
        refine wpAnyH_take (i := 6) (v := ?_) rfl (by kernel_rfl) (by kernel_rfl) (by kernel_rfl) (fun _ _ _ h => h) (Or.inl ⟨by rfl, ?_⟩) hHeld ?_
        rotate_left
        · intro V hSw; go_simp; rfl
        simp only [Act.put, List.getElem_toArray, List.getElem_cons_succ, List.getElem_cons_zero, List.setIfInBounds_toArray, List.set_cons_zero, List.set_cons_succ]
        refine wpAnyH_take (i := 7) (v := ?_) rfl (by kernel_rfl) (by kernel_rfl) (by kernel_rfl) (fun _ _ _ h => h) (Or.inl ⟨by rfl, ?_⟩) hHeld ?_
        rotate_left
        · intro V hSw; go_simp; rfl
        simp only [Act.put, List.getElem_toArray, List.getElem_cons_succ, List.getElem_cons_zero, List.setIfInBounds_toArray, List.set_cons_zero, List.set_cons_succ]
        have y1 := (unhide BX).cv
        have y2 := (unhide BX).fz
        have yl := (unhide BX).lt
        have FI : Hid (Iv w w (w3.setCell ⟨w2.heap.size, 0, none⟩ (.slice a0 L0.length p0)) ((w2.heap.size, [.slice a0 L0.length p0]) :: [(w.heap.size + 1, [.int .i64 sl, .int .i64 sv, .int .i64 nc, .string k, .bool t]), (w.heap.size, [.slice a L.length cap])])) := iv_set hHeld (unhide BX) (by omega) (by omega) (fun p hp => by
          simp only [List.mem_cons, List.not_mem_nil, or_false] at hp
          rcases hp with rfl | rfl <;> (simp only; omega))
        have FE := hide (ea_set (u := .slice a0 L0.length p0) (unhide BX) (unhide HE0))
        refine wpAnyH_ready (rs := [9]) (by kernel_rfl) (by simp) ?_
        refine (AllReadyH.cons rfl (fun K hK => ?_) AllReadyH.nil)
        go_simp
        refine hK.out _ _ (by first | exact ⟨(unhide FI).b0, (unhide FI).b3, fun p hp => (unhide FI).bx p (List.mem_cons_of_mem _ hp)⟩) (fun hHeld => ?_)
        clear hK K
        try simp only [Act.put, List.getElem_toArray, List.getElem_cons_succ, List.getElem_cons_zero, List.setIfInBounds_toArray, List.set_cons_zero, List.set_cons_succ]
        refine wpAnyH_take (i := 10) (v := ?_) rfl (by kernel_rfl) (by kernel_rfl) (by kernel_rfl) (fun _ _ _ h => h) (Or.inl ⟨by rfl, ?_⟩) hHeld ?_
        rotate_left
        · intro V hSw; go_simp; rfl
        simp only [Act.put, List.getElem_toArray, List.getElem_cons_succ, List.getElem_cons_zero, List.setIfInBounds_toArray, List.set_cons_zero, List.set_cons_succ]
        refine wpAnyH_done (by kernel_rfl) ?_ _
        refine NoPanic.normal ?_
        clear hHeld
        clear y1 y2
        go_wp2_with fail
        go_meet
        exact ⟨w2.heap.size, L0, c0, a0, p0, rfl, rfl, unhide HP0, unhide FE, ⟨(unhide FI).b0, Below.refl _ _, (unhide FI).bx⟩⟩
    · -- box
      go_simp
      refine hK.out _ _ (hHeld.below ((Below.refl _ _).alloc (Nat.le_refl _) _)) (fun hHeld => ?_)
      clear hK K
      try simp only [Act.put, List.getElem_toArray, List.getElem_cons_succ, List.getElem_cons_zero, List.setIfInBounds_toArray, List.set_cons_zero, List.set_cons_succ]
      have BX : Hid (Bx (w1c.drew.alloc (.cells #[.slice none 0 0] 31)) (w1c.heap.size) [.slice none 0 0]) := Bx.newAt w1c.drew _ _ _ (by simp)
      refine wpAnyH_ready (rs := [1]) (by kernel_rfl) (by simp) ?_
      refine (AllReadyH.cons rfl (fun K hK => ?_) AllReadyH.nil)
      go_simp
      go_at_call 8
      refine (unhide H1 _ hHeld.b0).mono ?_
      rintro e w2 ⟨g2, B2, rfl, hE2, b2⟩
      refine hK.out _ _ (hHeld.below b2) (fun hHeld => ?_)
      clear hK K
      try simp only [Act.put, List.getElem_toArray, List.getElem_cons_succ, List.getElem_cons_zero, List.setIfInBounds_toArray, List.set_cons_zero, List.set_cons_succ]
      have z2 : (w1c.heap.size + 1) ≤ w2.heap.size := by have := b2.size; first | (simp at this; omega) | omega
      have BX := hide ((unhide BX).below b2)
      have HE := hide (En.ea (Or.inr ⟨g2, B2, rfl, hE2⟩ : En _ w2 (some ⟨g2, 0, none⟩) L))
      clear hE2 b2
      refine wpAnyH_ready (rs := [3]) (by kernel_rfl) (by simp) ?_
      refine (AllReadyH.cons rfl (fun K hK => ?_) AllReadyH.nil)
      go_simp
      go_at_call 9
      refine (unhide HC _).mono ?_
      rintro e w2c ⟨rfl, b2c⟩
      refine hK.out _ _ (hHeld.below b2c) (fun hHeld => ?_)
      clear hK K
      try simp only [Act.put, List.getElem_toArray, List.getElem_cons_succ, List.getElem_cons_zero, List.setIfInBounds_toArray, List.set_cons_zero, List.set_cons_succ]
      have z2c : w2.heap.size ≤ w2c.heap.size := by have := b2c.size; first | (simp at this; omega) | omega
      have HE := hide ((unhide HE).below b2c)
      have BX := hide ((unhide BX).below b2c)
      clear b2c
      refine wpAnyH_ready (rs := [4]) (by kernel_rfl) (by simp) ?_
      refine (AllReadyH.cons rfl (fun K hK => ?_) AllReadyH.nil)
      go_simp
      go_at_call 7
      refine (unhide H2 _ _ _ (unhide HE)).mono ?_
      rintro e w3 ⟨L0, c0, a0, p0, hP0, rfl, hE0, b3⟩
      refine hK.out _ _ (hHeld.below b3) (fun hHeld => ?_)
      clear hK K
      try simp only [Act.put, List.getElem_toArray, List.getElem_cons_succ, List.getElem_cons_zero, List.setIfInBounds_toArray, List.set_cons_zero, List.set_cons_succ]
      have z3 : w2c.heap.size ≤ w3.heap.size := by have := b3.size; first | (simp at this; omega) | omega
      have HE := hide ((unhide HE).below b3)
      have BX := hide ((unhide BX).below b3)
      have HE0 := hide hE0
      have HP0 := hide hP0
      have J3 := hide hHeld
      have FE0 : Hid (∀ u, Ea (w3.alloc (.cells #[u] 31)) a0 L0) := fun u => hE0.below ((Below.refl _ _).alloc (Nat.le_refl _) _)
      clear hE0 hP0 b3
      refine wpAnyH_take (i := 5) (v := ?_) rfl (by kernel_rfl) (by kernel_rfl) (by kernel_rfl) (fun _ _ _ h => h) (Or.inl ⟨by rfl, ?_⟩) hHeld ?_
      rotate_left
      · intro V hSw; go_simp; rfl
      simp only [Act.put, List.getElem_toArray, List.getElem_cons_succ, List.getElem_cons_zero, List.setIfInBounds_toArray, List.set_cons_zero, List.set_cons_succ]
      refine wpAnyH_take (i := 6) (v := ?_) rfl (by kernel_rfl) (by kernel_rfl) (by kernel_rfl) (fun _ _ _ h => h) (Or.inl ⟨by rfl, ?_⟩) hHeld ?_
      rotate_left
      · intro V hSw; go_simp; rfl
      simp only [Act.put, List.getElem_toArray, List.getElem_cons_succ, List.getElem_cons_zero, List.setIfInBounds_toArray, List.set_cons_zero, List.set_cons_succ]
      refine wpAnyH_take (i := 7) (v := ?_) rfl (by kernel_rfl) (by kernel_rfl) (by kernel_rfl) (fun _ _ _ h => h) (Or.inl ⟨by rfl, ?_⟩) hHeld ?_
      rotate_left
      · intro V hSw; go_simp; rfl
      simp only [Act.put, List.getElem_toArray, List.getElem_cons_succ, List.getElem_cons_zero, List.setIfInBounds_toArray, List.set_cons_zero, List.set_cons_succ]
      have y1 := (unhide BX).cv
      have y2 := (unhide BX).fz
      have yl := (unhide BX).lt
      have FI : Hid (Iv w w (w3.setCell ⟨w1c.heap.size, 0, none⟩ (.slice a0 L0.length p0)) ((w1c.heap.size, [.slice a0 L0.length p0]) :: [(w.heap.size + 1, [.int .i64 sl, .int .i64 sv, .int .i64 nc, .string k, .bool t]), (w.heap.size, [.slice a L.length cap])])) := iv_set hHeld (unhide BX) (by omega) (by omega) (fun p hp => by
        simp only [List.mem_cons, List.not_mem_nil, or_false] at hp
        rcases hp with rfl | rfl <;> (simp only; omega))
      have FE := hide (ea_set (u := .slice a0 L0.length p0) (unhide BX) (unhide HE0))
      refine wpAnyH_ready (rs := [9]) (by kernel_rfl) (by simp) ?_
      refine (AllReadyH.cons rfl (fun K hK => ?_) AllReadyH.nil)
      go_simp
      refine hK.out _ _ (by first | exact ⟨(unhide FI).b0, (unhide FI).b3, fun p hp => (unhide FI).bx p (List.mem_cons_of_mem _ hp)⟩) (fun hHeld => ?_)
      clear hK K
      try simp only [Act.put, List.getElem_toArray, List.getElem_cons_succ, List.getElem_cons_zero, List.setIfInBounds_toArray, List.set_cons_zero, List.set_cons_succ]
      refine wpAnyH_take (i := 10) (v := ?_) rfl (by kernel_rfl) (by kernel_rfl) (by kernel_rfl) (fun _ _ _ h => h) (Or.inl ⟨by rfl, ?_⟩) hHeld ?_
      rotate_left
      · intro V hSw; go_simp; rfl
      simp only [Act.put, List.getElem_toArray, List.getElem_cons_succ, List.getElem_cons_zero, List.setIfInBounds_toArray, List.set_cons_zero, List.set_cons_succ]
      refine wpAnyH_done (by kernel_rfl) ?_ _
      refine NoPanic.normal ?_
      clear hHeld
      clear y1 y2
      go_wp2_with fail
      go_meet
      exact ⟨w1c.heap.size, L0, c0, a0, p0, rfl, rfl, unhide HP0, unhide FE, ⟨(unhide FI).b0, Below.refl _ _, (unhide FI).bx⟩⟩
  case rest =>
  obtain ⟨b8, L0, c0, a0, p0, rfl, rfl, hP0, hE0, hI0⟩ := hcut
  obtain ⟨w3, hw3⟩ : ∃ w3, w3 = wc := ⟨_, rfl⟩
  subst hw3
  clear J1 l0
  have HE0 := hide hE0
  have HP0 := hide hP0
  have HK0 := hide (in_small hP0 (unhide HK))
  have J3a := hide hI0
  have l8 := (hI0.bx _ List.mem_cons_self).lt
  have l3b := (hI0.bx _ (List.mem_cons_of_mem _ List.mem_cons_self)).lt
  have x3 := (hI0.bx _ (List.mem_cons_of_mem _ (List.mem_cons_of_mem _ List.mem_cons_self))).cv
  dsimp only at l8 l3b x3
  clear hE0 hP0 hI0
  go_wp2_with fail
  refine (unhide H1 _ (unhide J3a).b0).mono ?_
  rintro e w4 ⟨g4, B4, rfl, hE4, b4⟩
  have X4 : Eg w3.heap.size w4.heap.size w4 (some ⟨g4, 0, none⟩) L := En.eg (Or.inr ⟨g4, B4, rfl, hE4⟩)
  have AL4 : Below w4.heap.size w4 (w4.alloc (.cells #[.slice (some ⟨g4, 0, none⟩) L.length L.length] 31)) := (Below.refl _ _).alloc (Nat.le_refl _) _
  have J4 := hide (Iv.push ((unhide J3a).below b4) [.slice (some ⟨g4, 0, none⟩) L.length L.length] 31)
  have HX := hide (X4.below AL4)
  have z4 : w3.heap.size ≤ w4.heap.size := b4.size
  clear hE4 X4 AL4 b4 J3a x3
  go_upto_region 10 with fail
  go_cut [9, 10] (fun s9 s10 wx => ∃ b10 L1 c1 a1 p1 base s, s9 = .pointer (some ⟨b10, 0, none⟩) ∧ s10 = .int .i64 c1 ∧ inP L sl sv nc k t L1 c1 ∧ Eg base s wx a1 L1 ∧ Eg w3.heap.size w4.heap.size wx (some ⟨g4, 0, none⟩) L ∧ Iv w w3 wx ((b10, [.slice a1 L1.length p1]) :: [(w4.heap.size, [.slice (some ⟨g4, 0, none⟩) L.length L.length]), (b8, [.slice a0 L0.length p0]), (w.heap.size + 1, [.int .i64 sl, .int .i64 sv, .int .i64 nc, .string k, .bool t]), (w.heap.size, [.slice a L.length cap])]) ∧ w4.heap.size < base ∧ base ≤ s ∧ s ≤ wx.heap.size ∧ w4.heap.size < b10 ∧ (b10 < base ∨ s ≤ b10))
  case first =>
    refine wp_region_noPanic ?_
    refine wp_region_held_drew (S := fun V => Iv w w3 V [(w4.heap.size, [.slice (some ⟨g4, 0, none⟩) L.length L.length]), (b8, [.slice a0 L0.length p0]), (w.heap.size + 1, [.int .i64 sl, .int .i64 sv, .int .i64 nc, .string k, .bool t]), (w.heap.size, [.slice a L.length cap])]) (by kernel_rfl) ((unhide J4).below (Below.refl _ _).drew) (fun hHeld => ?_)
    have HX := hide ((unhide HX).below (Below.refl _ _).drew)
    refine wpAnyH_take (i := 0) (v := ?_) rfl (by kernel_rfl) (by kernel_rfl) (by kernel_rfl) (fun _ _ _ h => h) (Or.inl ⟨by rfl, ?_⟩) hHeld ?_
    rotate_left
    · intro V hSw; have y1 := (hSw.bx _ List.mem_cons_self).cv; go_simp; rfl
    simp only [Act.put, List.getElem_toArray, List.getElem_cons_zero, List.setIfInBounds_toArray, List.set_cons_zero, List.set_cons_succ]
    refine wpAnyH_take (i := 1) (v := ?_) rfl (by kernel_rfl) (by kernel_rfl) (by kernel_rfl) (fun _ _ _ h => h) (Or.inl ⟨by rfl, ?_⟩) hHeld ?_
    rotate_left
    · intro V hSw; have y1 := (hSw.bx _ (List.mem_cons_of_mem _ (List.mem_cons_of_mem _ List.mem_cons_self))).cv; go_simp; rfl
    simp only [Act.put, List.getElem_toArray, List.getElem_cons_succ, List.getElem_cons_zero, List.setIfInBounds_toArray, List.set_cons_zero, List.set_cons_succ]
    refine wpAnyH_ready (rs := [2, 7]) (by kernel_rfl) (by simp) ?_
    refine (AllReadyH.cons rfl (fun K hK => ?_) (AllReadyH.cons rfl (fun K hK => ?_) AllReadyH.nil))
    · -- call
      go_simp
      go_at_call 9
      refine (unhide HC _).mono ?_
      rintro e w4c ⟨rfl, b4c⟩
      refine hK.out _ _ (hHeld.below b4c) (fun hHeld => ?_)
      clear hK K
      try simp only [Act.put, List.getElem_toArray, List.getElem_cons_succ, List.getElem_cons_zero, List.setIfInBounds_toArray, List.set_cons_zero, List.set_cons_succ]
      have z4c : w4.heap.size + 1 ≤ w4c.heap.size := by have := b4c.size; first | (simp at this; omega) | omega
      have HX := hide ((unhide HX).below b4c)
      clear b4c
      refine wpAnyH_ready (rs := [3, 7]) (by kernel_rfl) (by simp) ?_
      refine (AllReadyH.cons rfl (fun K hK => ?_) (AllReadyH.cons rfl (fun K hK => ?_) AllReadyH.nil))
      · -- call
        go_simp
        go_at_call 10
        refine (unhide H3 _ _ _ (unhide HX).ea).mono ?_
        rintro e w5 ⟨L1, c1, a1, p1, hP1, rfl, hE1, b5⟩
        refine hK.out _ _ (hHeld.below b5) (fun hHeld => ?_)
        clear hK K
        try simp only [Act.put, List.getElem_toArray, List.getElem_cons_succ, List.getElem_cons_zero, List.setIfInBounds_toArray, List.set_cons_zero, List.set_cons_succ]
        have z5 : w4c.heap.size ≤ w5.heap.size := by have := b5.size; first | (simp at this; omega) | omega
        have HX := hide ((unhide HX).below b5)
        have hE1' : En w4c.heap.size w5 a1 L1 := by simpa using hE1
        have HG := hide (En.eg hE1')
        have HP1 := hide hP1
        have J5 := hide hHeld
        have FG0 : Hid (∀ u, Eg w4c.heap.size w5.heap.size (w5.alloc (.cells #[u] 31)) a1 L1 ∧ Eg w3.heap.size w4.heap.size (w5.alloc (.cells #[u] 31)) (some ⟨g4, 0, none⟩) L) := fun u => ⟨(unhide HG).below ((Below.refl _ _).alloc (Nat.le_refl _) _), (unhide HX).below ((Below.refl _ _).alloc (Nat.le_refl _) _)⟩
        have zb : w4c.heap.size ≤ w5.heap.size := by have := b5.size; first | (simp at this; omega) | omega
        clear hE1 hE1' hP1 b5
        refine wpAnyH_take (i := 4) (v := ?_) rfl (by kernel_rfl) (by kernel_rfl) (by kernel_rfl) (fun _ _ _ h => h) (Or.inl ⟨by rfl, ?_⟩) hHeld ?_
        rotate_left
        · intro V hSw; go_simp; rfl
        simp only [Act.put, List.getElem_toArray, List.getElem_cons_succ, List.getElem_cons_zero, List.setIfInBounds_toArray, List.set_cons_zero, List.set_cons_succ]
        refine wpAnyH_take (i := 5) (v := ?_) rfl (by kernel_rfl) (by kernel_rfl) (by kernel_rfl) (fun _ _ _ h => h) (Or.inl ⟨by rfl, ?_⟩) hHeld ?_
        rotate_left
        · intro V hSw; go_simp; rfl
        simp only [Act.put, List.getElem_toArray, List.getElem_cons_succ, List.getElem_cons_zero, List.setIfInBounds_toArray, List.set_cons_zero, List.set_cons_succ]
        refine wpAnyH_take (i := 6) (v := ?_) rfl (by kernel_rfl) (by kernel_rfl) (by kernel_rfl) (fun _ _ _ h => h) (Or.inl ⟨by rfl, ?_⟩) hHeld ?_
        rotate_left
        · intro V hSw; go_simp; rfl
        simp only [Act.put, List.getElem_toArray, List.getElem_cons_succ, List.getElem_cons_zero, List.setIfInBounds_toArray, List.set_cons_zero, List.set_cons_succ]
        refine wpAnyH_ready (rs := [7]) (by kernel_rfl) (by simp) ?_
        refine (AllReadyH.cons rfl (fun K hK => ?_) AllReadyH.nil)
        go_simp
        refine hK.out _ _ (hHeld.below ((Below.refl _ _).alloc (Nat.le_refl _) _)) (fun hHeld => ?_)
        clear hK K
        try simp only [Act.put, List.getElem_toArray, List.getElem_cons_succ, List.getElem_cons_zero, List.setIfInBounds_toArray, List.set_cons_zero, List.set_cons_succ]
        have BX : Hid (Bx (w5.alloc (.cells #[.slice none 0 0] 31)) (w5.heap.size) [.slice none 0 0]) := Bx.newAt w5 _ _ _ (by simp)
        have HX := hide ((unhide HX).below (w' := w5.alloc (.cells #[.slice none 0 0] 31)) ((Below.refl _ _).alloc (Nat.le_refl _) _))
        have HG := hide ((unhide HG).below (w' := w5.alloc (.cells #[.slice none 0 0] 31)) ((Below.refl _ _).alloc (Nat.le_refl _) _))
        have y1 := (unhide BX).cv
        have y2 := (unhide BX).fz
        have yl := (unhide BX).lt
        have FI : Hid (Iv w w3 ((w5.alloc (.cells #[.slice none 0 0] 31)).setCell ⟨w5.heap.size, 0, none⟩ (.slice a1 L1.length p1)) ((w5.heap.size, [.slice a1 L1.length p1]) :: [(w4.heap.size, [.slice (some ⟨g4, 0, none⟩) L.length L.length]), (b8, [.slice a0 L0.length p0]), (w.heap.size + 1, [.int .i64 sl, .int .i64 sv, .int .i64 nc, .string k, .bool t]), (w.heap.size, [.slice a L.length cap])])) := iv_set hHeld (unhide BX) (by omega) (by omega) (fun p hp => by
          simp only [List.mem_cons, List.not_mem_nil, or_false] at hp
          rcases hp with rfl | rfl | rfl | rfl <;> (simp only; omega))
        have FG := hide (eg_set (b := w5.heap.size) (u := .slice a1 L1.length p1) (unhide HG) (by omega))
        have FX := hide (eg_set (b := w5.heap.size) (u := .slice a1 L1.length p1) (unhide HX) (by omega))
        have FI2 : Hid (Iv w w3 (w5.alloc (.cells #[.slice a1 L1.length p1] 31)) ((w5.heap.size, [.slice a1 L1.length p1]) :: [(w4.heap.size, [.slice (some ⟨g4, 0, none⟩) L.length L.length]), (b8, [.slice a0 L0.length p0]), (w.heap.size + 1, [.int .i64 sl, .int .i64 sv, .int .i64 nc, .string k, .bool t]), (w.heap.size, [.slice a L.length cap])])) := Iv.push (unhide J5) [.slice a1 L1.length p1] 31
        have FG2 := hide (unhide FG0 (.slice a1 L1.length p1)).1
        have FX2 := hide (unhide FG0 (.slice a1 L1.length p1)).2
        refine wpAnyH_ready (rs := [8]) (by kernel_rfl) (by simp) ?_
        refine (AllReadyH.cons rfl (fun K hK => ?_) AllReadyH.nil)
        go_simp
        refine hK.out _ _ (by first | exact ⟨(unhide FI).b0, (unhide FI).b3, fun p hp => (unhide FI).bx p (List.mem_cons_of_mem _ hp)⟩ | exact ⟨(unhide FI2).b0, (unhide FI2).b3, fun p hp => (unhide FI2).bx p (List.mem_cons_of_mem _ hp)⟩) (fun hHeld => ?_)
        clear hK K
        try simp only [Act.put, List.getElem_toArray, List.getElem_cons_succ, List.getElem_cons_zero, List.setIfInBounds_toArray, List.set_cons_zero, List.set_cons_succ]
        refine wpAnyH_take (i := 9) (v := ?_) rfl (by kernel_rfl) (by kernel_rfl) (by kernel_rfl) (fun _ _ _ h => h) (Or.inl ⟨by rfl, ?_⟩) hHeld ?_
        rotate_left
        · intro V hSw; go_simp; rfl
        simp only [Act.put, List.getElem_toArray, List.getElem_cons_succ, List.getElem_cons_zero, List.setIfInBounds_toArray, List.set_cons_zero, List.set_cons_succ]
        refine wpAnyH_done (by kernel_rfl) ?_ _
        refine NoPanic.normal ?_
        clear hHeld
        clear y1 y2
        go_wp2_with fail
        go_meet
        first | exact ⟨w5.heap.size, L1, c1, a1, p1, _, _, rfl, rfl, unhide HP1, unhide FG2, unhide FX2, unhide FI2, (by omega), (by omega), (by first | (simp; done) | (simp; omega) | omega), (by omega), (by omega)⟩ | exact ⟨w5.heap.size, L1, c1, a1, p1, _, _, rfl, rfl, unhide HP1, unhide FG, unhide FX, unhide FI, (by omega), (by omega), (by first | (simp; done) | (simp; omega) | omega), (by omega), (by omega)⟩
      · -- box
        go_simp
        refine hK.out _ _ (hHeld.below ((Below.refl _ _).alloc (Nat.le_refl _) _)) (fun hHeld => ?_)
        clear hK K
        try simp only [Act.put, List.getElem_toArray, List.getElem_cons_succ, List.getElem_cons_zero, List.setIfInBounds_toArray, List.set_cons_zero, List.set_cons_succ]
        have BX : Hid (Bx (w4c.alloc (.cells #[.slice none 0 0] 31)) (w4c.heap.size) [.slice none 0 0]) := Bx.newAt w4c _ _ _ (by simp)
        have HX := hide ((unhide HX).below (w' := w4c.alloc (.cells #[.slice none 0 0] 31)) ((Below.refl _ _).alloc (Nat.le_refl _) _))
        refine wpAnyH_ready (rs := [3]) (by kernel_rfl) (by simp) ?_
        refine (AllReadyH.cons rfl (fun K hK => ?_) AllReadyH.nil)
        go_simp
        go_at_call 10
        refine (unhide H3 _ _ _ (unhide HX).ea).mono ?_
        rintro e w5 ⟨L1, c1, a1, p1, hP1, rfl, hE1, b5⟩
        refine hK.out _ _ (hHeld.below b5) (fun hHeld => ?_)
        clear hK K
        try simp only [Act.put, List.getElem_toArray, List.getElem_cons_succ, List.getElem_cons_zero, List.setIfInBounds_toArray, List.set_cons_zero, List.set_cons_succ]
        have z5 : (w4c.heap.size + 1) ≤ w5.heap.size := by have := b5.size; first | (simp at this; omega) | omega
        have HX := hide ((unhide HX).below b5)
        have BX := hide ((unhide BX).below b5)
        have hE1' : En (w4c.heap.size + 1) w5 a1 L1 := by simpa using hE1
        have HG := hide (En.eg hE1')
        have HP1 := hide hP1
        have J5 := hide hHeld
        have FG0 : Hid (∀ u, Eg (w4c.heap.size + 1) w5.heap.size (w5.alloc (.cells #[u] 31)) a1 L1 ∧ Eg w3.heap.size w4.heap.size (w5.alloc (.cells #[u] 31)) (some ⟨g4, 0, none⟩) L) := fun u => ⟨(unhide HG).below ((Below.refl _ _).alloc (Nat.le_refl _) _), (unhide HX).below ((Below.refl _ _).alloc (Nat.le_refl _) _)⟩
        have zb : (w4c.heap.size + 1) ≤ w5.heap.size := by have := b5.size; first | (simp at this; omega) | omega
        clear hE1 hE1' hP1 b5
        refine wpAnyH_take (i := 4) (v := ?_) rfl (by kernel_rfl) (by kernel_rfl) (by kernel_rfl) (fun _ _ _ h => h) (Or.inl ⟨by rfl, ?_⟩) hHeld ?_
        rotate_left
        · intro V hSw; go_simp; rfl
        simp only [Act.put, List.getElem_toArray, List.getElem_cons_succ, List.getElem_cons_zero, List.setIfInBounds_toArray, List.set_cons_zero, List.set_cons_succ]
        refine wpAnyH_take (i := 5) (v := ?_) rfl (by kernel_rfl) (by kernel_rfl) (by kernel_rfl) (fun _ _ _ h => h) (Or.inl ⟨by rfl, ?_⟩) hHeld ?_
        rotate_left
        · intro V hSw; go_simp; rfl
        simp only [Act.put, List.getElem_toArray, List.getElem_cons_succ, List.getElem_cons_zero, List.setIfInBounds_toArray, List.set_cons_zero, List.set_cons_succ]
        refine wpAnyH_take (i := 6) (v := ?_) rfl (by kernel_rfl) (by kernel_rfl) (by kernel_rfl) (fun _ _ _ h => h) (Or.inl ⟨by rfl, ?_⟩) hHeld ?_
        rotate_left
        · intro V hSw; go_simp; rfl
        simp only [Act.put, List.getElem_toArray, List.getElem_cons_succ, List.getElem_cons_zero, List.setIfInBounds_toArray, List.set_cons_zero, List.set_cons_succ]
        have y1 := (unhide BX).cv
        have y2 := (unhide BX).fz
        have yl := (unhide BX).lt
        have FI : Hid (Iv w w3 (w5.setCell ⟨w4c.heap.size, 0, none⟩ (.slice a1 L1.length p1)) ((w4c.heap.size, [.slice a1 L1.length p1]) :: [(w4.heap.size, [.slice (some ⟨g4, 0, none⟩) L.length L.length]), (b8, [.slice a0 L0.length p0]), (w.heap.size + 1, [.int .i64 sl, .int .i64 sv, .int .i64 nc, .string k, .bool t]), (w.heap.size, [.slice a L.length cap])])) := iv_set hHeld (unhide BX) (by omega) (by omega) (fun p hp => by
          simp only [List.mem_cons, List.not_mem_nil, or_false] at hp
          rcases hp with rfl | rfl | rfl | rfl <;> (simp only; omega))
        have FG := hide (eg_set (b := w4c.heap.size) (u := .slice a1 L1.length p1) (unhide HG) (by omega))
        have FX := hide (eg_set (b := w4c.heap.size) (u := .slice a1 L1.length p1) (unhide HX) (by omega))
        refine wpAnyH_ready (rs := [8]) (by kernel_rfl) (by simp) ?_
        refine (AllReadyH.cons rfl (fun K hK => ?_) AllReadyH.nil)
        go_simp
        refine hK.out _ _ (by first | exact ⟨(unhide FI).b0, (unhide FI).b3, fun p hp => (unhide FI).bx p (List.mem_cons_of_mem _ hp)⟩) (fun hHeld => ?_)
        clear hK K
        try simp only [Act.put, List.getElem_toArray, List.getElem_cons_succ, List.getElem_cons_zero, List.setIfInBounds_toArray, List.set_cons_zero, List.set_cons_succ]
        refine wpAnyH_take (i := 9) (v := ?_) rfl (by kernel_rfl) (by kernel_rfl) (by kernel_rfl) (fun _ _ _ h => h) (Or.inl ⟨by rfl, ?_⟩) hHeld ?_
        rotate_left
        · intro V hSw; go_simp; rfl
        simp only [Act.put, List.getElem_toArray, List.getElem_cons_succ, List.getElem_cons_zero, List.setIfInBounds_toArray, List.set_cons_zero, List.set_cons_succ]
        refine wpAnyH_done (by kernel_rfl) ?_ _
        refine NoPanic.normal ?_
        clear hHeld
        clear y1 y2
        go_wp2_with fail
        go_meet
        exact ⟨w4c.heap.size, L1, c1, a1, p1, _, _, rfl, rfl, unhide HP1, unhide FG, unhide FX, unhide FI, (by omega), (by omega), (by first | (simp; done) | (simp; omega) | omega), (by omega), (by omega)⟩
    · -- box
      go_simp
      refine hK.out _ _ (hHeld.below ((Below.refl _ _).alloc (Nat.le_refl _) _)) (fun hHeld => ?_)
      clear hK K
      try simp only [Act.put, List.getElem_toArray, List.getElem_cons_succ, List.getElem_cons_zero, List.setIfInBounds_toArray, List.set_cons_zero, List.set_cons_succ]
      have BX : Hid (Bx ((w4.alloc (.cells #[.slice (some ⟨g4, 0, none⟩) L.length L.length] 31)).drew.alloc (.cells #[.slice none 0 0] 31)) (w4.heap.size + 1) [.slice none 0 0]) := Bx.newAt (w4.alloc (.cells #[.slice (some ⟨g4, 0, none⟩) L.length L.length] 31)).drew _ _ _ (by simp)
      have HX := hide ((unhide HX).below (w' := (w4.alloc (.cells #[.slice (some ⟨g4, 0, none⟩) L.length L.length] 31)).drew.alloc (.cells #[.slice none 0 0] 31)) ((Below.refl _ _).alloc (Nat.le_refl _) _))
      refine wpAnyH_ready (rs := [2]) (by kernel_rfl) (by simp) ?_
      refine (AllReadyH.cons rfl (fun K hK => ?_) AllReadyH.nil)
      go_simp
      go_at_call 9
      refine (unhide HC _).mono ?_
      rintro e w4c ⟨rfl, b4c⟩
      refine hK.out _ _ (hHeld.below b4c) (fun hHeld => ?_)
      clear hK K
      try simp only [Act.put, List.getElem_toArray, List.getElem_cons_succ, List.getElem_cons_zero, List.setIfInBounds_toArray, List.set_cons_zero, List.set_cons_succ]
      have z4c : (w4.heap.size + 1 + 1) ≤ w4c.heap.size := by have := b4c.size; first | (simp at this; omega) | omega
      have HX := hide ((unhide HX).below b4c)
      have BX := hide ((unhide BX).below b4c)
      clear b4c
      refine wpAnyH_ready (rs := [3]) (by kernel_rfl) (by simp) ?_
      refine (AllReadyH.cons rfl (fun K hK => ?_) AllReadyH.nil)
      go_simp
      go_at_call 10
      refine (unhide H3 _ _ _ (unhide HX).ea).mono ?_
      rintro e w5 ⟨L1, c1, a1, p1, hP1, rfl, hE1, b5⟩
      refine hK.out _ _ (hHeld.below b5) (fun hHeld => ?_)
      clear hK K
      try simp only [Act.put, List.getElem_toArray, List.getElem_cons_succ, List.getElem_cons_zero, List.setIfInBounds_toArray, List.set_cons_zero, List.set_cons_succ]
      have z5 : w4c.heap.size ≤ w5.heap.size := by have := b5.size; first | (simp at this; omega) | omega
      have HX := hide ((unhide HX).below b5)
      have BX := hide ((unhide BX).below b5)
      have hE1' : En w4c.heap.size w5 a1 L1 := by simpa using hE1
      have HG := hide (En.eg hE1')
      have HP1 := hide hP1
      have J5 := hide hHeld
      have FG0 : Hid (∀ u, Eg w4c.heap.size w5.heap.size (w5.alloc (.cells #[u] 31)) a1 L1 ∧ Eg w3.heap.size w4.heap.size (w5.alloc (.cells #[u] 31)) (some ⟨g4, 0, none⟩) L) := fun u => ⟨(unhide HG).below ((Below.refl _ _).alloc (Nat.le_refl _) _), (unhide HX).below ((Below.refl _ _).alloc (Nat.le_refl _) _)⟩
      have zb : w4c.heap.size ≤ w5.heap.size := by have := b5.size; first | (simp at this; omega) | omega
      clear hE1 hE1' hP1 b5
      refine wpAnyH_take (i := 4) (v := ?_) rfl (by kernel_rfl) (by kernel_rfl) (by kernel_rfl) (fun _ _ _ h => h) (Or.inl ⟨by rfl, ?_⟩) hHeld ?_
      rotate_left
      · intro V hSw; go_simp; rfl
      simp only [Act.put, List.getElem_toArray, List.getElem_cons_succ, List.getElem_cons_zero, List.setIfInBounds_toArray, List.set_cons_zero, List.set_cons_succ]
      refine wpAnyH_take (i := 5) (v := ?_) rfl (by kernel_rfl) (by kernel_rfl) (by kernel_rfl) (fun _ _ _ h => h) (Or.inl ⟨by rfl, ?_⟩) hHeld ?_
      rotate_left
      · intro V hSw; go_simp; rfl
      simp only [Act.put, List.getElem_toArray, List.getElem_cons_succ, List.getElem_cons_zero, List.setIfInBounds_toArray, List.set_cons_zero, List.set_cons_succ]
      refine wpAnyH_take (i := 6) (v := ?_) rfl (by kernel_rfl) (by kernel_rfl) (by kernel_rfl) (fun _ _ _ h => h) (Or.inl ⟨by rfl, ?_⟩) hHeld ?_
      rotate_left
      · intro V hSw; go_simp; rfl
      simp only [Act.put, List.getElem_toArray, List.getElem_cons_succ, List.getElem_cons_zero, List.setIfInBounds_toArray, List.set_cons_zero, List.set_cons_succ]
      have y1 := (unhide BX).cv
      have y2 := (unhide BX).fz
      have yl := (unhide BX).lt
      have FI : Hid (Iv w w3 (w5.setCell ⟨w4.heap.size + 1, 0, none⟩ (.slice a1 L1.length p1)) ((w4.heap.size + 1, [.slice a1 L1.length p1]) :: [(w4.heap.size, [.slice (some ⟨g4, 0, none⟩) L.length L.length]), (b8, [.slice a0 L0.length p0]), (w.heap.size + 1, [.int .i64 sl, .int .i64 sv, .int .i64 nc, .string k, .bool t]), (w.heap.size, [.slice a L.length cap])])) := iv_set hHeld (unhide BX) (by omega) (by omega) (fun p hp => by
        simp only [List.mem_cons, List.not_mem_nil, or_false] at hp
        rcases hp with rfl | rfl | rfl | rfl <;> (simp only; omega))
      have FG := hide (eg_set (b := w4.heap.size + 1) (u := .slice a1 L1.length p1) (unhide HG) (by omega))
      have FX := hide (eg_set (b := w4.heap.size + 1) (u := .slice a1 L1.length p1) (unhide HX) (by omega))
      refine wpAnyH_ready (rs := [8]) (by kernel_rfl) (by simp) ?_
      refine (AllReadyH.cons rfl (fun K hK => ?_) AllReadyH.nil)
      go_simp
      refine hK.out _ _ (by first | exact ⟨(unhide FI).b0, (unhide FI).b3, fun p hp => (unhide FI).bx p (List.mem_cons_of_mem _ hp)⟩) (fun hHeld => ?_)
      clear hK K
      try simp only [Act.put, List.getElem_toArray, List.getElem_cons_succ, List.getElem_cons_zero, List.setIfInBounds_toArray, List.set_cons_zero, List.set_cons_succ]
      refine wpAnyH_take (i := 9) (v := ?_) rfl (by kernel_rfl) (by kernel_rfl) (by kernel_rfl) (fun _ _ _ h => h) (Or.inl ⟨by rfl, ?_⟩) hHeld ?_
      rotate_left
      · intro V hSw; go_simp; rfl
      simp only [Act.put, List.getElem_toArray, List.getElem_cons_succ, List.getElem_cons_zero, List.setIfInBounds_toArray, List.set_cons_zero, List.set_cons_succ]
      refine wpAnyH_done (by kernel_rfl) ?_ _
      refine NoPanic.normal ?_
      clear hHeld
      clear y1 y2
      go_wp2_with fail
      go_meet
      exact ⟨w4.heap.size + 1, L1, c1, a1, p1, _, _, rfl, rfl, unhide HP1, unhide FG, unhide FX, unhide FI, (by omega), (by omega), (by first | (simp; done) | (simp; omega) | omega), (by omega), (by omega)⟩
  case rest =>
  obtain ⟨b10, L1, c1, a1, p1, base, s, rfl, rfl, hP1, hG5, hX5, hI5, k1, k2, zs5, k4, k5⟩ := hcut
  obtain ⟨w5, hw5⟩ : ∃ w5, w5 = wc := ⟨_, rfl⟩
  subst hw5
  obtain ⟨e1, e2⟩ := inP_uniq hP1 (unhide HP0)
  subst e1 e2
  have HG5 := hide hG5
  have HX5 := hide hX5
  have J5 := hide hI5
  have H5 := hide (fun a1 a2 c1 c2 W (h1 : Ea W a1 L1) (h2 : Ea W a2 L1) => eqTb a1 a2 c1 c2 L1 W (unhide HK0).1 (unhide HK0).2.1 h1 h2)
  have x5 := ((unhide J5).bx _ (List.mem_cons_self)).cv
  have y5 := ((unhide J5).bx _ (List.mem_cons_of_mem _ (List.mem_cons_of_mem _ List.mem_cons_self))).cv
  have l5 := ((unhide J5).bx _ (List.mem_cons_of_mem _ (List.mem_cons_of_mem _ List.mem_cons_self))).lt
  have HP9 := hide hP1
  clear hG5 hX5 hI5 J4 HX hP1 HP0
  go_wp2_with fail
  refine (unhide H5 _ _ _ _ _ (unhide HG5).ea ((unhide HE0).below (unhide J5).b3)).mono ?_
  rintro e w6 ⟨rfl, b6⟩
  have zs6 : s ≤ w6.heap.size := Nat.le_trans zs5 b6.size
  have HG6 := hide ((unhide HG5).below b6)
  have HX6 := hide ((unhide HX5).below b6)
  have J6 := hide ((unhide J5).below b6)
  have x6 := ((unhide J6).bx _ (List.mem_cons_of_mem _ List.mem_cons_self)).cv
  have y6 := ((unhide J6).bx _ (List.mem_cons_of_mem _ (List.mem_cons_of_mem _ (List.mem_cons_of_mem _ (List.mem_cons_of_mem _ List.mem_cons_self))))).cv
  clear b6 x5 y5 l5 HG5 HX5 J5
  go_wp2_with fail
  have DR := hide ((unhide J6).below (Below.refl _ _).drew)
  have HXd := hide ((unhide HX6).below (Below.refl _ _).drew)
  have HGd := hide ((unhide HG6).below (Below.refl _ _).drew)
  have yl := ((unhide J6).bx _ (List.mem_cons_of_mem _ List.mem_cons_self)).lt
  clear HG6 HX6
  go_region_with (first | (go_at_call 8; refine (unhide H1 _ (unhide DR).b0).mono ?_; rintro e w7 ⟨g7, B7, rfl, hE7, b7⟩; have x7 := (((unhide DR).below b7).bx _ (List.mem_cons_of_mem _ List.mem_cons_self)).cv) | (go_at_call 11; refine (unhide H4 _ _ _ _ _ ((unhide HXd).ea.below b7) (En.ea (Or.inr ⟨g7, B7, rfl, hE7⟩))).mono ?_; rintro e w8 ⟨rfl, b8q⟩))
  all_goals
    have zs8 : s ≤ w8.heap.size := Nat.le_trans (Nat.le_trans (by simpa using zs6) b7.size) b8q.size
    have J8 := hide (((unhide DR).below b7).below b8q)
    have HX8 := hide (((unhide HXd).below b7).below b8q)
    have HG8 := hide (((unhide HGd).below b7).below b8q)
    clear hE7 b7 b8q x7 x6 y6 J6 DR HXd HGd yl
    have x8 := ((unhide J8).bx _ (List.mem_cons_of_mem _ List.mem_cons_self)).cv
    have hb8 : w3.heap.size ≤ w8.heap.size := (unhide J8).b3.size
    have hk9 : (0 : Int) ≤ (kA 1 L L.length : Int) := by omega
    have MX := hide (markEg w3.heap.size w4.heap.size L.length (some ⟨g4, 0, none⟩) L w8 (unhide HK) hb8 (unhide HX8))
    generalize kA 1 L L.length = kx at *
    go_wp2_with fail
    refine (unhide MX).mono ?_
    rintro e w9 ⟨rfl, hx9, q9⟩
    have zs9 : s ≤ w9.heap.size := Nat.le_trans zs8 q9.size
    have J9 := hide ((unhide J8).mark q9 (fun q hq => ⟨by omega, by omega⟩) (fun p hp => by
      simp only [List.mem_cons, List.not_mem_nil, or_false] at hp
      rcases hp with rfl | rfl | rfl | rfl | rfl <;> (simp only; omega)))
    have HG9 := hide ((unhide HG8).kq q9 (fun q hq => by omega))
    clear hx9 q9 x8 hb8 MX HX8 HG8 J8
    have x9 := ((unhide J9).bx _ (List.mem_cons_self)).cv
    have y9 := ((unhide J9).bx _ (List.mem_cons_of_mem _ (List.mem_cons_of_mem _ List.mem_cons_self))).cv
    go_wp2_with fail
    refine (unhide H5 _ _ _ _ _ (unhide HG9).ea ((unhide HE0).below (unhide J9).b3)).mono ?_
    rintro e w10 ⟨rfl, b10q⟩
    have zs10 : s ≤ w10.heap.size := Nat.le_trans zs9 b10q.size
    have HG10 := hide ((unhide HG9).below b10q)
    have J10 := hide ((unhide J9).below b10q)
    clear b10q x9 y9 J9 HG9
    have x10 := ((unhide J10).bx _ (List.mem_cons_self)).cv
    have l10 := ((unhide J10).bx _ (List.mem_cons_self)).lt
    have MG := hide (markEg base s p1 a1 L1 w10 (unhide HK0) (by omega) (unhide HG10))
    have HH := hide (fun W (hW : Eg base s W a1 (Lm 1 L1 L1.length)) => heldEg base s p1 a1 L1 W (unhide HK0) hW)
    have hk10 : (0 : Int) ≤ (kA 1 L1 L1.length : Int) := by omega
    generalize kA 1 L1 L1.length = kg at *
    go_wp2_with fail
    refine (unhide MG).mono ?_
    rintro e w11 ⟨rfl, hg11, q11⟩
    have zs11 : s ≤ w11.heap.size := Nat.le_trans zs10 q11.size
    have J11 := hide ((unhide J10).mark q11 (fun q hq => ⟨by omega, by omega⟩) (fun p hp => by
      simp only [List.mem_cons, List.not_mem_nil, or_false] at hp
      rcases hp with rfl | rfl | rfl | rfl | rfl <;> (simp only; omega)))
    have HG11 := hide hg11
    clear hg11 q11 x10 l10 MG HG10 J10
    have x11 := ((unhide J11).bx _ (List.mem_cons_self)).cv
    go_wp2_with fail
    refine (unhide HH _ (unhide HG11)).mono ?_
    rintro e w12 ⟨rfl, b12⟩
    have zs12 : s ≤ w12.heap.size := Nat.le_trans zs11 b12.size
    have HG12 := hide ((unhide HG11).below b12)
    have J12 := hide ((unhide J11).below b12)
    clear b12 x11 HG11 J11
    have zw : w.heap.size + 1 < w3.heap.size := l3b
    have z12 : w3.heap.size ≤ w12.heap.size := (unhide J12).b3.size
    have q12a := ((unhide J12).bx _ List.mem_cons_self).lt
    have q12b := ((unhide J12).bx _ (List.mem_cons_of_mem _ List.mem_cons_self)).lt
    dsimp only at q12a q12b
    go_upto_region 27 with fail
    go_cut [14, 15] (fun s14 s15 wx => ∃ b14 L2 c2 a2 p2, s14 = .pointer (some ⟨b14, 0, none⟩) ∧ s15 = .int .i64 c2 ∧ inP L sl sv nc k t L2 c2 ∧ Ea wx a2 L2 ∧ Eg base s wx a1 (Lm 1 L1 L1.length) ∧ Iv w w3 wx ((b14, [.slice a2 L2.length p2]) :: [(b10, [.slice a1 L1.length p1]), (w4.heap.size, [.slice (some ⟨g4, 0, none⟩) L.length L.length]), (b8, [.slice a0 L1.length p0]), (w.heap.size + 1, [.int .i64 sl, .int .i64 sv, .int .i64 nc, .string k, .bool t]), (w.heap.size, [.slice a L.length cap])]))
    case first =>
      refine wp_region_noPanic ?_
      refine wp_region_held_drew (S := fun V => Iv w w3 V [(b10, [.slice a1 L1.length p1]), (w4.heap.size, [.slice (some ⟨g4, 0, none⟩) L.length L.length]), (b8, [.slice a0 L1.length p0]), (w.heap.size + 1, [.int .i64 sl, .int .i64 sv, .int .i64 nc, .string k, .bool t]), (w.heap.size, [.slice a L.length cap])]) (by kernel_rfl) ((unhide J12).below (Below.refl _ _).drew) (fun hHeld => ?_)
      have HG12 := hide ((unhide HG12).below (Below.refl _ _).drew)
      refine wpAnyH_take (i := 0) (v := ?_) rfl (by kernel_rfl) (by kernel_rfl) (by kernel_rfl) (fun _ _ _ h => h) (Or.inl ⟨by rfl, ?_⟩) hHeld ?_
      rotate_left
      · intro V hSw; have y1 := (hSw.bx _ (List.mem_cons_of_mem _ (List.mem_cons_of_mem _ (List.mem_cons_of_mem _ (List.mem_cons_of_mem _ List.mem_cons_self))))).cv; go_simp; rfl
      simp only [Act.put, List.getElem_toArray, List.getElem_cons_zero, List.setIfInBounds_toArray, List.set_cons_zero, List.set_cons_succ]
      refine wpAnyH_take (i := 2) (v := ?_) rfl (by kernel_rfl) (by kernel_rfl) (by kernel_rfl) (fun _ _ _ h => h) (Or.inl ⟨by rfl, ?_⟩) hHeld ?_
      rotate_left
      · intro V hSw; have y1 := (hSw.bx _ (List.mem_cons_of_mem _ (List.mem_cons_of_mem _ (List.mem_cons_of_mem _ List.mem_cons_self)))).cv; go_simp; rfl
      simp only [Act.put, List.getElem_toArray, List.getElem_cons_succ, List.getElem_cons_zero, List.setIfInBounds_toArray, List.set_cons_zero, List.set_cons_succ]
      refine wpAnyH_ready (rs := [1, 8]) (by kernel_rfl) (by simp) ?_
      refine (AllReadyH.cons rfl (fun K hK => ?_) (AllReadyH.cons rfl (fun K hK => ?_) AllReadyH.nil))
      · -- call
        go_simp
        go_at_call 8
        refine (unhide H1 _ hHeld.b0).mono ?_
        rintro e w13 ⟨g13, B13, rfl, hE13, b13⟩
        refine hK.out _ _ (hHeld.below b13) (fun hHeld => ?_)
        clear hK K
        try simp only [Act.put, List.getElem_toArray, List.getElem_cons_succ, List.getElem_cons_zero, List.setIfInBounds_toArray, List.set_cons_zero, List.set_cons_succ]
        have z13 : w12.heap.size ≤ w13.heap.size := by have := b13.size; first | (simp at this; omega) | omega
        have HG12 := hide ((unhide HG12).below b13)
        have HE := hide (En.ea (Or.inr ⟨g13, B13, rfl, hE13⟩ : En _ w13 (some ⟨g13, 0, none⟩) L))
        clear hE13 b13
        refine wpAnyH_ready (rs := [3, 8]) (by kernel_rfl) (by simp) ?_
        refine (AllReadyH.cons rfl (fun K hK => ?_) (AllReadyH.cons rfl (fun K hK => ?_) AllReadyH.nil))
        · -- call
          go_simp
          go_at_call 9
          refine (unhide HC _).mono ?_
          rintro e w13c ⟨rfl, b13c⟩
          refine hK.out _ _ (hHeld.below b13c) (fun hHeld => ?_)
          clear hK K
          try simp only [Act.put, List.getElem_toArray, List.getElem_cons_succ, List.getElem_cons_zero, List.setIfInBounds_toArray, List.set_cons_zero, List.set_cons_succ]
          have z13c : w13.heap.size ≤ w13c.heap.size := by have := b13c.size; first | (simp at this; omega) | omega
          have HG12 := hide ((unhide HG12).below b13c)
          have HE := hide ((unhide HE).below b13c)
          clear b13c
          refine wpAnyH_ready (rs := [4, 8]) (by kernel_rfl) (by simp) ?_
          refine (AllReadyH.cons rfl (fun K hK => ?_) (AllReadyH.cons rfl (fun K hK => ?_) AllReadyH.nil))
          · -- call
            go_simp
            go_at_call 10
            refine (unhide H3 _ _ _ (unhide HE)).mono ?_
            rintro e w14 ⟨L2, c2, a2, p2, hP2, rfl, hE2, b14⟩
            refine hK.out _ _ (hHeld.below b14) (fun hHeld => ?_)
            clear hK K
            try simp only [Act.put, List.getElem_toArray, List.getElem_cons_succ, List.getElem_cons_zero, List.setIfInBounds_toArray, List.set_cons_zero, List.set_cons_succ]
            have z14 : w13c.heap.size ≤ w14.heap.size := by have := b14.size; first | (simp at this; omega) | omega
            have HG12 := hide ((unhide HG12).below b14)
            have HE := hide ((unhide HE).below b14)
            have HE2 := hide hE2.ea
            have HP2 := hide hP2
            have J14 := hide hHeld
            have FE0 : Hid (∀ u, Ea (w14.alloc (.cells #[u] 31)) a2 L2 ∧ Eg base s (w14.alloc (.cells #[u] 31)) a1 (Lm 1 L1 L1.length)) := fun u => ⟨hE2.ea.below ((Below.refl _ _).alloc (Nat.le_refl _) _), (unhide HG12).below ((Below.refl _ _).alloc (Nat.le_refl _) _)⟩
            clear hE2 hP2 b14
            refine wpAnyH_take (i := 5) (v := ?_) rfl (by kernel_rfl) (by kernel_rfl) (by kernel_rfl) (fun _ _ _ h => h) (Or.inl ⟨by rfl, ?_⟩) hHeld ?_
            rotate_left
            · intro V hSw; go_simp; rfl
            simp only [Act.put, List.getElem_toArray, List.getElem_cons_succ, List.getElem_cons_zero, List.setIfInBounds_toArray, List.set_cons_zero, List.set_cons_succ]
            refine wpAnyH_take (i := 6) (v := ?_) rfl (by kernel_rfl) (by kernel_rfl) (by kernel_rfl) (fun _ _ _ h => h) (Or.inl ⟨by rfl, ?_⟩) hHeld ?_
            rotate_left
            · intro V hSw; go_simp; rfl
            simp only [Act.put, List.getElem_toArray, List.getElem_cons_succ, List.getElem_cons_zero, List.setIfInBounds_toArray, List.set_cons_zero, List.set_cons_succ]
            refine wpAnyH_take (i := 7) (v := ?_) rfl (by kernel_rfl) (by kernel_rfl) (by kernel_rfl) (fun _ _ _ h => h) (Or.inl ⟨by rfl, ?_⟩) hHeld ?_
            rotate_left
            · intro V hSw; go_simp; rfl
            simp only [Act.put, List.getElem_toArray, List.getElem_cons_succ, List.getElem_cons_zero, List.setIfInBounds_toArray, List.set_cons_zero, List.set_cons_succ]
            refine wpAnyH_ready (rs := [8]) (by kernel_rfl) (by simp) ?_
            refine (AllReadyH.cons rfl (fun K hK => ?_) AllReadyH.nil)
            go_simp
            refine hK.out _ _ (hHeld.below ((Below.refl _ _).alloc (Nat.le_refl _) _)) (fun hHeld => ?_)
            clear hK K
            try simp only [Act.put, List.getElem_toArray, List.getElem_cons_succ, List.getElem_cons_zero, List.setIfInBounds_toArray, List.set_cons_zero, List.set_cons_succ]
            have BX : Hid (Bx (w14.alloc (.cells #[.slice none 0 0] 31)) (w14.heap.size) [.slice none 0 0]) := Bx.newAt w14 _ _ _ (by simp)
            have HG12 := hide ((unhide HG12).below (w' := w14.alloc (.cells #[.slice none 0 0] 31)) ((Below.refl _ _).alloc (Nat.le_refl _) _))
            have HE := hide ((unhide HE).below (w' := w14.alloc (.cells #[.slice none 0 0] 31)) ((Below.refl _ _).alloc (Nat.le_refl _) _))
            have HE2 := hide ((unhide HE2).below (w' := w14.alloc (.cells #[.slice none 0 0] 31)) ((Below.refl _ _).alloc (Nat.le_refl _) _))
            have y1 := (unhide BX).cv
            have y2 := (unhide BX).fz
            have yl := (unhide BX).lt
            have FI : Hid (Iv w w3 ((w14.alloc (.cells #[.slice none 0 0] 31)).setCell ⟨w14.heap.size, 0, none⟩ (.slice a2 L2.length p2)) ((w14.heap.size, [.slice a2 L2.length p2]) :: [(b10, [.slice a1 L1.length p1]), (w4.heap.size, [.slice (some ⟨g4, 0, none⟩) L.length L.length]), (b8, [.slice a0 L1.length p0]), (w.heap.size + 1, [.int .i64 sl, .int .i64 sv, .int .i64 nc, .string k, .bool t]), (w.heap.size, [.slice a L.length cap])])) := iv_set hHeld (unhide BX) (by omega) (by omega) (fun p hp => by
              simp only [List.mem_cons, List.not_mem_nil, or_false] at hp
              rcases hp with rfl | rfl | rfl | rfl | rfl <;> (simp only; omega))
            have FE := hide (ea_set (u := .slice a2 L2.length p2) (unhide BX) (unhide HE2))
            have FG := hide (eg_set (b := w14.heap.size) (u := .slice a2 L2.length p2) (unhide HG12) (by omega))
            have FI2 : Hid (Iv w w3 (w14.alloc (.cells #[.slice a2 L2.length p2] 31)) ((w14.heap.size, [.slice a2 L2.length p2]) :: [(b10, [.slice a1 L1.length p1]), (w4.heap.size, [.slice (some ⟨g4, 0, none⟩) L.length L.length]), (b8, [.slice a0 L1.length p0]), (w.heap.size + 1, [.int .i64 sl, .int .i64 sv, .int .i64 nc, .string k, .bool t]), (w.heap.size, [.slice a L.length cap])])) := Iv.push (unhide J14) [.slice a2 L2.length p2] 31
            have FE2 := hide (unhide FE0 (.slice a2 L2.length p2)).1
            have FG2 := hide (unhide FE0 (.slice a2 L2.length p2)).2
            refine wpAnyH_ready (rs := [9]) (by kernel_rfl) (by simp) ?_
            refine (AllReadyH.cons rfl (fun K hK => ?_) AllReadyH.nil)
            go_simp
            refine hK.out _ _ (by first | exact ⟨(unhide FI).b0, (unhide FI).b3, fun p hp => (unhide FI).bx p (List.mem_cons_of_mem _ hp)⟩ | exact ⟨(unhide FI2).b0, (unhide FI2).b3, fun p hp => (unhide FI2).bx p (List.mem_cons_of_mem _ hp)⟩) (fun hHeld => ?_)
            clear hK K
            try simp only [Act.put, List.getElem_toArray, List.getElem_cons_succ, List.getElem_cons_zero, List.setIfInBounds_toArray, List.set_cons_zero, List.set_cons_succ]
            refine wpAnyH_take (i := 10) (v := ?_) rfl (by kernel_rfl) (by kernel_rfl) (by kernel_rfl) (fun _ _ _ h => h) (Or.inl ⟨by rfl, ?_⟩) hHeld ?_
            rotate_left
            · intro V hSw; go_simp; rfl
            simp only [Act.put, List.getElem_toArray, List.getElem_cons_succ, List.getElem_cons_zero, List.setIfInBounds_toArray, List.set_cons_zero, List.set_cons_succ]
            refine wpAnyH_done (by kernel_rfl) ?_ _
            refine NoPanic.normal ?_
            clear hHeld
            clear y1 y2
            go_wp2_with fail
            go_meet
            first | exact ⟨w14.heap.size, L2, c2, a2, p2, rfl, rfl, unhide HP2, unhide FE2, unhide FG2, unhide FI2⟩ | exact ⟨w14.heap.size, L2, c2, a2, p2, rfl, rfl, unhide HP2, unhide FE, unhide FG, unhide FI⟩
          · -- box
            go_simp
            refine hK.out _ _ (hHeld.below ((Below.refl _ _).alloc (Nat.le_refl _) _)) (fun hHeld => ?_)
            clear hK K
            try simp only [Act.put, List.getElem_toArray, List.getElem_cons_succ, List.getElem_cons_zero, List.setIfInBounds_toArray, List.set_cons_zero, List.set_cons_succ]
            have BX : Hid (Bx (w13c.alloc (.cells #[.slice none 0 0] 31)) (w13c.heap.size) [.slice none 0 0]) := Bx.newAt w13c _ _ _ (by simp)
            have HG12 := hide ((unhide HG12).below (w' := w13c.alloc (.cells #[.slice none 0 0] 31)) ((Below.refl _ _).alloc (Nat.le_refl _) _))
            have HE := hide ((unhide HE).below (w' := w13c.alloc (.cells #[.slice none 0 0] 31)) ((Below.refl _ _).alloc (Nat.le_refl _) _))
            refine wpAnyH_ready (rs := [4]) (by kernel_rfl) (by simp) ?_
            refine (AllReadyH.cons rfl (fun K hK => ?_) AllReadyH.nil)
            go_simp
            go_at_call 10
            refine (unhide H3 _ _ _ (unhide HE)).mono ?_
            rintro e w14 ⟨L2, c2, a2, p2, hP2, rfl, hE2, b14⟩
            refine hK.out _ _ (hHeld.below b14) (fun hHeld => ?_)
            clear hK K
            try simp only [Act.put, List.getElem_toArray, List.getElem_cons_succ, List.getElem_cons_zero, List.setIfInBounds_toArray, List.set_cons_zero, List.set_cons_succ]
            have z14 : (w13c.heap.size + 1) ≤ w14.heap.size := by have := b14.size; first | (simp at this; omega) | omega
            have HG12 := hide ((unhide HG12).below b14)
            have HE := hide ((unhide HE).below b14)
            have BX := hide ((unhide BX).below b14)
            have HE2 := hide hE2.ea
            have HP2 := hide hP2
            have J14 := hide hHeld
            have FE0 : Hid (∀ u, Ea (w14.alloc (.cells #[u] 31)) a2 L2 ∧ Eg base s (w14.alloc (.cells #[u] 31)) a1 (Lm 1 L1 L1.length)) := fun u => ⟨hE2.ea.below ((Below.refl _ _).alloc (Nat.le_refl _) _), (unhide HG12).below ((Below.refl _ _).alloc (Nat.le_refl _) _)⟩
            clear hE2 hP2 b14
            refine wpAnyH_take (i := 5) (v := ?_) rfl (by kernel_rfl) (by kernel_rfl) (by kernel_rfl) (fun _ _ _ h => h) (Or.inl ⟨by rfl, ?_⟩) hHeld ?_
            rotate_left
            · intro V hSw; go_simp; rfl
            simp only [Act.put, List.getElem_toArray, List.getElem_cons_succ, List.getElem_cons_zero, List.setIfInBounds_toArray, List.set_cons_zero, List.set_cons_succ]
            refine wpAnyH_take (i := 6) (v := ?_) rfl (by kernel_rfl) (by kernel_rfl) (by kernel_rfl) (fun _ _ _ h => h) (Or.inl ⟨by rfl, ?_⟩) hHeld ?_
            rotate_left
            · intro V hSw; go_simp; rfl
            simp only [Act.put, List.getElem_toArray, List.getElem_cons_succ, List.getElem_cons_zero, List.setIfInBounds_toArray, List.set_cons_zero, List.set_cons_succ]
            refine wpAnyH_take (i := 7) (v := ?_) rfl (by kernel_rfl) (by kernel_rfl) (by kernel_rfl) (fun _ _ _ h => h) (Or.inl ⟨by rfl, ?_⟩) hHeld ?_
            rotate_left
            · intro V hSw; go_simp; rfl
            simp only [Act.put, List.getElem_toArray, List.getElem_cons_succ, List.getElem_cons_zero, List.setIfInBounds_toArray, List.set_cons_zero, List.set_cons_succ]
            have y1 := (unhide BX).cv
            have y2 := (unhide BX).fz
            have yl := (unhide BX).lt
            have FI : Hid (Iv w w3 (w14.setCell ⟨w13c.heap.size, 0, none⟩ (.slice a2 L2.length p2)) ((w13c.heap.size, [.slice a2 L2.length p2]) :: [(b10, [.slice a1 L1.length p1]), (w4.heap.size, [.slice (some ⟨g4, 0, none⟩) L.length L.length]), (b8, [.slice a0 L1.length p0]), (w.heap.size + 1, [.int .i64 sl, .int .i64 sv, .int .i64 nc, .string k, .bool t]), (w.heap.size, [.slice a L.length cap])])) := iv_set hHeld (unhide BX) (by omega) (by omega) (fun p hp => by
              simp only [List.mem_cons, List.not_mem_nil, or_false] at hp
              rcases hp with rfl | rfl | rfl | rfl | rfl <;> (simp only; omega))
            have FE := hide (ea_set (u := .slice a2 L2.length p2) (unhide BX) (unhide HE2))
            have FG := hide (eg_set (b := w13c.heap.size) (u := .slice a2 L2.length p2) (unhide HG12) (by omega))
            refine wpAnyH_ready (rs := [9]) (by kernel_rfl) (by simp) ?_
            refine (AllReadyH.cons rfl (fun K hK => ?_) AllReadyH.nil)
            go_simp
            refine hK.out _ _ (by first | exact ⟨(unhide FI).b0, (unhide FI).b3, fun p hp => (unhide FI).bx p (List.mem_cons_of_mem _ hp)⟩) (fun hHeld => ?_)
            clear hK K
            try simp only [Act.put, List.getElem_toArray, List.getElem_cons_succ, List.getElem_cons_zero, List.setIfInBounds_toArray, List.set_cons_zero, List.set_cons_succ]
            refine wpAnyH_take (i := 10) (v := ?_) rfl (by kernel_rfl) (by kernel_rfl) (by kernel_rfl) (fun _ _ _ h => h) (Or.inl ⟨by rfl, ?_⟩) hHeld ?_
            rotate_left
            · intro V hSw; go_simp; rfl
            simp only [Act.put, List.getElem_toArray, List.getElem_cons_succ, List.getElem_cons_zero, List.setIfInBounds_toArray, List.set_cons_zero, List.set_cons_succ]
            refine wpAnyH_done (by kernel_rfl) ?_ _
            refine NoPanic.normal ?_
            clear hHeld
            clear y1 y2
            go_wp2_with fail
            go_meet
            exact ⟨w13c.heap.size, L2, c2, a2, p2, rfl, rfl, unhide HP2, unhide FE, unhide FG, unhide FI⟩
        · -- box
          go_simp
          refine hK.out _ _ (hHeld.below ((Below.refl _ _).alloc (Nat.le_refl _) _)) (fun hHeld => ?_)
          clear hK K
          try simp only [Act.put, List.getElem_toArray, List.getElem_cons_succ, List.getElem_cons_zero, List.setIfInBounds_toArray, List.set_cons_zero, List.set_cons_succ]
          have BX : Hid (Bx (w13.alloc (.cells #[.slice none 0 0] 31)) (w13.heap.size) [.slice none 0 0]) := Bx.newAt w13 _ _ _ (by simp)
          have HG12 := hide ((unhide HG12).below (w' := w13.alloc (.cells #[.slice none 0 0] 31)) ((Below.refl _ _).alloc (Nat.le_refl _) _))
          have HE := hide ((unhide HE).below (w' := w13.alloc (.cells #[.slice none 0 0] 31)) ((Below.refl _ _).alloc (Nat.le_refl _) _))
          refine wpAnyH_ready (rs := [3]) (by kernel_rfl) (by simp) ?_
          refine (AllReadyH.cons rfl (fun K hK => ?_) AllReadyH.nil)
          go_simp
          go_at_call 9
          refine (unhide HC _).mono ?_
          rintro e w13c ⟨rfl, b13c⟩
          refine hK.out _ _ (hHeld.below b13c) (fun hHeld => ?_)
          clear hK K
          try simp only [Act.put, List.getElem_toArray, List.getElem_cons_succ, List.getElem_cons_zero, List.setIfInBounds_toArray, List.set_cons_zero, List.set_cons_succ]
          have z13c : (w13.heap.size + 1) ≤ w13c.heap.size := by have := b13c.size; first | (simp at this; omega) | omega
          have HG12 := hide ((unhide HG12).below b13c)
          have HE := hide ((unhide HE).below b13c)
          have BX := hide ((unhide BX).below b13c)
          clear b13c
          refine wpAnyH_ready (rs := [4]) (by kernel_rfl) (by simp) ?_
          refine (AllReadyH.cons rfl (fun K hK => ?_) AllReadyH.nil)
          go_simp
          go_at_call 10
          refine (unhide H3 _ _ _ (unhide HE)).mono ?_
          rintro e w14 ⟨L2, c2, a2, p2, hP2, rfl, hE2, b14⟩
          refine hK.out _ _ (hHeld.below b14) (fun hHeld => ?_)
          clear hK K
          try simp only [Act.put, List.getElem_toArray, List.getElem_cons_succ, List.getElem_cons_zero, List.setIfInBounds_toArray, List.set_cons_zero, List.set_cons_succ]
          have z14 : w13c.heap.size ≤ w14.heap.size := by have := b14.size; first | (simp at this; omega) | omega
          have HG12 := hide ((unhide HG12).below b14)
          have HE := hide ((unhide HE).below b14)
          have BX := hide ((unhide BX).below b14)
          have HE2 := hide hE2.ea
          have HP2 := hide hP2
          have J14 := hide hHeld
          have FE0 : Hid (∀ u, Ea (w14.alloc (.cells #[u] 31)) a2 L2 ∧ Eg base s (w14.alloc (.cells #[u] 31)) a1 (Lm 1 L1 L1.length)) := fun u => ⟨hE2.ea.below ((Below.refl _ _).alloc (Nat.le_refl _) _), (unhide HG12).below ((Below.refl _ _).alloc (Nat.le_refl _) _)⟩
          clear hE2 hP2 b14
          refine wpAnyH_take (i := 5) (v := ?_) rfl (by kernel_rfl) (by kernel_rfl) (by kernel_rfl) (fun _ _ _ h => h) (Or.inl ⟨by rfl, ?_⟩) hHeld ?_
          rotate_left
          · intro V hSw; go_simp; rfl
          simp only [Act.put, List.getElem_toArray, List.getElem_cons_succ, List.getElem_cons_zero, List.setIfInBounds_toArray, List.set_cons_zero, List.set_cons_succ]
          refine wpAnyH_take (i := 6) (v := ?_) rfl (by kernel_rfl) (by kernel_rfl) (by kernel_rfl) (fun _ _ _ h => h) (Or.inl ⟨by rfl, ?_⟩) hHeld ?_
          rotate_left
          · intro V hSw; go_simp; rfl
          simp only [Act.put, List.getElem_toArray, List.getElem_cons_succ, List.getElem_cons_zero, List.setIfInBounds_toArray, List.set_cons_zero, List.set_cons_succ]
          refine wpAnyH_take (i := 7) (v := ?_) rfl (by kernel_rfl) (by kernel_rfl) (by kernel_rfl) (fun _ _ _ h => h) (Or.inl ⟨by rfl, ?_⟩) hHeld ?_
          rotate_left
          · intro V hSw; go_simp; rfl
          simp only [Act.put, List.getElem_toArray, List.getElem_cons_succ, List.getElem_cons_zero, List.setIfInBounds_toArray, List.set_cons_zero, List.set_cons_succ]
          have y1 := (unhide BX).cv
          have y2 := (unhide BX).fz
          have yl := (unhide BX).lt
          have FI : Hid (Iv w w3 (w14.setCell ⟨w13.heap.size, 0, none⟩ (.slice a2 L2.length p2)) ((w13.heap.size, [.slice a2 L2.length p2]) :: [(b10, [.slice a1 L1.length p1]), (w4.heap.size, [.slice (some ⟨g4, 0, none⟩) L.length L.length]), (b8, [.slice a0 L1.length p0]), (w.heap.size + 1, [.int .i64 sl, .int .i64 sv, .int .i64 nc, .string k, .bool t]), (w.heap.size, [.slice a L.length cap])])) := iv_set hHeld (unhide BX) (by omega) (by omega) (fun p hp => by
            simp only [List.mem_cons, List.not_mem_nil, or_false] at hp
            rcases hp with rfl | rfl | rfl | rfl | rfl <;> (simp only; omega))
          have FE := hide (ea_set (u := .slice a2 L2.length p2) (unhide BX) (unhide HE2))
          have FG := hide (eg_set (b := w13.heap.size) (u := .slice a2 L2.length p2) (unhide HG12) (by omega))
          refine wpAnyH_ready (rs := [9]) (by kernel_rfl) (by simp) ?_
          refine (AllReadyH.cons rfl (fun K hK => ?_) AllReadyH.nil)
          go_simp
          refine hK.out _ _ (by first | exact ⟨(unhide FI).b0, (unhide FI).b3, fun p hp => (unhide FI).bx p (List.mem_cons_of_mem _ hp)⟩) (fun hHeld => ?_)
          clear hK K
          try simp only [Act.put, List.getElem_toArray, List.getElem_cons_succ, List.getElem_cons_zero, List.setIfInBounds_toArray, List.set_cons_zero, List.set_cons_succ]
          refine wpAnyH_take (i := 10) (v := ?_) rfl (by kernel_rfl) (by kernel_rfl) (by kernel_rfl) (fun _ _ _ h => h) (Or.inl ⟨by rfl, ?_⟩) hHeld ?_
          rotate_left
          · intro V hSw; go_simp; rfl
          simp only [Act.put, List.getElem_toArray, List.getElem_cons_succ, List.getElem_cons_zero, List.setIfInBounds_toArray, List.set_cons_zero, List.set_cons_succ]
          refine wpAnyH_done (by kernel_rfl) ?_ _
          refine NoPanic.normal ?_
          clear hHeld
          clear y1 y2
          go_wp2_with fail
          go_meet
          exact ⟨w13.heap.size, L2, c2, a2, p2, rfl, rfl, unhide HP2, unhide FE, unhide FG, unhide FI⟩
      · -- box
        go_simp
        refine hK.out _ _ (hHeld.below ((Below.refl _ _).alloc (Nat.le_refl _) _)) (fun hHeld => ?_)
        clear hK K
        try simp only [Act.put, List.getElem_toArray, List.getElem_cons_succ, List.getElem_cons_zero, List.setIfInBounds_toArray, List.set_cons_zero, List.set_cons_succ]
        have BX : Hid (Bx (w12.drew.alloc (.cells #[.slice none 0 0] 31)) (w12.heap.size) [.slice none 0 0]) := Bx.newAt w12.drew _ _ _ (by simp)
        have HG12 := hide ((unhide HG12).below (w' := w12.drew.alloc (.cells #[.slice none 0 0] 31)) ((Below.refl _ _).alloc (Nat.le_refl _) _))
        refine wpAnyH_ready (rs := [1]) (by kernel_rfl) (by simp) ?_
        refine (AllReadyH.cons rfl (fun K hK => ?_) AllReadyH.nil)
        go_simp
        go_at_call 8
        refine (unhide H1 _ hHeld.b0).mono ?_
        rintro e w13 ⟨g13, B13, rfl, hE13, b13⟩
        refine hK.out _ _ (hHeld.below b13) (fun hHeld => ?_)
        clear hK K
        try simp only [Act.put, List.getElem_toArray, List.getElem_cons_succ, List.getElem_cons_zero, List.setIfInBounds_toArray, List.set_cons_zero, List.set_cons_succ]
        have z13 : (w12.heap.size + 1) ≤ w13.heap.size := by have := b13.size; first | (simp at this; omega) | omega
        have HG12 := hide ((unhide HG12).below b13)
        have BX := hide ((unhide BX).below b13)
        have HE := hide (En.ea (Or.inr ⟨g13, B13, rfl, hE13⟩ : En _ w13 (some ⟨g13, 0, none⟩) L))
        clear hE13 b13
        refine wpAnyH_ready (rs := [3]) (by kernel_rfl) (by simp) ?_
        refine (AllReadyH.cons rfl (fun K hK => ?_) AllReadyH.nil)
        go_simp
        go_at_call 9
        refine (unhide HC _).mono ?_
        rintro e w13c ⟨rfl, b13c⟩
        refine hK.out _ _ (hHeld.below b13c) (fun hHeld => ?_)
        clear hK K
        try simp only [Act.put, List.getElem_toArray, List.getElem_cons_succ, List.getElem_cons_zero, List.setIfInBounds_toArray, List.set_cons_zero, List.set_cons_succ]
        have z13c : w13.heap.size ≤ w13c.heap.size := by have := b13c.size; first | (simp at this; omega) | omega
        have HG12 := hide ((unhide HG12).below b13c)
        have HE := hide ((unhide HE).below b13c)
        have BX := hide ((unhide BX).below b13c)
        clear b13c
        refine wpAnyH_ready (rs := [4]) (by kernel_rfl) (by simp) ?_
        refine (AllReadyH.cons rfl (fun K hK => ?_) AllReadyH.nil)
        go_simp
        go_at_call 10
        refine (unhide H3 _ _ _ (unhide HE)).mono ?_
        rintro e w14 ⟨L2, c2, a2, p2, hP2, rfl, hE2, b14⟩
        refine hK.out _ _ (hHeld.below b14) (fun hHeld => ?_)
        clear hK K
        try simp only [Act.put, List.getElem_toArray, List.getElem_cons_succ, List.getElem_cons_zero, List.setIfInBounds_toArray, List.set_cons_zero, List.set_cons_succ]
        have z14 : w13c.heap.size ≤ w14.heap.size := by have := b14.size; first | (simp at this; omega) | omega
        have HG12 := hide ((unhide HG12).below b14)
        have HE := hide ((unhide HE).below b14)
        have BX := hide ((unhide BX).below b14)
        have HE2 := hide hE2.ea
        have HP2 := hide hP2
        have J14 := hide hHeld
        have FE0 : Hid (∀ u, Ea (w14.alloc (.cells #[u] 31)) a2 L2 ∧ Eg base s (w14.alloc (.cells #[u] 31)) a1 (Lm 1 L1 L1.length)) := fun u => ⟨hE2.ea.below ((Below.refl _ _).alloc (Nat.le_refl _) _), (unhide HG12).below ((Below.refl _ _).alloc (Nat.le_refl _) _)⟩
        clear hE2 hP2 b14
        refine wpAnyH_take (i := 5) (v := ?_) rfl (by kernel_rfl) (by kernel_rfl) (by kernel_rfl) (fun _ _ _ h => h) (Or.inl ⟨by rfl, ?_⟩) hHeld ?_
        rotate_left
        · intro V hSw; go_simp; rfl
        simp only [Act.put, List.getElem_toArray, List.getElem_cons_succ, List.getElem_cons_zero, List.setIfInBounds_toArray, List.set_cons_zero, List.set_cons_succ]
        refine wpAnyH_take (i := 6) (v := ?_) rfl (by kernel_rfl) (by kernel_rfl) (by kernel_rfl) (fun _ _ _ h => h) (Or.inl ⟨by rfl, ?_⟩) hHeld ?_
        rotate_left
        · intro V hSw; go_simp; rfl
        simp only [Act.put, List.getElem_toArray, List.getElem_cons_succ, List.getElem_cons_zero, List.setIfInBounds_toArray, List.set_cons_zero, List.set_cons_succ]
        refine wpAnyH_take (i := 7) (v := ?_) rfl (by kernel_rfl) (by kernel_rfl) (by kernel_rfl) (fun _ _ _ h => h) (Or.inl ⟨by rfl, ?_⟩) hHeld ?_
        rotate_left
        · intro V hSw; go_simp; rfl
        simp only [Act.put, List.getElem_toArray, List.getElem_cons_succ, List.getElem_cons_zero, List.setIfInBounds_toArray, List.set_cons_zero, List.set_cons_succ]
        have y1 := (unhide BX).cv
        have y2 := (unhide BX).fz
        have yl := (unhide BX).lt
        have FI : Hid (Iv w w3 (w14.setCell ⟨w12.heap.size, 0, none⟩ (.slice a2 L2.length p2)) ((w12.heap.size, [.slice a2 L2.length p2]) :: [(b10, [.slice a1 L1.length p1]), (w4.heap.size, [.slice (some ⟨g4, 0, none⟩) L.length L.length]), (b8, [.slice a0 L1.length p0]), (w.heap.size + 1, [.int .i64 sl, .int .i64 sv, .int .i64 nc, .string k, .bool t]), (w.heap.size, [.slice a L.length cap])])) := iv_set hHeld (unhide BX) (by omega) (by omega) (fun p hp => by
          simp only [List.mem_cons, List.not_mem_nil, or_false] at hp
          rcases hp with rfl | rfl | rfl | rfl | rfl <;> (simp only; omega))
        have FE := hide (ea_set (u := .slice a2 L2.length p2) (unhide BX) (unhide HE2))
        have FG := hide (eg_set (b := w12.heap.size) (u := .slice a2 L2.length p2) (unhide HG12) (by omega))
        refine wpAnyH_ready (rs := [9]) (by kernel_rfl) (by simp) ?_
        refine (AllReadyH.cons rfl (fun K hK => ?_) AllReadyH.nil)
        go_simp
        refine hK.out _ _ (by first | exact ⟨(unhide FI).b0, (unhide FI).b3, fun p hp => (unhide FI).bx p (List.mem_cons_of_mem _ hp)⟩) (fun hHeld => ?_)
        clear hK K
        try simp only [Act.put, List.getElem_toArray, List.getElem_cons_succ, List.getElem_cons_zero, List.setIfInBounds_toArray, List.set_cons_zero, List.set_cons_succ]
        refine wpAnyH_take (i := 10) (v := ?_) rfl (by kernel_rfl) (by kernel_rfl) (by kernel_rfl) (fun _ _ _ h => h) (Or.inl ⟨by rfl, ?_⟩) hHeld ?_
        rotate_left
        · intro V hSw; go_simp; rfl
        simp only [Act.put, List.getElem_toArray, List.getElem_cons_succ, List.getElem_cons_zero, List.setIfInBounds_toArray, List.set_cons_zero, List.set_cons_succ]
        refine wpAnyH_done (by kernel_rfl) ?_ _
        refine NoPanic.normal ?_
        clear hHeld
        clear y1 y2
        go_wp2_with fail
        go_meet
        exact ⟨w12.heap.size, L2, c2, a2, p2, rfl, rfl, unhide HP2, unhide FE, unhide FG, unhide FI⟩
    case rest =>
    obtain ⟨b14, L2, c2, a2, p2, rfl, rfl, hP2, hE2, hG14, hI14⟩ := hcut
    obtain ⟨w14, hw14⟩ : ∃ w14, w14 = wc := ⟨_, rfl⟩
    subst hw14
    obtain ⟨e1, e2⟩ := inP_uniq (unhide HP9) hP2
    subst e1 e2
    have HE14 := hide hE2
    have HG14 := hide hG14
    have J14 := hide hI14
    clear hE2 hG14 hI14 J12 HG12 hP2
    have x14 := ((unhide J14).bx _ (List.mem_cons_self)).cv
    have y14 := ((unhide J14).bx _ (List.mem_cons_of_mem _ (List.mem_cons_of_mem _ (List.mem_cons_of_mem _ List.mem_cons_self)))).cv
    have l14 := ((unhide J14).bx _ (List.mem_cons_of_mem _ (List.mem_cons_of_mem _ (List.mem_cons_of_mem _ List.mem_cons_self)))).lt
    go_wp2_with fail
    refine (unhide H5 _ _ _ _ _ (unhide HE14) ((unhide HE0).below (unhide J14).b3)).mono ?_
    rintro e w15 ⟨rfl, b15⟩
    have HG15 := hide ((unhide HG14).below b15)
    have J15 := hide ((unhide J14).below b15)
    clear b15 x14 y14 l14 HE14 HG14 J14
    have x15 := ((unhide J15).bx _ (List.mem_cons_of_mem _ List.mem_cons_self)).cv
    go_wp2_with fail
    refine (unhide HH _ (unhide HG15)).mono ?_
    rintro e w16 ⟨rfl, b16⟩
    have BF := hide ((unhide J15).b0.trans (b16.mono (unhide J15).b0.size))
    clear b16 x15 HG15 J15
    go_wp2
    go_ret
    exact ⟨rfl, unhide BF⟩
end Go.Proofs.Ytcpccdejhmaenaa.fnExactInstallConfig
