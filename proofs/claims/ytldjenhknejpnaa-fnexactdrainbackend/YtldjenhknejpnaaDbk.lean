/-
  Contracts: DropBackend and AddBackend, of both sides.
-/
import Derived.Test.YtldjenhknejpnaaIns
import Derived.Test.YtldjenhknejpnaaRsw
import Derived.Deep.RegionHeld3
namespace Go.Proofs.Ytldjenhknejpnaa
open Go.ChangeShapes Go.WideShapes Go.ChangeAt Go.RowKit Go.Deep
set_option linter.unusedVariables false
set_option maxRecDepth 100000

theorem clnT (s : ByteArray) (hs : s.size ≤ 1048576) (w : World) : Calls Try.prog 60 #[.string s] w fun e w' => e = .returned (.string s) ∧ Below w.heap.size w w' := by
  have H := hide (fun W => Try.stringslite_Clone s W (by omega))
  go_enter Try.func60, Try.ntmps60
  go_wp2_with fail
  refine (unhide H _).mono ?_
  rintro e w1 ⟨rfl, b1⟩
  go_wp2
  go_ret
  exact ⟨rfl, b1⟩
set_option maxHeartbeats 1000000 in
theorem ownTx (a : Option Addr) (cap : Nat) (L : List ByteArray) (w : World) (hN : L.length ≤ 1000) (hz : ∀ i, i < L.length → (tA L i).size ≤ 1048576) (h : Ta w a L) :
    Calls Try.prog 37 #[.slice a L.length cap] w fun e w' => ∃ v, e = .returned v ∧ Ost w.heap.size w' v L ∧ Below w.heap.size w w' := by
  have HR := hide h
  have HZ := hide hz
  clear h hz
  go_enter Try.func37, Try.ntmps37
  go_wp2
  go_loopw [3, 8] (fun v i wr => ∃ k : Nat, k ≤ L.length ∧ i = .int .i64 k ∧ Ost w.heap.size wr v (L.take k) ∧ Below w.heap.size w wr) (fun _ i _ => L.length - (intOf i).toNat)
  case atStart => exact ⟨0, Nat.zero_le _, rfl, Ost.nil _ _, Below.refl _ _⟩
  case round =>
    obtain ⟨k, hkl, rfl, hO, hbel⟩ := hrel
    by_cases hlt : k < L.length
    · rcases (unhide HR).kept hbel with h0 | ⟨b, off, rfl, hel⟩
      · omega
      have c0 := hel.c k hlt
      have hnk : (k : Int) < (L.length : Int) := by omega
      have HC := hide (clnT (tA L k) (unhide HZ k hlt))
      have HO := hide hO
      have HB := hide hbel
      have TK := hide (take_tA L k hlt)
      clear hel hO hbel
      have hlen : (L.take k).length = k := by rw [List.length_take]; omega
      generalize tA L k = D at *
      go_wp2_with fail
      refine (unhide HC _).mono ?_
      rintro e w2 ⟨rfl, b2⟩
      have B2 := hide ((unhide HB).trans (b2.mono (unhide HB).size))
      obtain ⟨v', w', hrun, hO', hg, _⟩ := appS (w2.alloc (.cells #[.string D] 9)) 25 w.heap.size u3 (L.take k) (((unhide HO).kept b2).kept ((Below.refl _ _).alloc (Nat.le_refl _) _)) (some ⟨w2.heap.size, 0, none⟩) 1 [D] (sc_txt w2 D _) (by rw [hlen]; show k + 1 ≤ _; omega) (by have := (unhide B2).size; simp; omega)
      have hrun' : (Builtin.append_ #[25, 25] 25 #[u3, .slice (some ⟨w2.heap.size, 0, none⟩) 1 1]).run Try.prog (w2.alloc (.cells #[.string D] 9)) = .ok v' w' := hrun
      rw [unhide TK] at hO'
      have HO2 := hide hO'
      have HB2 := hide (((unhide B2).alloc (unhide B2).size (.cells #[.string D] 9)).trans hg)
      have RUN := hide hrun'
      clear hrun hrun' hO' hg b2 HO HB HC TK B2
      go_wp2_with (at_builtin; refine wpl_app rfl _ _ 25 rfl _ _ _ _ rfl rfl (unhide RUN) ?_)
      exact ⟨⟨k + 1, by omega, by go_num, unhide HO2, unhide HB2⟩, by simp [intOf]; omega⟩
    · obtain rfl : k = L.length := by omega
      rw [List.take_length] at hO
      have HO := hide hO
      have HB := hide hbel
      clear hO hbel
      go_wp2
      go_ret
      exact ⟨_, rfl, unhide HO, unhide HB⟩
/-- the list without one -/
def drL (L : List ByteArray) (k : Nat) : List ByteArray := L.take k ++ L.drop (k + 1)
/-- whether DropBackend says yes -/
def dbB (L : List ByteArray) (x : ByteArray) : Bool := glB (tA L) L.length && hsP (tA L) x L.length
/-- what it answers -/
def dbM (L : List ByteArray) (x : ByteArray) : List ByteArray := if dbB L x = true then drL L (lnP (tA L) x L.length) else []
theorem hs_lt {F : Nat → ByteArray} {x : ByteArray} {n : Nat} (h : hsP F x n = true) : lnP F x n < n ∧ F (lnP F x n) = x := by
  unfold hsP at h
  rw [Bool.and_eq_true] at h
  exact ⟨of_decide_eq_true h.1, of_decide_eq_true h.2⟩
set_option maxHeartbeats 1000000 in
theorem implDb (a : Option Addr) (cap : Nat) (L : List ByteArray) (x : ByteArray) (w : World) (hN : L.length ≤ 1048576) (hz : ∀ i, i < L.length → (tA L i).size ≤ 1048576) (h : Ta w a L) :
    Calls Try.prog 34 #[.slice a L.length cap, .string x] w (Rs (dbM L x) (dbB L x) w) := by
  have HG := hide (implGL a L.length cap (tA L) w hN hz h)
  unfold dbM dbB
  cases hgl : glB (tA L) L.length with
  | false =>
    rw [hgl] at HG
    rw [Bool.false_and, if_neg Bool.false_ne_true]
    clear h hz hgl
    go_enter Try.func34, Try.ntmps34
    go_wp2_with fail
    refine (unhide HG).mono ?_
    rintro e w1 ⟨rfl, e1⟩
    subst w1
    go_wp2
    go_ret2
    exact Rs.none (Below.refl _ _)
  | true =>
    rw [hgl] at HG
    rw [Bool.true_and]
    have h12 := gl_12 hgl
    have HB := hide (implBS a L.length cap (tA L) x w hN hgl h)
    cases hhs : hsP (tA L) x L.length with
    | false =>
      rw [hhs] at HB
      rw [if_neg Bool.false_ne_true]
      clear h hz hgl hhs
      generalize lnP (tA L) x L.length = k at *
      go_enter Try.func34, Try.ntmps34
      go_wp2_with fail
      refine (unhide HG).mono ?_
      rintro e w1 ⟨rfl, e1⟩
      subst w1
      go_wp2_with fail
      refine (unhide HB).mono ?_
      rintro e w2 ⟨rfl, b2⟩
      have B2 := hide b2
      clear b2
      go_wp2
      go_ret2
      exact Rs.none (unhide B2)
    | true =>
      rw [hhs] at HB
      rw [if_pos rfl]
      have hk := (hs_lt hhs).1
      have HO := hide (fun W (q : Below w.heap.size w W) => ownTx a cap L W (by omega) hz (h.kept q))
      clear h hz hgl hhs
      unfold drL
      generalize lnP (tA L) x L.length = k at *
      have hl : Hid ((L.take k ++ L.drop (k + 1)).length ≤ L.length) := by show _ ≤ _; rw [List.length_append, List.length_take, List.length_drop]; omega
      have HD := hide (fun base v W hO => implDl base v L k W hk hO)
      generalize L.take k ++ L.drop (k + 1) = M at *
      have ek : IntKind.i64.wrap ((k : Int) + 1) = ((k + 1 : Nat) : Int) := by rw [wraps_i64 _ (by omega) (by omega)]; omega
      go_enter Try.func34, Try.ntmps34
      go_wp2_with fail
      refine (unhide HG).mono ?_
      rintro e w1 ⟨rfl, e1⟩
      subst w1
      go_wp2_with fail
      refine (unhide HB).mono ?_
      rintro e w2 ⟨rfl, b2⟩
      have B2 := hide b2
      clear b2
      go_wp2_with fail
      refine (unhide HO _ (unhide B2)).mono ?_
      rintro e w3 ⟨v, rfl, hO, b3⟩
      have HO3 := hide hO
      have B3 := hide ((unhide B2).trans (b3.mono (unhide B2).size))
      clear hO b3
      go_wp2_with fail
      refine (unhide HD _ _ _ (unhide HO3)).mono ?_
      rintro e w4 ⟨a4, c4, rfl, s4, b4⟩
      have S4 := hide (s4.from (unhide B2).size)
      have B4 := hide ((unhide B3).trans (b4.mono (unhide B2).size))
      clear s4 b4
      go_wp2
      go_ret2
      exact ⟨a4, c4, rfl, unhide S4, unhide B4⟩
theorem ost_lit0 (w : World) (base : Nat) (h : base ≤ w.heap.size) : Ost base (w.alloc (.cells #[] 9)) (.slice (some ⟨w.heap.size, 0, none⟩) 0 0) [] :=
  World.ownsRow_lit (base := base) (e := 9) (size := 1) w #[] 0 h (by unfold maxLen; omega) rfl
set_option maxHeartbeats 2000000 in
theorem specDb (a : Option Addr) (cap : Nat) (L : List ByteArray) (x : ByteArray) (w : World) (hN : L.length ≤ 1048576) (hcap : L.length ≤ cap) (hc63 : cap ≤ 9223372036854775807) (hz : ∀ i, i < L.length → (tA L i).size ≤ 1048576) (h : Ta w a L) :
    Calls Try.prog 32 #[.slice a L.length cap, .string x] w (Rs (dbM L x) (dbB L x) w) := by
  have HA := hide (specAt a L.length cap (tA L) x w hN h)
  have HG := hide (fun W (q : Below w.heap.size w W) => specGL a L.length cap (tA L) W hN hz (h.kept q))
  unfold dbM dbB
  cases hgl : glB (tA L) L.length with
  | false =>
    rw [hgl] at HG
    rw [Bool.false_and, if_neg Bool.false_ne_true]
    clear h hz hgl
    generalize lnP (tA L) x L.length = k at *
    generalize hsP (tA L) x L.length = b at *
    go_enter Try.func32, Try.ntmps32
    go_wp2_with fail
    refine (unhide HA).mono ?_
    rintro e w1 ⟨rfl, b1⟩
    have B1 := hide b1
    clear b1
    go_wp2_with fail
    refine (unhide HG _ (unhide B1)).mono ?_
    rintro e w2 ⟨rfl, e2⟩
    subst w2
    go_wp2
    go_ret2
    exact Rs.none (unhide B1)
  | true =>
    rw [hgl] at HG
    rw [Bool.true_and]
    have h12 := gl_12 hgl
    cases hhs : hsP (tA L) x L.length with
    | false =>
      rw [hhs] at HA
      rw [if_neg Bool.false_ne_true]
      clear h hz hgl hhs
      generalize lnP (tA L) x L.length = k at *
      go_enter Try.func32, Try.ntmps32
      go_wp2_with fail
      refine (unhide HA).mono ?_
      rintro e w1 ⟨rfl, b1⟩
      have B1 := hide b1
      clear b1
      go_wp2_with fail
      refine (unhide HG _ (unhide B1)).mono ?_
      rintro e w2 ⟨rfl, e2⟩
      subst w2
      go_wp2
      go_ret2
      exact Rs.none (unhide B1)
    | true =>
    rw [hhs] at HA
    rw [if_pos rfl]
    have hk := (hs_lt hhs).1
    have HH := hide h
    clear h hz hgl hhs
    unfold drL
    generalize lnP (tA L) x L.length = k at *
    have hw : IntKind.i64.wrap ((k : Int) + 1) = ((k + 1 : Nat) : Int) := by rw [wraps_i64 _ (by omega) (by omega)]; omega
    have hw2 : ((k + 1 : Nat) : Int) ≤ (L.length : Int) := by omega
    have hq1 : (0 : Int) ≤ (k : Int) + 1 := by omega
    have hq2 : (k : Int) + 1 ≤ (L.length : Int) := by omega
    have hic : (k : Int) ≤ (cap : Int) := by omega
    have hkI : (k : Int) ≤ (L.length : Int) := by omega
    go_enter Try.func32, Try.ntmps32
    go_wp2_with fail
    refine (unhide HA).mono ?_
    rintro e w1 ⟨rfl, b1⟩
    have B1 := hide b1
    clear b1
    go_wp2_with fail
    refine (unhide HG _ (unhide B1)).mono ?_
    rintro e w2 ⟨rfl, e2⟩
    subst w2
    rcases (unhide HH).kept (unhide B1) with h0 | ⟨b, o, rfl, hr⟩
    · omega
    obtain ⟨sa, hsa⟩ : ∃ sa, sa = (if cap = k + 1 then some (⟨b, o, none⟩ : Addr) else some ⟨b, o + (k + 1), none⟩) := ⟨_, rfl⟩
    have A0 : Below w1.heap.size w1 (w1.drew.alloc (.cells #[] 9)) := ((Below.refl w1.heap.size w1).drew).alloc (Nat.le_refl _) _
    have hl5 : (L.take k).length = k := by rw [List.length_take]; omega
    have hl6 : (L.drop (k + 1)).length = L.length - (k + 1) := by rw [List.length_drop]
    obtain ⟨v5, w5, hrun5, hO5, b5, hv5⟩ := appS (w1.drew.alloc (.cells #[] 9)) 25 w1.heap.size (.slice (some ⟨w1.heap.size, 0, none⟩) 0 0) [] (ost_lit0 w1.drew w1.heap.size (Nat.le_refl _)) (some ⟨b, o, none⟩) cap (L.take k) (by
      have h9 := (hr.kept A0).sc 0 (L.take k) (fun j hj => by rw [hl5] at hj; exact ⟨by omega, by rw [tA_take _ _ _ hj, Nat.zero_add]⟩)
      exact h9) (by rw [hl5]; show 0 + k ≤ _; omega) (by show w1.heap.size ≤ (w1.drew.alloc _).heap.size; simp)
    rw [List.nil_append] at hO5
    have A5 := A0.trans b5
    obtain ⟨v6, w6, hrun6, hO6, b6, hv6⟩ := appS w5 25 w1.heap.size v5 (L.take k) hO5 sa (cap - (k + 1)) (L.drop (k + 1)) (by
      rw [hsa]
      by_cases c9 : cap = k + 1
      · refine Or.inl ⟨by rw [hl6]; omega, ?_⟩
        rw [List.drop_eq_nil_of_le (by omega)]
        rfl
      · rw [if_neg c9]
        exact (hr.kept A5).sc (k + 1) (L.drop (k + 1)) (fun j hj => by rw [hl6] at hj; exact ⟨by omega, by rw [tA_drop]⟩)) (by rw [hl5, hl6]; omega) A5.size
    rw [hl5] at hrun5
    rw [hl6] at hrun6
    obtain ⟨a6, c6, e6, hc6, _, s6⟩ := hO6.form
    have FIN : Hid (L.take k ++ L.drop (k + 1) = L.take k ++ L.drop (k + 1) ∧ Sn w.heap.size w6 a6 (L.take k ++ L.drop (k + 1)).length (tA (L.take k ++ L.drop (k + 1))) ∧ Below w.heap.size w w6) := ⟨rfl, s6.from (unhide B1).size, (unhide B1).trans ((A5.trans b6).mono (unhide B1).size)⟩
    subst e6
    have RUN5 := hide hrun5
    have RUN6 := hide hrun6
    rw [hsa] at RUN6
    clear hrun5 hrun6 hO5 hO6 A0 A5 b5 b6 hr hc6 s6 hsa hv5 hv6 hl5 hl6
    generalize L.take k ++ L.drop (k + 1) = M at *
    go_upto_region 4 with fail
    -- REGION
    refine wp_region_noPanic ?_
    refine wp_region_held_drew (S := fun _ => True) (by kernel_rfl) trivial (fun hHeld => ?_)
    refine wpAnyH_take (i := 1) (v := ?_) rfl (by kernel_rfl) (by kernel_rfl) (by kernel_rfl) (fun _ _ _ h => h) (Or.inl ⟨by rfl, ?_⟩) hHeld ?_
    rotate_left
    · intro V hSw; go_simp; rfl
    simp only [Act.put, List.getElem_toArray, List.getElem_cons_succ, List.getElem_cons_zero, List.setIfInBounds_toArray, List.set_cons_zero, List.set_cons_succ]
    refine wpAnyH_take (i := 2) (v := ?_) rfl (by kernel_rfl) (by kernel_rfl) (by kernel_rfl) (fun _ _ _ h => h) (Or.inl ⟨by rfl, ?_⟩) hHeld ?_
    rotate_left
    · intro V hSw; go_simp; rfl
    simp only [Act.put, List.getElem_toArray, List.getElem_cons_succ, List.getElem_cons_zero, List.setIfInBounds_toArray, List.set_cons_zero, List.set_cons_succ]
    refine wpAnyH_take (i := 3) (v := ?_) rfl (by kernel_rfl) (by kernel_rfl) (by kernel_rfl) (fun _ _ _ h => h) (Or.inl ⟨by rfl, ?_⟩) hHeld ?_
    rotate_left
    · intro V hSw; go_simp; rfl
    simp only [Act.put, List.getElem_toArray, List.getElem_cons_succ, List.getElem_cons_zero, List.setIfInBounds_toArray, List.set_cons_zero, List.set_cons_succ]
    refine wpAnyH_take (i := 5) (v := ?_) rfl (by kernel_rfl) (by kernel_rfl) (by kernel_rfl) (fun _ _ _ h => h) (Or.inl ⟨by rfl, ?_⟩) hHeld ?_
    rotate_left
    · intro V hSw; go_simp; rfl
    simp only [Act.put, List.getElem_toArray, List.getElem_cons_succ, List.getElem_cons_zero, List.setIfInBounds_toArray, List.set_cons_zero, List.set_cons_succ]
    refine wpAnyH_take (i := 6) (v := ?_) rfl (by kernel_rfl) (by kernel_rfl) (by kernel_rfl) (fun _ _ _ h => h) (Or.inl ⟨by rfl, ?_⟩) hHeld ?_
    rotate_left
    · intro V hSw; go_simp; rfl
    simp only [Act.put, List.getElem_toArray, List.getElem_cons_succ, List.getElem_cons_zero, List.setIfInBounds_toArray, List.set_cons_zero, List.set_cons_succ]
    refine wpAnyH_take (i := 7) (v := ?_) rfl (by kernel_rfl) (by kernel_rfl) (by kernel_rfl) (fun _ _ _ h => h) (Or.inl ⟨by rfl, ?_⟩) hHeld ?_
    rotate_left
    · intro V hSw; go_simp; rfl
    simp only [Act.put, List.getElem_toArray, List.getElem_cons_succ, List.getElem_cons_zero, List.setIfInBounds_toArray, List.set_cons_zero, List.set_cons_succ]
    refine wpAnyH_take (i := 8) (v := ?_) rfl (by kernel_rfl) (by kernel_rfl) (by kernel_rfl) (fun _ _ _ h => h) (Or.inl ⟨by rfl, ?_⟩) hHeld ?_
    rotate_left
    · intro V hSw; go_simp; rfl
    simp only [Act.put, List.getElem_toArray, List.getElem_cons_succ, List.getElem_cons_zero, List.setIfInBounds_toArray, List.set_cons_zero, List.set_cons_succ]
    refine wpAnyH_ready (rs := [0]) (by kernel_rfl) (by simp) ?_
    refine AllReadyH.cons rfl (fun K hK => ?_) AllReadyH.nil
    go_simp
    refine hK.out _ _ (trivial) (fun hHeld => ?_)
    clear hK K
    try simp only [Act.put, List.getElem_toArray, List.getElem_cons_succ, List.getElem_cons_zero, List.setIfInBounds_toArray, List.set_cons_zero, List.set_cons_succ]
    refine wpAnyH_ready (rs := [4]) (by kernel_rfl) (by simp) ?_
    refine AllReadyH.cons rfl (fun K hK => ?_) AllReadyH.nil
    refine stp_app rfl _ _ 25 rfl _ _ _ _ rfl rfl (unhide RUN5) ?_
    refine hK.out _ _ (trivial) (fun hHeld => ?_)
    clear hK K
    try simp only [Act.put, List.getElem_toArray, List.getElem_cons_succ, List.getElem_cons_zero, List.setIfInBounds_toArray, List.set_cons_zero, List.set_cons_succ]
    refine wpAnyH_ready (rs := [9]) (by kernel_rfl) (by simp) ?_
    refine AllReadyH.cons rfl (fun K hK => ?_) AllReadyH.nil
    refine stp_app rfl _ _ 25 rfl _ _ _ _ rfl rfl (unhide RUN6) ?_
    refine hK.out _ _ (trivial) (fun hHeld => ?_)
    clear hK K
    try simp only [Act.put, List.getElem_toArray, List.getElem_cons_succ, List.getElem_cons_zero, List.setIfInBounds_toArray, List.set_cons_zero, List.set_cons_succ]
    refine wpAnyH_take (i := 10) (v := ?_) rfl (by kernel_rfl) (by kernel_rfl) (by kernel_rfl) (fun _ _ _ h => h) (Or.inl ⟨by rfl, ?_⟩) hHeld ?_
    rotate_left
    · intro V hSw; go_simp; rfl
    simp only [Act.put, List.getElem_toArray, List.getElem_cons_succ, List.getElem_cons_zero, List.setIfInBounds_toArray, List.set_cons_zero, List.set_cons_succ]
    refine wpAnyH_take (i := 11) (v := ?_) rfl (by kernel_rfl) (by kernel_rfl) (by kernel_rfl) (fun _ _ _ h => h) (Or.inl ⟨by rfl, ?_⟩) hHeld ?_
    rotate_left
    · intro V hSw; go_simp; rfl
    simp only [Act.put, List.getElem_toArray, List.getElem_cons_succ, List.getElem_cons_zero, List.setIfInBounds_toArray, List.set_cons_zero, List.set_cons_succ]
    refine wpAnyH_done (by kernel_rfl) ?_ _
    refine NoPanic.normal ?_
    clear hHeld
    -- END
    go_wp2
    all_goals
      go_ret2
      exact ⟨a6, c6, rfl, (unhide FIN).2⟩
end Go.Proofs.Ytldjenhknejpnaa
