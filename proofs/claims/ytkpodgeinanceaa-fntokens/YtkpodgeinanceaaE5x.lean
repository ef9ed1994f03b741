/-
  Contracts: OpenText of both sides.
-/
import Derived.Test.YtkpodgeinanceaaL5kX
namespace Go.Proofs.Ytkpodgeinanceaa
open Go.ChangeShapes Go.WideShapes Go.ChangeAt Go.RowKit
set_option linter.unusedVariables false

/-- what is sealed is opened: the tag is right -/
def opH (key nonce beside s : ByteArray) : Prop := key.size = 16 ∧ nonce.size = 12 ∧ beside.size ≤ 1500 ∧ s.size ≤ 1516 ∧ 16 ≤ s.size ∧ s.extract (s.size - 16) s.size = tgW key nonce beside (s.extract 0 (s.size - 16))
set_option maxRecDepth 100000 in
set_option maxHeartbeats 1000000 in
theorem implOT_mid (key nonce beside s : ByteArray) (n : Nat) (b : Bool) (hk : key.size = 16) (hn : nonce.size = 12) (hb : beside.size ≤ 1500) (hsn : s.size = n + 16) (hn15 : n ≤ 1500)
    (heq : ∀ V : World, (Op.equalIn 10000 84 (.agg (us 16 (tgB key nonce beside.size n (at8 beside) (at8 (s.extract 0 n)))).toArray) (.agg (us 16 (fun i => at8 s (n + i))).toArray)).run Try.prog V = .ok b V) (w : World) :
    Calls Try.prog 42 #[.string key, .string nonce, .string beside, .string s] w fun e w' => e = .returned (.tuple #[.string (bif b then cnW key nonce (s.extract 0 n) else ⟨#[]⟩), .bool b]) ∧ Below w.heap.size w w' := by
  have H1 := hide (fun W => newSeal_ok key nonce hk hn W)
  have HC : Hid (∀ W g c, W.cell? ⟨g, 0, none⟩ = some (.string beside) → Calls Try.prog 39 #[.int .i64 1500, .slice (some ⟨g, 0, none⟩) 1 c] W fun e w' => e = .returned (.bool true) ∧ w' = W) := fun W g c hc => by
    have h1 := within_one beside 1500 (by omega) (by omega) W g c hc
    rw [decide_eq_true hb] at h1
    exact h1
  have HD : Hid (∀ W g c, W.cell? ⟨g, 0, none⟩ = some (.string s) → Calls Try.prog 39 #[.int .i64 1516, .slice (some ⟨g, 0, none⟩) 1 c] W fun e w' => e = .returned (.bool true) ∧ w' = W) := fun W g c hc => by
    have h1 := within_one s 1516 (by omega) (by omega) W g c hc
    rw [decide_eq_true (show s.size ≤ 1516 by omega)] at h1
    exact h1
  have h16 : ¬ ((n : Int) + 16 < 16) := by omega
  go_enter Try.func42, Try.ntmps42
  go_wp2_with fail
  refine (unhide H1 _).mono ?_
  rintro e w1 ⟨kb, cb, hkb, hcb, rfl, hK, b1⟩
  have K1 := hide hK
  have B1 := hide b1
  have hl1 : kb < w1.heap.size := hK.st.lt
  have hl2 : cb < w1.heap.size := hK.ci.lt
  clear hK b1
  go_wp2_with fail
  refine (unhide HC _ _ _ (by simp)).mono ?_
  rintro e w2 ⟨rfl, h9⟩
  rw [h9]
  clear h9 w2
  have al := (Below.refl w1.heap.size w1).alloc (Nat.le_refl _) (.cells #[.string beside] 9)
  generalize w1.alloc (.cells #[.string beside] 9) = W2 at al ⊢
  have K2 := hide ((unhide K1).keep al)
  have B2 := hide ((unhide B1).trans (al.mono (unhide B1).size))
  have hBs : w1.heap.size ≤ W2.heap.size := al.size
  clear al K1 B1
  go_wp2_with fail
  refine (unhide HD _ _ _ (by simp)).mono ?_
  rintro e w3 ⟨rfl, h9⟩
  rw [h9]
  clear h9 w3
  have al := (Below.refl W2.heap.size W2).alloc (Nat.le_refl _) (.cells #[.string s] 9)
  generalize W2.alloc (.cells #[.string s] 9) = W3 at al ⊢
  have K3 := hide ((unhide K2).keep al)
  have B3 := hide ((unhide B2).trans (al.mono (unhide B2).size))
  have hBs3 : w1.heap.size ≤ W3.heap.size := Nat.le_trans hBs al.size
  clear al K2 B2 hBs
  go_wp2_with fail
  obtain ⟨cap4, W4, hcv, hbW, hsg, hsz⟩ := conv_sp W3 s
  rw [hcv, hsn]
  rw [hsn] at hsg
  have K4 := hide ((unhide K3).keep hbW)
  have S4 := hide hsg
  have B4 := hide ((unhide B3).trans (hbW.mono (unhide B3).size))
  have hlt4 : W3.heap.size < W4.heap.size := by omega
  have hcap : n + 16 ≤ cap4 := hsg.le
  clear hcv hsg hbW hsz K3 B3
  have hc1 : ¬ cap4 = n := by omega
  have hc2 : (n : Int) ≤ (cap4 : Int) := by omega
  generalize W3.heap.size = ga at *
  have n1 : (0 : Int) ≤ (n : Int) ∧ (n : Int) ≤ (n : Int) + 16 := by omega
  have n2 : (0 : Int) ≤ (n : Int) := by omega
  go_wp2_with fail
  go_region
  have K5 : SK W4.drew kb cb key nonce := ⟨(unhide K4).c0, (unhide K4).c1, (unhide K4).c2, (unhide K4).st.drew, (unhide K4).ci.drew⟩
  have S5 := (unhide S4).drew
  have B5 := (unhide B4).drew
  have hz5 : ga < W4.drew.heap.size := by rw [World.size_drew]; exact hlt4
  clear K4 S4 B4 hlt4
  generalize W4.drew = W5 at *
  have HK5 := hide K5
  have HS5 := hide S5
  have HB5 := hide B5
  clear K5 S5 B5
  go_wp2_with fail
  obtain ⟨cap6, W6, hcv, hbW, hsg, hsz⟩ := conv_sp W5.drew beside
  rw [World.size_drew] at hsg hcv hsz
  have hgb : ga < W5.heap.size := hz5
  have K6 : SK W6 kb cb key nonce := (⟨(unhide HK5).c0, (unhide HK5).c1, (unhide HK5).c2, (unhide HK5).st.drew, (unhide HK5).ci.drew⟩ : SK W5.drew kb cb key nonce).keep hbW
  have A6 := ((unhide HS5).drew.ar).below hbW (by rw [World.size_drew]; exact hz5)
  have C6 : Sg W6 ga 0 n n (at8 (s.extract 0 n)) := ⟨by
    have h := A6.part 0 n (by omega)
    exact h.congr (fun i hi => by rw [Nat.zero_add, at8_extract s 0 n i (by omega) (by omega), Nat.zero_add]), Nat.le_refl _, fun j h1 h2 => by omega⟩
  have HTG := implTag kb cb key nonce W5.heap.size 0 beside.size cap6 (at8 beside) ga 0 n n (at8 (s.extract 0 n)) (at8_lt beside) (at8_lt _) hb hn15 W6 K6 hsg C6 (by omega) w1.heap.size hl1 hl2 (by omega) (by omega)
  have R0 : W5.drew.rangeAt ga n (us 16 (fun i => at8 s (n + i))) := by
    have h := (unhide HS5).drew.ar.part n 16 (by omega)
    rw [Nat.zero_add] at h
    exact h.range
  have R6 : W6.rangeAt ga n (us 16 (fun i => at8 s (n + i))) := by
    have h := A6.part n 16 (by omega)
    rw [Nat.zero_add] at h
    exact h.range
  have KR : Hid (∀ V, Below W5.heap.size W6 V → V.rangeAt ga n (us 16 (fun i => at8 s (n + i)))) := fun V hV => by
    have h := (A6.below hV hgb).part n 16 (by omega)
    rw [Nat.zero_add] at h
    exact h.range
  have hu := Try.underlying84
  have hi16 : (Try.prog.info? 84).map (·.size) = some (us 16 (fun i => at8 s (n + i))).length := by rw [us_length]; exact info_bl
  have hguard := guard16
  have HB6 := hide ((unhide HB5).drew.trans (hbW.mono (by rw [World.size_drew]; exact (unhide HB5).size)))
  have HK6 := hide K6
  have HA6 := hide A6
  have HTG := hide HTG
  have HEQ := hide heq
  have hww : w.heap.size ≤ w1.heap.size := by omega
  clear hbW hsz hsg C6 K6 A6 HK5 HS5 HB5 heq
  generalize hg9 : (fun i => at8 s (n + i)) = tl at *
  have HG9 := hide hg9
  clear hg9
  generalize tgB key nonce beside.size n (at8 beside) (at8 (s.extract 0 n)) = tb at *
  refine wp_region_held_drew (S := fun V => V.rangeAt ga n (us 16 tl)) (by kernel_rfl) R0 (fun hHeld => ?_)
  refine wpAnyH_take (i := 0) (v := ?_) rfl (by kernel_rfl) (by kernel_rfl) (by kernel_rfl) (fun _ _ _ h => h) (Or.inl ⟨by rfl, ?_⟩) hHeld ?_
  rotate_left
  · intro V hSw; go_simp; rfl
  simp only [Act.put, List.getElem_toArray, List.getElem_cons_zero, List.setIfInBounds_toArray, List.set_cons_zero, List.set_cons_succ]
  refine wpAnyH_take (i := 1) (v := ?_) rfl (by kernel_rfl) (by kernel_rfl) (by kernel_rfl) (fun _ _ _ h => h) (Or.inl ⟨by rfl, ?_⟩) hHeld ?_
  rotate_left
  · intro V hSw; go_simp; rfl
  simp only [Act.put, List.getElem_toArray, List.getElem_cons_succ, List.getElem_cons_zero, List.setIfInBounds_toArray, List.set_cons_zero, List.set_cons_succ]
  refine wpAnyH_take (i := 3) (v := ?_) rfl (by kernel_rfl) (by kernel_rfl) (by kernel_rfl) (fun _ _ _ h => h) (Or.inl ⟨by rfl, ?_⟩) hHeld ?_
  rotate_left
  · intro V hSw; go_simp; rfl
  simp only [Act.put, List.getElem_toArray, List.getElem_cons_succ, List.getElem_cons_zero, List.setIfInBounds_toArray, List.set_cons_zero, List.set_cons_succ]
  refine wpAnyH_take (i := 5) (v := ?_) rfl (by kernel_rfl) (by kernel_rfl) (by kernel_rfl) (fun _ _ _ h => h) (Or.inl ⟨by rfl, ?_⟩) hHeld ?_
  rotate_left
  · intro V hSw; go_simp; rfl
  simp only [Act.put, List.getElem_toArray, List.getElem_cons_succ, List.getElem_cons_zero, List.setIfInBounds_toArray, List.set_cons_zero, List.set_cons_succ]
  refine wpAnyH_take (i := 6) (v := ?_) rfl (by kernel_rfl) (by kernel_rfl) (by kernel_rfl) (fun _ _ _ h => h) (Or.inl ⟨by rfl, ?_⟩) hHeld ?_
  rotate_left
  · intro V hSw; go_simp; rfl
  simp only [Act.put, List.getElem_toArray, List.getElem_cons_succ, List.getElem_cons_zero, List.setIfInBounds_toArray, List.set_cons_zero, List.set_cons_succ]
  refine wpAnyH_take (i := 7) (v := .agg (us 16 tl).toArray) rfl (by kernel_rfl) (by kernel_rfl) (by kernel_rfl) (fun _ _ _ h => h) (yieldsIf_load_mid (by rfl) 84 (.tmp 59) rfl ga n rfl (us 16 tl) _ (fun V h => h) hu rfl hi16) hHeld ?_
  try simp only [Act.put, List.getElem_toArray, List.getElem_cons_succ, List.getElem_cons_zero, List.setIfInBounds_toArray, List.set_cons_zero, List.set_cons_succ]
  refine wpAnyH_ready (rs := [2]) (by kernel_rfl) (by simp) ?_
  refine AllReadyH.cons rfl (fun K hK => ?_) AllReadyH.nil
  go_simp
  refine hK.out _ _ (R6) (fun hHeld => ?_)
  clear hK K
  try simp only [Act.put, List.getElem_toArray, List.getElem_cons_succ, List.getElem_cons_zero, List.setIfInBounds_toArray, List.set_cons_zero, List.set_cons_succ]
  refine wpAnyH_ready (rs := [4]) (by kernel_rfl) (by simp) ?_
  refine AllReadyH.cons rfl (fun K hK => ?_) AllReadyH.nil
  go_simp
  go_at_call 53
  refine (unhide HTG).mono ?_
  rintro e w7 ⟨rfl, b7, g7⟩
  have G7 := g7 rfl hgb
  refine hK.out _ _ (unhide KR _ G7) (fun hHeld => ?_)
  clear hK K
  try simp only [Act.put, List.getElem_toArray, List.getElem_cons_succ, List.getElem_cons_zero, List.setIfInBounds_toArray, List.set_cons_zero, List.set_cons_succ]
  have heq7 := unhide HEQ w7
  refine wpAnyH_ready (rs := [8]) (by kernel_rfl) (by simp) ?_
  refine AllReadyH.cons rfl (fun K hK => ?_) AllReadyH.nil
  go_simp
  refine hK.out _ _ (hHeld) (fun hHeld => ?_)
  clear hK K
  try simp only [Act.put, List.getElem_toArray, List.getElem_cons_succ, List.getElem_cons_zero, List.setIfInBounds_toArray, List.set_cons_zero, List.set_cons_succ]
  refine wpAnyH_done (by kernel_rfl) ?_ _
  have K7 := hide ((unhide HK6).below b7 hl1 hl2)
  have B7 := hide ((unhide HB6).trans (b7.mono hww))
  have A7 := hide ((unhide HA6).below G7 hgb)
  clear b7 g7 G7 heq7 HK6 HB6 HA6 HTG HEQ hHeld R0 R6 KR hcv hguard hi16
  cases b
  · go_wp2
    go_ret2
    exact ⟨rfl, unhide B7⟩
  · have K7d : SK w7.drew kb cb key nonce := ⟨(unhide K7).c0, (unhide K7).c1, (unhide K7).c2, (unhide K7).st.drew, (unhide K7).ci.drew⟩
    have S0 : w7.drew.cell? ⟨kb, 0, none⟩ = some (.pointer (some ⟨cb, 0, none⟩)) ∧ w7.drew.rangeAt kb 3 (us 16 (at8 nonce)) := ⟨K7d.c0, K7d.st.range⟩
    have KQ : Hid (∀ V, Below w7.drew.heap.size w7.drew V → V.cell? ⟨kb, 0, none⟩ = some (.pointer (some ⟨cb, 0, none⟩)) ∧ V.rangeAt kb 3 (us 16 (at8 nonce))) := fun V hV => ⟨(K7d.keep hV).c0, (K7d.keep hV).st.range⟩
    have HPL : Hid (∀ V, Calls Try.prog 52 #[.agg (us 16 (at8 nonce)).toArray, .int .i64 2] V fun e w' => e = .returned (.agg (us 16 (plB (at8 nonce) 2)).toArray) ∧ Below V.heap.size V w') := fun V => implPlus (at8 nonce) 2 (at8_lt nonce) (by omega) V
    have hez : (s.extract 0 n).size = n := by rw [ByteArray.size_extract]; omega
    have HCO : Hid (∀ V, Ar V cb 0 432 (ck (at8 key) 10) → Calls Try.prog 51 #[.pointer (some ⟨cb, 0, none⟩), .agg (us 16 (plB (at8 nonce) 2)).toArray, .string (s.extract 0 n)] V fun e w' => e = .returned (.string (cnW key nonce (s.extract 0 n))) ∧ Below V.heap.size V w') := fun V h => implCounted cb (at8 key) (plB (at8 nonce) 2) (s.extract 0 n) (at8_lt key) (plB_lt _ (at8_lt nonce) 2) (by omega) V h
    have KC : Hid (∀ V, Below w7.drew.heap.size w7.drew V → Ar V cb 0 432 (ck (at8 key) 10)) := fun V hV => (K7d.keep hV).ci
    have KV : Hid (∀ V, Below w7.drew.heap.size w7.drew V → (convert 32 9 (.slice (some ⟨ga, 0, none⟩) n n)).run Try.prog V = .ok (.string (s.extract 0 n)) V) := fun V hV => by
      have h := ((unhide A7).drew.below hV (unhide A7).lt).part 0 n (by omega)
      have h2 := ar_string h (fun i _ => by rw [Nat.zero_add]; exact at8_lt s i) n
      rw [Nat.zero_add] at h2
      rw [h2, ← bq_at8 (s.extract 0 n), hez]
      congr 2
      exact bq_congr (fun i hi => by rw [at8_extract s 0 n i (by omega) (by omega)])
    have hi16 : (Try.prog.info? 84).map (·.size) = some (us 16 (at8 nonce)).length := by rw [us_length]; exact info_bl
    have B7d := hide (unhide B7).drew
    have D0 : Below w7.drew.heap.size w7.drew w7.drew := Below.refl _ _
    clear K7 B7 A7 K7d hez
    generalize hcw : cnW key nonce (s.extract 0 n) = cw at *
    have HCW := hide hcw
    clear hcw
    generalize hsx : s.extract 0 n = sx at *
    have HSX := hide hsx
    clear hsx
    generalize plB (at8 nonce) 2 = pp at *
    have hv0 := unhide KV _ D0
    go_wp2_with fail
    refine wp_region_held_drew (S := fun V => V.cell? ⟨kb, 0, none⟩ = some (.pointer (some ⟨cb, 0, none⟩)) ∧ V.rangeAt kb 3 (us 16 (at8 nonce))) (by kernel_rfl) S0 (fun hHeld => ?_)
    generalize w7.drew = V0 at *
    refine wpAnyH_take (i := 0) (v := ?_) rfl (by kernel_rfl) (by kernel_rfl) (by kernel_rfl) (fun _ _ _ h => h) (Or.inl ⟨by rfl, ?_⟩) hHeld ?_
    rotate_left
    · intro V hSw; go_simp; rfl
    simp only [Act.put, List.getElem_toArray, List.getElem_cons_zero, List.setIfInBounds_toArray, List.set_cons_zero, List.set_cons_succ]
    refine wpAnyH_take (i := 1) (v := ?_) rfl (by kernel_rfl) (by kernel_rfl) (by kernel_rfl) (fun _ _ _ h => h) (Or.inl ⟨by rfl, ?_⟩) hHeld ?_
    rotate_left
    · intro V hSw; go_simp; rfl
    simp only [Act.put, List.getElem_toArray, List.getElem_cons_succ, List.getElem_cons_zero, List.setIfInBounds_toArray, List.set_cons_zero, List.set_cons_succ]
    refine wpAnyH_take (i := 2) (v := ?_) rfl (by kernel_rfl) (by kernel_rfl) (by kernel_rfl) (fun _ _ _ h => h) (Or.inl ⟨by rfl, ?_⟩) hHeld ?_
    rotate_left
    · intro V hSw; go_simp; rfl
    simp only [Act.put, List.getElem_toArray, List.getElem_cons_succ, List.getElem_cons_zero, List.setIfInBounds_toArray, List.set_cons_zero, List.set_cons_succ]
    refine wpAnyH_take (i := 3) (v := ?_) rfl (by kernel_rfl) (by kernel_rfl) (by kernel_rfl) (fun _ _ _ h => h) (Or.inl ⟨by rfl, ?_⟩) hHeld ?_
    rotate_left
    · intro V hSw; go_simp; rfl
    simp only [Act.put, List.getElem_toArray, List.getElem_cons_succ, List.getElem_cons_zero, List.setIfInBounds_toArray, List.set_cons_zero, List.set_cons_succ]
    refine wpAnyH_take (i := 4) (v := ?_) rfl (by kernel_rfl) (by kernel_rfl) (by kernel_rfl) (fun _ _ _ h => h) (Or.inl ⟨by rfl, ?_⟩) hHeld ?_
    rotate_left
    · intro V hSw; go_simp; rfl
    simp only [Act.put, List.getElem_toArray, List.getElem_cons_succ, List.getElem_cons_zero, List.setIfInBounds_toArray, List.set_cons_zero, List.set_cons_succ]
    refine wpAnyH_take (i := 5) (v := ?_) rfl (by kernel_rfl) (by kernel_rfl) (by kernel_rfl) (fun _ _ _ h => h) (Or.inl ⟨by rfl, ?_⟩) hHeld ?_
    rotate_left
    · intro V hSw; go_simp; rfl
    simp only [Act.put, List.getElem_toArray, List.getElem_cons_succ, List.getElem_cons_zero, List.setIfInBounds_toArray, List.set_cons_zero, List.set_cons_succ]
    refine wpAnyH_take (i := 6) (v := ?_) rfl (by kernel_rfl) (by kernel_rfl) (by kernel_rfl) (fun _ _ _ h => h) (Or.inl ⟨by rfl, ?_⟩) hHeld ?_
    rotate_left
    · intro V hSw; go_simp; rfl
    simp only [Act.put, List.getElem_toArray, List.getElem_cons_succ, List.getElem_cons_zero, List.setIfInBounds_toArray, List.set_cons_zero, List.set_cons_succ]
    refine wpAnyH_take (i := 7) (v := .agg (us 16 (at8 nonce)).toArray) rfl (by kernel_rfl) (by kernel_rfl) (by kernel_rfl) (fun _ _ _ h => h) (yieldsIf_load_mid (by rfl) 84 (.tmp 68) rfl kb 3 rfl (us 16 (at8 nonce)) _ (fun V h => h.2) hu rfl hi16) hHeld ?_
    try simp only [Act.put, List.getElem_toArray, List.getElem_cons_succ, List.getElem_cons_zero, List.setIfInBounds_toArray, List.set_cons_zero, List.set_cons_succ]
    refine wpAnyH_take (i := 9) (v := ?_) rfl (by kernel_rfl) (by kernel_rfl) (by kernel_rfl) (fun _ _ _ h => h) (Or.inl ⟨by rfl, ?_⟩) hHeld ?_
    rotate_left
    · intro V hSw; go_simp; rfl
    simp only [Act.put, List.getElem_toArray, List.getElem_cons_succ, List.getElem_cons_zero, List.setIfInBounds_toArray, List.set_cons_zero, List.set_cons_succ]
    refine wpAnyH_ready (rs := [8, 10]) (by kernel_rfl) (by simp) ?_
    refine AllReadyH.cons rfl (fun K hK => ?_) (AllReadyH.cons rfl (fun K hK => ?_) AllReadyH.nil)
    · go_simp
      go_at_call 52
      refine (unhide HPL _).mono ?_
      rintro e w8 ⟨rfl, b8⟩
      have hv8 := unhide KV _ b8
      refine hK.out _ _ (unhide KQ _ b8) (fun hHeld => ?_)
      clear hK K
      try simp only [Act.put, List.getElem_toArray, List.getElem_cons_succ, List.getElem_cons_zero, List.setIfInBounds_toArray, List.set_cons_zero, List.set_cons_succ]
      refine wpAnyH_ready (rs := [10]) (by kernel_rfl) (by simp) ?_
      refine AllReadyH.cons rfl (fun K hK => ?_) AllReadyH.nil
      go_simp
      refine hK.out _ _ (hHeld) (fun hHeld => ?_)
      clear hK K
      try simp only [Act.put, List.getElem_toArray, List.getElem_cons_succ, List.getElem_cons_zero, List.setIfInBounds_toArray, List.set_cons_zero, List.set_cons_succ]
      refine wpAnyH_ready (rs := [11]) (by kernel_rfl) (by simp) ?_
      refine AllReadyH.cons rfl (fun K hK => ?_) AllReadyH.nil
      go_simp
      go_at_call 51
      refine (unhide HCO _ (unhide KC _ b8)).mono ?_
      rintro e w9 ⟨rfl, b9⟩
      have B89 := b8.trans (b9.mono b8.size)
      refine hK.out _ _ (unhide KQ _ B89) (fun hHeld => ?_)
      clear hK K
      try simp only [Act.put, List.getElem_toArray, List.getElem_cons_succ, List.getElem_cons_zero, List.setIfInBounds_toArray, List.set_cons_zero, List.set_cons_succ]
      refine wpAnyH_ready (rs := [12]) (by kernel_rfl) (by simp) ?_
      refine AllReadyH.cons rfl (fun K hK => ?_) AllReadyH.nil
      go_simp
      refine hK.out _ _ (hHeld) (fun hHeld => ?_)
      clear hK K
      try simp only [Act.put, List.getElem_toArray, List.getElem_cons_succ, List.getElem_cons_zero, List.setIfInBounds_toArray, List.set_cons_zero, List.set_cons_succ]
      refine wpAnyH_ready (rs := [13]) (by kernel_rfl) (by simp) ?_
      refine AllReadyH.cons rfl (fun K hK => ?_) AllReadyH.nil
      go_simp
      refine hK.out _ _ (hHeld) (fun hHeld => ?_)
      clear hK K
      try simp only [Act.put, List.getElem_toArray, List.getElem_cons_succ, List.getElem_cons_zero, List.setIfInBounds_toArray, List.set_cons_zero, List.set_cons_succ]
      refine wpAnyH_done (by kernel_rfl) ?_ _
      have B9 := hide ((unhide B7d).trans (B89.mono (unhide B7d).size))
      clear b8 b9 B89 hHeld
      go_wp2
      go_ret2
      exact ⟨by rw [unhide HSX, cond_true, unhide HCW]; rfl, unhide B9⟩
    · go_simp
      refine hK.out _ _ (hHeld) (fun hHeld => ?_)
      clear hK K
      try simp only [Act.put, List.getElem_toArray, List.getElem_cons_succ, List.getElem_cons_zero, List.setIfInBounds_toArray, List.set_cons_zero, List.set_cons_succ]
      refine wpAnyH_ready (rs := [8]) (by kernel_rfl) (by simp) ?_
      refine AllReadyH.cons rfl (fun K hK => ?_) AllReadyH.nil
      go_simp
      go_at_call 52
      refine (unhide HPL _).mono ?_
      rintro e w8 ⟨rfl, b8⟩
      refine hK.out _ _ (unhide KQ _ b8) (fun hHeld => ?_)
      clear hK K
      try simp only [Act.put, List.getElem_toArray, List.getElem_cons_succ, List.getElem_cons_zero, List.setIfInBounds_toArray, List.set_cons_zero, List.set_cons_succ]
      refine wpAnyH_ready (rs := [11]) (by kernel_rfl) (by simp) ?_
      refine AllReadyH.cons rfl (fun K hK => ?_) AllReadyH.nil
      go_simp
      go_at_call 51
      refine (unhide HCO _ (unhide KC _ b8)).mono ?_
      rintro e w9 ⟨rfl, b9⟩
      have B89 := b8.trans (b9.mono b8.size)
      refine hK.out _ _ (unhide KQ _ B89) (fun hHeld => ?_)
      clear hK K
      try simp only [Act.put, List.getElem_toArray, List.getElem_cons_succ, List.getElem_cons_zero, List.setIfInBounds_toArray, List.set_cons_zero, List.set_cons_succ]
      refine wpAnyH_ready (rs := [12]) (by kernel_rfl) (by simp) ?_
      refine AllReadyH.cons rfl (fun K hK => ?_) AllReadyH.nil
      go_simp
      refine hK.out _ _ (hHeld) (fun hHeld => ?_)
      clear hK K
      try simp only [Act.put, List.getElem_toArray, List.getElem_cons_succ, List.getElem_cons_zero, List.setIfInBounds_toArray, List.set_cons_zero, List.set_cons_succ]
      refine wpAnyH_ready (rs := [13]) (by kernel_rfl) (by simp) ?_
      refine AllReadyH.cons rfl (fun K hK => ?_) AllReadyH.nil
      go_simp
      refine hK.out _ _ (hHeld) (fun hHeld => ?_)
      clear hK K
      try simp only [Act.put, List.getElem_toArray, List.getElem_cons_succ, List.getElem_cons_zero, List.setIfInBounds_toArray, List.set_cons_zero, List.set_cons_succ]
      refine wpAnyH_done (by kernel_rfl) ?_ _
      have B9 := hide ((unhide B7d).trans (B89.mono (unhide B7d).size))
      clear b8 b9 B89 hHeld
      go_wp2
      go_ret2
      exact ⟨by rw [unhide HSX, cond_true, unhide HCW]; rfl, unhide B9⟩
set_option maxRecDepth 100000 in
set_option maxHeartbeats 1000000 in
theorem implOT_bad (key nonce beside s : ByteArray) (h : ¬ (key.size = 16 ∧ nonce.size = 12 ∧ beside.size ≤ 1500 ∧ s.size ≤ 1516 ∧ 16 ≤ s.size)) (l0 : key.size ≤ 1048576) (l1 : nonce.size ≤ 1048576) (l2 : beside.size ≤ 1048576) (l3 : s.size ≤ 1048576) (w : World) :
    Calls Try.prog 42 #[.string key, .string nonce, .string beside, .string s] w fun e w' => e = .returned (.tuple #[.string ⟨#[]⟩, .bool false]) ∧ Below w.heap.size w w' := by
  by_cases hkn : key.size = 16 ∧ nonce.size = 12
  · have H1 := hide (fun W => newSeal_ok key nonce hkn.1 hkn.2 W)
    have HC : Hid (∀ W g c, W.cell? ⟨g, 0, none⟩ = some (.string beside) → Calls Try.prog 39 #[.int .i64 1500, .slice (some ⟨g, 0, none⟩) 1 c] W fun e w' => e = .returned (.bool (decide (beside.size ≤ 1500))) ∧ w' = W) := fun W g c hc => within_one beside 1500 (by omega) l2 W g c hc
    have HD : Hid (∀ W g c, W.cell? ⟨g, 0, none⟩ = some (.string s) → Calls Try.prog 39 #[.int .i64 1516, .slice (some ⟨g, 0, none⟩) 1 c] W fun e w' => e = .returned (.bool (decide (s.size ≤ 1516))) ∧ w' = W) := fun W g c hc => within_one s 1516 (by omega) l3 W g c hc
    go_enter Try.func42, Try.ntmps42
    go_wp2_with fail
    refine (unhide H1 _).mono ?_
    rintro e w1 ⟨kb, cb, hkb, hcb, rfl, hK, b1⟩
    have B1 := hide b1
    clear hK b1
    go_wp2_with fail
    refine (unhide HC _ _ _ (by simp)).mono ?_
    rintro e w2 ⟨rfl, h9⟩
    rw [h9]
    clear h9 w2
    have B2 := hide ((unhide B1).alloc (unhide B1).size (.cells #[.string beside] 9))
    generalize w1.alloc (.cells #[.string beside] 9) = W2 at B2 ⊢
    clear B1
    by_cases hb : beside.size ≤ 1500
    · rw [decide_eq_true hb]
      go_wp2_with fail
      refine (unhide HD _ _ _ (by simp)).mono ?_
      rintro e w3 ⟨rfl, h9⟩
      rw [h9]
      clear h9 w3
      have B3 := hide ((unhide B2).alloc (unhide B2).size (.cells #[.string s] 9))
      generalize W2.alloc (.cells #[.string s] 9) = W3 at B3 ⊢
      clear B2
      by_cases hs : s.size ≤ 1516
      · rw [decide_eq_true hs]
        have h16 : (s.size : Int) < 16 := by omega
        go_wp2
        go_ret2
        exact ⟨rfl, unhide B3⟩
      · rw [decide_eq_false hs]
        go_wp2
        go_ret2
        exact ⟨rfl, unhide B3⟩
    · rw [decide_eq_false hb]
      go_wp2
      go_ret2
      exact ⟨rfl, unhide B2⟩
  · have H1 := hide (fun W => newSeal_no key nonce hkn l0 l1 W)
    go_enter Try.func42, Try.ntmps42
    go_wp2_with fail
    refine (unhide H1 _).mono ?_
    rintro e w1 ⟨rfl, b1⟩
    have B1 := hide b1
    clear b1
    go_wp2
    go_ret2
    exact ⟨rfl, unhide B1⟩
theorem tail_eq (key nonce beside s : ByteArray) (n : Nat) (hsn : s.size = n + 16) : (∀ i, i < 16 → tgB key nonce beside.size n (at8 beside) (at8 (s.extract 0 n)) i = at8 s (n + i)) ↔ s.extract n (n + 16) = tgW key nonce beside (s.extract 0 n) := by
  have hz : (s.extract 0 n).size = n := by rw [ByteArray.size_extract]; omega
  have hz2 : (s.extract n (n + 16)).size = 16 := by rw [ByteArray.size_extract]; omega
  have e1 : tgW key nonce beside (s.extract 0 n) = bq 16 (tgB key nonce beside.size n (at8 beside) (at8 (s.extract 0 n))) := by unfold tgW; rw [hz]
  rw [e1]
  constructor
  · intro h
    rw [← bq_at8 (s.extract n (n + 16)), hz2]
    exact bq_congr (fun i hi => by rw [at8_extract s n (n + 16) i (by omega) (by omega), h i hi])
  · intro h i hi
    have := congrArg (fun t => at8 t i) h
    simp only [at8_extract s n (n + 16) i (by omega) (by omega)] at this
    rw [this, at8_bq 16 _ i hi (tgB_lt _ _ _ _ _ _ i)]
theorem implOT_ok (key nonce beside s : ByteArray) (h : opH key nonce beside s) (w : World) :
    Calls Try.prog 42 #[.string key, .string nonce, .string beside, .string s] w fun e w' => e = .returned (.tuple #[.string (cnW key nonce (s.extract 0 (s.size - 16))), .bool true]) ∧ Below w.heap.size w w' := by
  obtain ⟨hk, hn, hb, hs, hs16, htag⟩ := h
  obtain ⟨n, hsn⟩ : ∃ n : Nat, s.size = n + 16 := ⟨s.size - 16, by omega⟩
  rw [show s.size - 16 = n by omega] at htag ⊢
  rw [hsn] at htag
  exact implOT_mid key nonce beside s n true hk hn hb hsn (by omega) (fun V => eq16_yes _ _ _ Try.underlying84 ((tail_eq key nonce beside s n hsn).2 htag) V) w
theorem implOT_no (key nonce beside s : ByteArray) (h : ¬ opH key nonce beside s) (l0 : key.size ≤ 1048576) (l1 : nonce.size ≤ 1048576) (l2 : beside.size ≤ 1048576) (l3 : s.size ≤ 1048576) (w : World) :
    Calls Try.prog 42 #[.string key, .string nonce, .string beside, .string s] w fun e w' => e = .returned (.tuple #[.string ⟨#[]⟩, .bool false]) ∧ Below w.heap.size w w' := by
  by_cases hc : key.size = 16 ∧ nonce.size = 12 ∧ beside.size ≤ 1500 ∧ s.size ≤ 1516 ∧ 16 ≤ s.size
  · obtain ⟨hk, hn, hb, hs, hs16⟩ := hc
    obtain ⟨n, hsn⟩ : ∃ n : Nat, s.size = n + 16 := ⟨s.size - 16, by omega⟩
    have hno : ¬ ∀ i, i < 16 → tgB key nonce beside.size n (at8 beside) (at8 (s.extract 0 n)) i = at8 s (n + i) := fun x => h ⟨hk, hn, hb, hs, hs16, by rw [show s.size - 16 = n by omega, hsn]; exact (tail_eq key nonce beside s n hsn).1 x⟩
    obtain ⟨i, hi, hne⟩ : ∃ i, i < 16 ∧ tgB key nonce beside.size n (at8 beside) (at8 (s.extract 0 n)) i ≠ at8 s (n + i) := Classical.byContradiction fun x => hno fun i hi => Classical.byContradiction fun y => x ⟨i, hi, y⟩
    exact implOT_mid key nonce beside s n false hk hn hb hsn (by omega) (fun V => eq16_no _ _ _ Try.underlying84 i hi hne V) w
  · exact implOT_bad key nonce beside s hc l0 l1 l2 l3 w
end Go.Proofs.Ytkpodgeinanceaa
