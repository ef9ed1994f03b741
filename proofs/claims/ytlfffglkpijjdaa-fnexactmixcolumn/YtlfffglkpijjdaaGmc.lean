/-
  Contracts: MixColumn of both sides.
-/
import Derived.Test.YtlfffglkpijjdaaGsm
import Derived.Test.YtlfffglkpijjdaaArs
namespace Go.Proofs.Ytlfffglkpijjdaa
open Go.ChangeShapes Go.WideShapes Go.ChangeAt Go.RowKit
set_option linter.unusedVariables false

theorem mixg_eq (F : Nat → Nat) (hF : ∀ i, F i < 256) (i : Nat) (hi : i < 4) : mixg (q4 2 3 1 1) F i = mixc F i := by
  have e0 : (i + 0) % 4 = i := by omega
  show 0 ^^^ mul 2 (F ((i + 0) % 4)) ^^^ mul 3 (F ((i + 1) % 4)) ^^^ mul 1 (F ((i + 2) % 4)) ^^^ mul 1 (F ((i + 3) % 4)) = _
  rw [e0, mul2 _ (hF _), mul3 _ (hF _), mul1 _ (hF _), mul1 _ (hF _), Nat.zero_xor]
  unfold mixc mx1
  simp only [Nat.xor_assoc]

/-- the literal of the four factors -/
theorem q4_new (w : World) (a b c d : Nat) (t : TypeId) : Ar (w.alloc (.cells #[.int .u8 a, .int .u8 b, .int .u8 c, .int .u8 d] t)) w.heap.size 0 4 (q4 a b c d) := Ar.new w 4 (q4 a b c d) t

set_option maxHeartbeats 1000000 in
theorem specMC (s : ByteArray) (hs : s.size = 4) (w : World) :
    Calls Try.prog 17 #[.string s] w fun e w' => e = .returned (.tuple #[.string (bq 4 (mixc (at8 s))), .bool true]) ∧ Below w.heap.size w w' := by
  go_enter Try.func17, Try.ntmps17
  go_wp2_with fail
  obtain ⟨cap, W, hcv, hbW, hcW, hsz⟩ := conv_ar w s
  rw [hcv, hs]
  rw [hs] at hcW
  have HW := hide hcW
  have HBW := hide hbW
  clear hcW hcv hbW
  go_wp2_with fail
  have hA1 := ((unhide HW).alloc (.cells #[.int .u8 (2 : Nat), .int .u8 (3 : Nat), .int .u8 (1 : Nat), .int .u8 (1 : Nat)] 5))
  have hA2 := q4_new W 2 3 1 1 5
  rw [hsz] at hA2
  refine (specMix w.heap.size 0 cap (w.heap.size + 1) 0 4 (at8 s) (q4 2 3 1 1) (at8_lt s) (by intro i; unfold q4; split; omega; split; omega; split <;> omega) _ hA1 hA2).mono ?_
  rintro e w2 ⟨g, hg, rfl, hA3, hB3⟩
  have hst := ar_string hA3 (fun i hi => by rw [mixg_eq _ (at8_lt s) i hi]; exact mixc_lt _ (at8_lt s) i) 4
  rw [bq_congr (fun i hi => mixg_eq _ (at8_lt s) i hi)] at hst
  clear hA1 hA2 hA3
  have HB3 := hide hB3
  clear hB3
  go_wp2
  go_ret2
  exact ⟨rfl, ((unhide HBW).alloc (by simp [hsz]) _).trans ((unhide HB3).mono (by simp [hsz]; omega))⟩
theorem zero4 {w w1 : World} {t : TypeId} (h : Below (w.alloc (.cells #[.int .u8 0, .int .u8 0, .int .u8 0, .int .u8 0] t)).drew.heap.size (w.alloc (.cells #[.int .u8 0, .int .u8 0, .int .u8 0, .int .u8 0] t)).drew w1) : Ar w1 w.heap.size 0 4 (fun _ => 0) := by
  have h0 : Ar (w.alloc (.cells #[.int .u8 0, .int .u8 0, .int .u8 0, .int .u8 0] t)) w.heap.size 0 4 (fun _ => 0) := Ar.new w 4 (fun _ => 0) t
  exact h0.drew.below h (by simp)
theorem zero4c {w1 : World} {b : Nat} (hz : Ar w1 b 0 4 (fun _ => 0)) : (w1.cell? ⟨b, 0, none⟩ = some (.int .u8 0) ∧ w1.frozen? ⟨b, 0, none⟩ = false) ∧ (w1.cell? ⟨b, 1, none⟩ = some (.int .u8 0) ∧ w1.frozen? ⟨b, 1, none⟩ = false) ∧ (w1.cell? ⟨b, 2, none⟩ = some (.int .u8 0) ∧ w1.frozen? ⟨b, 2, none⟩ = false) ∧ (w1.cell? ⟨b, 3, none⟩ = some (.int .u8 0) ∧ w1.frozen? ⟨b, 3, none⟩ = false) :=
  ⟨⟨hz.c0 0 (by omega), hz.f0 0 (by omega)⟩, ⟨hz.c0 1 (by omega), hz.f0 1 (by omega)⟩, ⟨hz.c0 2 (by omega), hz.f0 2 (by omega)⟩, ⟨hz.c0 3 (by omega), hz.f0 3 (by omega)⟩⟩
set_option maxHeartbeats 1000000 in
theorem implMC (s : ByteArray) (hs : s.size = 4) (w : World) :
    Calls Try.prog 18 #[.string s] w fun e w' => e = .returned (.tuple #[.string (bq 4 (mixc (at8 s))), .bool true]) ∧ Below w.heap.size w w' := by
  have hM : Hid (∀ W, Calls Try.prog 30 #[.agg #[.int .u8 ((s[0]'(by omega)).toNat : Int), .int .u8 ((s[1]'(by omega)).toNat : Int), .int .u8 ((s[2]'(by omega)).toNat : Int), .int .u8 ((s[3]'(by omega)).toNat : Int)]] W fun e w' => e = .returned (.agg #[.int .u8 (mixc (at8 s) 0), .int .u8 (mixc (at8 s) 1), .int .u8 (mixc (at8 s) 2), .int .u8 (mixc (at8 s) 3)]) ∧ Below W.heap.size W w') := fun W => by
    have h := implMixed (at8 s) (at8_lt s) W
    rw [us4, us4, at8_in s 0 (by omega), at8_in s 1 (by omega), at8_in s 2 (by omega), at8_in s 3 (by omega)] at h
    exact h
  have E := hide (show bq 4 (mixc (at8 s)) = bq 4 (q4 (mixc (at8 s) 0) (mixc (at8 s) 1) (mixc (at8 s) 2) (mixc (at8 s) 3)) from rfl)
  have l0 := mixc_lt _ (at8_lt s) 0
  have l1 := mixc_lt _ (at8_lt s) 1
  have l2 := mixc_lt _ (at8_lt s) 2
  have l3 := mixc_lt _ (at8_lt s) 3
  rw [unhide E]
  clear E
  generalize mixc (at8 s) 0 = m0 at *
  generalize mixc (at8 s) 1 = m1 at *
  generalize mixc (at8 s) 2 = m2 at *
  generalize mixc (at8 s) 3 = m3 at *
  go_enter Try.func18, Try.ntmps18
  go_wp2_with fail
  have i0 : (0 : Int) < s.size := by omega
  have i1 : (1 : Int) < s.size := by omega
  have i2 : (2 : Int) < s.size := by omega
  have i3 : (3 : Int) < s.size := by omega
  refine wp_region_noPanic ?_
  refine wp_region_held_drew (S := fun _ => True) (by kernel_rfl) True.intro (fun hHeld => ?_)
  refine wpAnyH_take (i := 0) (v := .string s) rfl (by kernel_rfl) (by kernel_rfl) (by kernel_rfl) (fun _ _ _ h => h) (Or.inl ⟨by rfl, ?_⟩) hHeld ?_
  · intro w hSw; go_simp
  simp only [Act.put, List.setIfInBounds_toArray]
  refine wpAnyH_take (i := 1) (v := .int .u8 ((s[0]'(by omega)).toNat : Int)) rfl (by kernel_rfl) (by kernel_rfl) (by kernel_rfl) (fun _ _ _ h => h) (Or.inl ⟨by rfl, ?_⟩) hHeld ?_
  · intro w hSw; go_simp
  simp only [Act.put]
  refine wpAnyH_take (i := 2) (v := .string s) rfl (by kernel_rfl) (by kernel_rfl) (by kernel_rfl) (fun _ _ _ h => h) (Or.inl ⟨by rfl, ?_⟩) hHeld ?_
  · intro w hSw; go_simp
  simp only [Act.put]
  refine wpAnyH_take (i := 3) (v := .int .u8 ((s[1]'(by omega)).toNat : Int)) rfl (by kernel_rfl) (by kernel_rfl) (by kernel_rfl) (fun _ _ _ h => h) (Or.inl ⟨by rfl, ?_⟩) hHeld ?_
  · intro w hSw; go_simp
  simp only [Act.put]
  refine wpAnyH_take (i := 4) (v := .string s) rfl (by kernel_rfl) (by kernel_rfl) (by kernel_rfl) (fun _ _ _ h => h) (Or.inl ⟨by rfl, ?_⟩) hHeld ?_
  · intro w hSw; go_simp
  simp only [Act.put]
  refine wpAnyH_take (i := 5) (v := .int .u8 ((s[2]'(by omega)).toNat : Int)) rfl (by kernel_rfl) (by kernel_rfl) (by kernel_rfl) (fun _ _ _ h => h) (Or.inl ⟨by rfl, ?_⟩) hHeld ?_
  · intro w hSw; go_simp
  simp only [Act.put]
  refine wpAnyH_take (i := 6) (v := .string s) rfl (by kernel_rfl) (by kernel_rfl) (by kernel_rfl) (fun _ _ _ h => h) (Or.inl ⟨by rfl, ?_⟩) hHeld ?_
  · intro w hSw; go_simp
  simp only [Act.put]
  refine wpAnyH_take (i := 7) (v := .int .u8 ((s[3]'(by omega)).toNat : Int)) rfl (by kernel_rfl) (by kernel_rfl) (by kernel_rfl) (fun _ _ _ h => h) (Or.inl ⟨by rfl, ?_⟩) hHeld ?_
  · intro w hSw; go_simp
  simp only [Act.put]
  refine wpAnyH_take (i := 8) (v := .agg #[.int .u8 ((s[0]'(by omega)).toNat : Int), .int .u8 ((s[1]'(by omega)).toNat : Int), .int .u8 ((s[2]'(by omega)).toNat : Int), .int .u8 ((s[3]'(by omega)).toNat : Int)]) rfl (by kernel_rfl) (by kernel_rfl) (by kernel_rfl) (fun _ _ _ h => h) (Or.inl ⟨by rfl, ?_⟩) hHeld ?_
  · intro w hSw; go_simp
  simp only [Act.put]
  refine wpAnyH_ready (rs := [9, 10]) (by kernel_rfl) (by simp) ?_
  refine AllReadyH.cons rfl (fun K hK => ?_) (AllReadyH.cons rfl (fun K hK => ?_) AllReadyH.nil)
  · go_simp
    go_at_call 30
    with_reducible refine (unhide hM _).mono ?_
    rintro e w1 ⟨rfl, hb1⟩
    have HB1 := hide hb1
    clear hb1
    refine hK.out _ _ True.intro (fun hHeld => ?_)
    clear hK K
    try simp only [Act.put, List.setIfInBounds_toArray, List.set_cons_zero, List.set_cons_succ]
    refine wpAnyH_ready (rs := [10]) (by kernel_rfl) (by simp) ?_
    refine AllReadyH.cons rfl (fun K hK => ?_) AllReadyH.nil
    go_simp
    refine hK.out _ _ True.intro (fun hHeld => ?_)
    clear hK K
    try simp only [Act.put, List.setIfInBounds_toArray, List.set_cons_zero, List.set_cons_succ]
    refine wpAnyH_ready (rs := [11]) (by kernel_rfl) (by simp) ?_
    refine AllReadyH.cons rfl (fun K hK => ?_) AllReadyH.nil
    go_simp
    refine hK.out _ _ True.intro (fun hHeld => ?_)
    clear hK K
    try simp only [Act.put, List.setIfInBounds_toArray, List.set_cons_zero, List.set_cons_succ]
    refine wpAnyH_done (by kernel_rfl) ?_ _
    refine NoPanic.normal ?_
    have hA := q4_new w1 m0 m1 m2 m3 34
    have hst := ar_string hA (fun i hi => by unfold q4; split; omega; split; omega; split <;> omega) 4
    clear hA
    go_wp2
    go_ret2
    exact ⟨rfl, ((Below.refl w.heap.size w).drew.trans (unhide HB1)).alloc ((unhide HB1).size) _⟩
  · go_simp
    refine hK.out _ _ True.intro (fun hHeld => ?_)
    clear hK K
    try simp only [Act.put, List.setIfInBounds_toArray, List.set_cons_zero, List.set_cons_succ]
    refine wpAnyH_ready (rs := [9]) (by kernel_rfl) (by simp) ?_
    refine AllReadyH.cons rfl (fun K hK => ?_) AllReadyH.nil
    go_simp
    go_at_call 30
    with_reducible refine (unhide hM _).mono ?_
    rintro e w1 ⟨rfl, hb1⟩
    have hz := zero4 hb1
    obtain ⟨⟨c0, g0⟩, ⟨c1, g1⟩, ⟨c2, g2⟩, ⟨c3, g3⟩⟩ := zero4c hz
    have HB1 := hide hb1
    have HZ := hide hz
    clear hz hb1
    refine hK.out _ _ True.intro (fun hHeld => ?_)
    clear hK K
    try simp only [Act.put, List.setIfInBounds_toArray, List.set_cons_zero, List.set_cons_succ]
    refine wpAnyH_ready (rs := [11]) (by kernel_rfl) (by simp) ?_
    refine AllReadyH.cons rfl (fun K hK => ?_) AllReadyH.nil
    go_simp
    refine hK.out _ _ True.intro (fun hHeld => ?_)
    clear hK K
    try simp only [Act.put, List.setIfInBounds_toArray, List.set_cons_zero, List.set_cons_succ]
    refine wpAnyH_done (by kernel_rfl) ?_ _
    refine NoPanic.normal ?_
    have hA := (((((unhide HZ).stepNone (f := q4 m0 m1 m2 m3)).step (k := 0) (x := m0) (by omega) rfl).step (k := 1) (x := m1) (by omega) rfl).step (k := 2) (x := m2) (by omega) rfl).step (k := 3) (x := m3) (by omega) rfl
    have hst := ar_string hA.stepEnd (fun i hi => by unfold q4; split; omega; split; omega; split <;> omega) 4
    clear hA
    go_wp2
    go_ret2
    refine ⟨rfl, ?_⟩
    iterate 4 refine Below.setCell ?_ (by simp) _
    exact ((Below.refl w.heap.size w).alloc (Nat.le_refl _) _).drew.trans ((unhide HB1).mono (by simp))
end Go.Proofs.Ytlfffglkpijjdaa
