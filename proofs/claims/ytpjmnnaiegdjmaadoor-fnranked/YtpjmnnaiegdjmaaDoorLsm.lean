/-
  Contracts: the model's sum.
-/
import Derived.Test.YtpjmnnaiegdjmaaDoorLfx
import Derived.Test.YtpjmnnaiegdjmaaDoorSen
import Derived.Test.YtpjmnnaiegdjmaaDoorLrn
namespace Go.Proofs.YtpjmnnaiegdjmaaDoor
open Go.ChangeShapes Go.WideShapes Go.ChangeAt Go.RowKit
set_option linter.unusedVariables false

/-- what a hash needs lies at hb: the words, the first state -/
structure L4 (w : World) (hb gw cw gf cf : Nat) : Prop where
  c0 : w.cell? ⟨hb, 0, none⟩ = some (.slice (some ⟨gw, 0, none⟩) 64 cw)
  c1 : w.cell? ⟨hb, 1, none⟩ = some (.slice (some ⟨gf, 0, none⟩) 8 cf)
  k : Rw w gw 0 64 KW
  f : Rw w gf 0 8 HW
  lt : hb < w.heap.size
theorem L4.kept {w w' : World} {hb gw cw gf cf : Nat} (h : L4 w hb gw cw gf cf) (hB : Below w.heap.size w w') : L4 w' hb gw cw gf cf :=
  ⟨by rw [hB.cell (p := ⟨hb, 0, none⟩) h.lt]; exact h.c0, by rw [hB.cell (p := ⟨hb, 1, none⟩) h.lt]; exact h.c1, h.k.kept hB, h.f.kept hB, Nat.lt_of_lt_of_le h.lt hB.size⟩
set_option maxRecDepth 100000 in
set_option maxHeartbeats 1000000 in
theorem specSum (t : ByteArray) (ht : t.size ≤ 10000) (w : World) (hb gw cw gf cf : Nat) (h : L4 w hb gw cw gf cf) :
    Calls Tryd.prog 59 #[.pointer (some ⟨hb, 0, none⟩), .string t] w fun e w' => e = .returned (.string (bq 32 (dgW (stW HW (bq (pdL t.size) (pdB t t.size)) (pdL t.size / 64))))) ∧ Below w.heap.size w w' := by
  have H := hide h
  clear h
  obtain ⟨nn, hnn⟩ : ∃ k, k = 63 - (t.size + 8) % 64 := ⟨_, rfl⟩
  have hL : pdL t.size = t.size + 1 + nn + 8 := by rw [hnn]; rfl
  have e128 : t ++ (⟨#[128]⟩ : ByteArray) = bq (t.size + 1 + 0) (pdB t t.size) := by
    rw [Nat.add_zero, ← bq_append t.size 1 (pdB t t.size), bq_congr (fun i hi => pdB_text t t.size i hi), bq_at8]
    congr 1
    show _ = bq 1 _
    rw [bq_congr (g := fun _ => 128) (fun i hi => by obtain rfl : i = 0 := (by omega); exact pdB_mark t t.size)]
    rfl
  have HZ : Hid (∀ j, j < nn → bq (t.size + 1 + j) (pdB t t.size) ++ (⟨#[0]⟩ : ByteArray) = bq (t.size + 1 + (j + 1)) (pdB t t.size)) := fun j hj => by
    rw [← Nat.add_assoc, ← bq_append (t.size + 1 + j) 1 (pdB t t.size)]
    congr 1
    show _ = bq 1 _
    rw [bq_congr (g := fun _ => 0) (fun i hi => pdB_zero t t.size _ (by omega) (by omega))]
    rfl
  have HU : Hid (bq (t.size + 1 + nn) (pdB t t.size) ++ bq 8 (fun i => byW (8 * t.size) (8 - 1 - i)) = bq (pdL t.size) (pdB t t.size)) := by
    rw [hL, ← bq_append (t.size + 1 + nn) 8 (pdB t t.size)]
    congr 1
    refine bq_congr fun i hi => ?_
    by_cases h4 : i < 4
    · rw [pdB_zero t t.size _ (by omega) (by omega), byW_hi _ _ (by omega) (by omega)]
    · rw [pdB_bits t t.size _ (by omega) (by omega), hL]
      congr 1
      omega
  have hUs : (bq (pdL t.size) (pdB t t.size)).size = 64 * (pdL t.size / 64) := by
    rw [bq_size]
    have := pdL_mod t.size
    omega
  have hK : pdL t.size / 64 ≤ 1000 := by have := pdL_gt t.size; omega
  have hLb := pdL_gt t.size
  have HBQ := hide (fun j => bq_size (t.size + 1 + j) (pdB t t.size))
  have HFX : Hid (∀ W, Calls Tryd.prog 76 #[.int .i64 (8 * (t.size : Int)), .int .i64 8] W fun e w' => e = .returned (.string (bq 8 (fun i => byW (8 * t.size) (8 - 1 - i)))) ∧ Below W.heap.size W w') := fun W => by
    have h := specFixed (8 * t.size) 8 (by omega) (by omega) W
    rw [Int.natCast_mul] at h
    exact h
  have ad0 := fun W : World => run_string_add_sum (P := Tryd.prog) (w := W) t ⟨#[128]⟩ (by show t.size + 1 ≤ _; omega)
  have HL := hide hL
  have HNN := hide hnn
  have hnb : nn ≤ 63 := by omega
  have hmod : (t.size + 1 + nn) % 64 = 56 := by omega
  have HE := hide e128
  generalize pdB t t.size = F at *
  clear hnn hL e128
  go_enter Tryd.func59, Tryd.ntmps59
  go_wp2_with fail
  rw [unhide HE]
  clear ad0 HE
  go_loopw [1] (fun sv wr => ∃ j : Nat, j ≤ nn ∧ sv = .string (bq (t.size + 1 + j) F) ∧ wr = w) (fun sv _ => match sv with | .string x => t.size + 1 + nn - x.size | _ => 0)
  case atStart => exact ⟨0, by omega, rfl, rfl⟩
  case round =>
    obtain ⟨j, hj, rfl, hww⟩ := hrel
    obtain rfl := hww.symm
    have hx := unhide HBQ j
    by_cases hlt : j < nn
    · have ad := fun W : World => run_string_add_sum (P := Tryd.prog) (w := W) (bq (t.size + 1 + j) F) ⟨#[0]⟩ (by rw [hx]; show _ + 1 ≤ _; omega)
      rw [unhide HZ j hlt] at ad
      have hne : ((((bq (t.size + 1 + j) F).size : Nat) : Int) % 64 != 56) = true := by rw [hx]; simp only [bne_iff_ne]; have := unhide HNN; omega
      have hx2 := unhide HBQ (j + 1)
      have HX2 := hide hx2
      have HX := hide hx
      clear hx hx2
      generalize hg2 : bq (t.size + 1 + (j + 1)) F = x2 at *
      generalize bq (t.size + 1 + j) F = x at *
      have HG2 := hide hg2
      clear hg2
      go_wp2_with fail
      exact ⟨⟨j + 1, by omega, by rw [unhide HG2], trivial⟩, by have h1 := unhide HX; have h2 := unhide HX2; show t.size + 1 + nn - x2.size < t.size + 1 + nn - x.size; omega⟩
    · obtain rfl : j = nn := by omega
      have heq : ((((bq (t.size + 1 + j) F).size : Nat) : Int) % 64 != 56) = false := by rw [hx]; simp only [bne_eq_false_iff_eq]; omega
      have adu := fun W : World => run_string_add_sum (P := Tryd.prog) (w := W) (bq (t.size + 1 + j) F) (bq 8 (fun i => byW (8 * t.size) (8 - 1 - i))) (by rw [hx, bq_size]; omega)
      rw [unhide HU] at adu
      clear hx HZ HBQ HNN HL hmod HU
      generalize bq (t.size + 1 + j) F = x at *
      generalize bq 8 (fun i => byW (8 * t.size) (8 - 1 - i)) = y8 at *
      generalize hue : bq (pdL t.size) F = u at *
      generalize hke : pdL t.size / 64 = K at *
      have HUE := hide hue
      have HKE := hide hke
      clear hue hke
      go_wp2_with fail
      refine (unhide HFX _).mono ?_
      rintro e w1 ⟨rfl, b1⟩
      have H1 := hide ((unhide H).kept b1)
      have B1 := hide b1
      clear b1
      have c1 := (unhide H1).c1
      go_wp2_with fail
      have HBS := hide (fun j h => blk_size u j h)
      have HSL := hide (fun k => stW_lt HW u HW_lt k)
      have HST : Hid (∀ k, stW HW u (k + 1) = bhW (stW HW u k) (blk u k)) := fun k => rfl
      have HBE : Hid (∀ j, blk u j = u.extract (64 * j) (64 * j + 64)) := fun j => rfl
      have hUi : ((u.size : Nat) : Int) = ((64 * K : Nat) : Int) := by omega
      go_loopw [6, 7] (fun sv av wx => ∃ k g c : Nat, k ≤ K ∧ av = .int .i64 ((64 * k : Nat) : Int) ∧ sv = .slice (some ⟨g, 0, none⟩) 8 c ∧ Rw wx g 0 8 (stW HW u k) ∧ L4 wx hb gw cw gf cf ∧ Below w.heap.size w wx) (fun _ av _ => u.size - (intOf av).toNat)
      case atStart => exact ⟨0, gf, cf, by omega, rfl, rfl, (unhide H1).f, unhide H1, unhide B1⟩
      case round =>
        obtain ⟨k, g, c, hk, rfl, rfl, hR, hL4, hBx⟩ := hrel
        by_cases hlt : k < K
        · have hbs := unhide HBS k (by omega)
          have ERS := hide (unhide HST k)
          have EB := unhide HBE k
          have hfl := unhide HSL k
          have GR := hide hR
          have GL := hide hL4
          have GB := hide hBx
          have hcw := hL4.c0
          clear hR hL4 hBx c1
          obtain ⟨p, hp⟩ : ∃ q, q = 64 * k := ⟨_, rfl⟩
          obtain ⟨p2, hp2⟩ : ∃ q, q = p + 64 := ⟨_, rfl⟩
          rw [← hp] at EB ⊢
          rw [← hp2] at EB
          have v1 : IntKind.i64.wrap ((p : Int) + 64) = (p2 : Int) := by rw [show (p : Int) + 64 = (p2 : Int) by omega]; exact wraps_i64 _ (by omega) (by omega)
          have v0 : IntKind.i64.wrap (p : Int) = (p : Int) := wraps_i64 _ (by omega) (by omega)
          have v2 : IntKind.i64.wrap (p2 : Int) = (p2 : Int) := wraps_i64 _ (by omega) (by omega)
          have i1 : (p : Int) < u.size := by omega
          have i2 : (p2 : Int) ≤ u.size := by omega
          have i3 : (p : Int) ≤ (p2 : Int) := by omega
          have i4 : p ≤ p2 := by omega
          have i5 : p2 ≤ u.size := by omega
          have HP := hide (And.intro hp hp2)
          have HEB := hide EB
          have HUS := hide hUs
          have HUI := hide hUi
          clear hp hp2 EB hUi hUs
          generalize hf : stW HW u k = f at *
          clear hf
          generalize hf' : stW HW u (k + 1) = f' at *
          have HF' := hide hf'
          clear hf'
          go_wp2_with fail
          refine wp_region_noPanic ?_
          refine wp_region_held_drew (S := fun V => V.cell? ⟨hb, 0, none⟩ = some (.slice (some ⟨gw, 0, none⟩) 64 cw)) (by kernel_rfl) hcw (fun hHeld => ?_)
          refine wpAnyH_take (i := 0) (v := ?_) rfl (by kernel_rfl) (by kernel_rfl) (by kernel_rfl) (fun _ _ _ h => h) (Or.inl ⟨by rfl, ?_⟩) hHeld ?_
          rotate_left
          · intro V hSw; go_simp; rfl
          simp only [Act.put, List.getElem_toArray, List.getElem_cons_zero, List.setIfInBounds_toArray, List.set_cons_zero, List.set_cons_succ]
          refine wpAnyH_take (i := 1) (v := ?_) rfl (by kernel_rfl) (by kernel_rfl) (by kernel_rfl) (fun _ _ _ h => h) (Or.inl ⟨by rfl, ?_⟩) hHeld ?_
          rotate_left
          · intro V hSw; go_simp; rfl
          simp only [Act.put, List.getElem_toArray, List.getElem_cons_succ, List.getElem_cons_zero, List.setIfInBounds_toArray, List.set_cons_zero, List.set_cons_succ]
          refine wpAnyH_take (i := 2) (v := ?_) rfl (by kernel_rfl) (by kernel_rfl) (by kernel_rfl) (fun _ _ _ h => h) (Or.inl ⟨by rfl, ?_⟩) hHeld ?_
          rotate_left
          · intro V hSw; go_simp; rfl
          simp only [Act.put, List.getElem_toArray, List.getElem_cons_succ, List.getElem_cons_zero, List.setIfInBounds_toArray, List.set_cons_zero, List.set_cons_succ]
          refine wpAnyH_take (i := 3) (v := ?_) rfl (by kernel_rfl) (by kernel_rfl) (by kernel_rfl) (fun _ _ _ h => h) (Or.inl ⟨by rfl, ?_⟩) hHeld ?_
          rotate_left
          · intro V hSw; go_simp; rfl
          simp only [Act.put, List.getElem_toArray, List.getElem_cons_succ, List.getElem_cons_zero, List.setIfInBounds_toArray, List.set_cons_zero, List.set_cons_succ]
          refine wpAnyH_take (i := 4) (v := ?_) rfl (by kernel_rfl) (by kernel_rfl) (by kernel_rfl) (fun _ _ _ h => h) (Or.inl ⟨by rfl, ?_⟩) hHeld ?_
          rotate_left
          · intro V hSw; go_simp; rfl
          simp only [Act.put, List.getElem_toArray, List.getElem_cons_succ, List.getElem_cons_zero, List.setIfInBounds_toArray, List.set_cons_zero, List.set_cons_succ]
          refine wpAnyH_take (i := 5) (v := ?_) rfl (by kernel_rfl) (by kernel_rfl) (by kernel_rfl) (fun _ _ _ h => h) (Or.inl ⟨by rfl, ?_⟩) hHeld ?_
          rotate_left
          · intro V hSw; go_simp; rfl
          simp only [Act.put, List.getElem_toArray, List.getElem_cons_succ, List.getElem_cons_zero, List.setIfInBounds_toArray, List.set_cons_zero, List.set_cons_succ]
          refine wpAnyH_take (i := 6) (v := ?_) rfl (by kernel_rfl) (by kernel_rfl) (by kernel_rfl) (fun _ _ _ h => h) (Or.inl ⟨by rfl, ?_⟩) hHeld ?_
          rotate_left
          · intro V hSw; go_simp; rfl
          simp only [Act.put, List.getElem_toArray, List.getElem_cons_succ, List.getElem_cons_zero, List.setIfInBounds_toArray, List.set_cons_zero, List.set_cons_succ]
          refine wpAnyH_take (i := 7) (v := ?_) rfl (by kernel_rfl) (by kernel_rfl) (by kernel_rfl) (fun _ _ _ h => h) (Or.inl ⟨by rfl, ?_⟩) hHeld ?_
          rotate_left
          · intro V hSw; go_simp; rfl
          simp only [Act.put, List.getElem_toArray, List.getElem_cons_succ, List.getElem_cons_zero, List.setIfInBounds_toArray, List.set_cons_zero, List.set_cons_succ]
          refine wpAnyH_take (i := 8) (v := ?_) rfl (by kernel_rfl) (by kernel_rfl) (by kernel_rfl) (fun _ _ _ h => h) (Or.inl ⟨by rfl, ?_⟩) hHeld ?_
          rotate_left
          · intro V hSw; go_simp; rfl
          simp only [Act.put, List.getElem_toArray, List.getElem_cons_succ, List.getElem_cons_zero, List.setIfInBounds_toArray, List.set_cons_zero, List.set_cons_succ]
          refine wpAnyH_take (i := 9) (v := ?_) rfl (by kernel_rfl) (by kernel_rfl) (by kernel_rfl) (fun _ _ _ h => h) (Or.inl ⟨by rfl, ?_⟩) hHeld ?_
          rotate_left
          · intro V hSw; go_simp; rfl
          simp only [Act.put, List.getElem_toArray, List.getElem_cons_succ, List.getElem_cons_zero, List.setIfInBounds_toArray, List.set_cons_zero, List.set_cons_succ]
          rw [← unhide HEB]
          refine wpAnyH_ready (rs := [10]) (by kernel_rfl) (by simp) ?_
          refine AllReadyH.cons rfl (fun K hK => ?_) AllReadyH.nil
          go_simp
          go_at_call 77
          refine (specRound g 0 c gw cw f (blk u k) hfl hbs _ ((unhide GR).kept ((Below.refl _ _).drew)) ((unhide GL).kept ((Below.refl _ _).drew)).k).mono ?_
          rintro e w2 ⟨g2, cp, rfl, hg2, hA, b2⟩
          have gl := ((unhide GL).kept ((Below.refl _ _).drew)).kept b2
          refine hK.out _ _ (gl.c0) (fun hHeld => ?_)
          clear hK K
          try simp only [Act.put, List.getElem_toArray, List.getElem_cons_succ, List.getElem_cons_zero, List.setIfInBounds_toArray, List.set_cons_zero, List.set_cons_succ]
          refine wpAnyH_take (i := 11) (v := ?_) rfl (by kernel_rfl) (by kernel_rfl) (by kernel_rfl) (fun _ _ _ h => h) (Or.inl ⟨by rfl, ?_⟩) hHeld ?_
          rotate_left
          · intro V hSw; go_simp; rfl
          simp only [Act.put, List.getElem_toArray, List.getElem_cons_succ, List.getElem_cons_zero, List.setIfInBounds_toArray, List.set_cons_zero, List.set_cons_succ]
          refine wpAnyH_done (by kernel_rfl) ?_ _
          refine NoPanic.normal ?_
          have Q0 := hide hA.r
          have Q1 := hide gl
          have Q2 := hide ((unhide GB).drew.trans (b2.mono (unhide GB).size))
          clear hA gl b2 hHeld hcw
          rw [← unhide ERS] at Q0
          go_wp2
          obtain ⟨hp, hp2⟩ := unhide HP
          have hus := unhide HUS
          exact ⟨⟨k + 1, g2, cp, by omega, by rw [hp2, hp]; go_num, rfl, by rw [unhide HF']; exact unhide Q0, unhide Q1, unhide Q2⟩, by simp [intOf]; omega⟩
        · obtain rfl : k = K := by omega
          have GR := hide hR
          have GB := hide hBx
          have HD := hide (unhide HSL k)
          clear hR hL4 hBx c1 HBS HST HBE HSL
          have hnl : ¬ ((64 * (k : Int)) < (u.size : Int)) := by omega
          generalize hfe : stW HW u k = f at *
          have HFE := hide hfe
          clear hfe
          have HBA : Hid (∀ i, bq (4 * i) (dgW f) ++ bq 4 (fun j => byW (f i) (4 - 1 - j)) = bq (4 * (i + 1)) (dgW f)) := fun i => by
            rw [show 4 * (i + 1) = 4 * i + 4 by omega, ← bq_append (4 * i) 4 (dgW f)]
            congr 1
            refine bq_congr fun j hj => ?_
            unfold dgW
            rw [show (4 * i + j) / 4 = i by omega, show 3 - (4 * i + j) % 4 = 4 - 1 - j by omega]
          go_wp2_with fail
          clear hnl
          generalize (64 * (k : Int)) = z20
          go_loopw [8, 49] (fun ov iv wx => ∃ i : Nat, i ≤ 8 ∧ iv = .int .i64 i ∧ ov = .string (bq (4 * i) (dgW f)) ∧ Rw wx g 0 8 f ∧ Below w.heap.size w wx) (fun _ iv _ => 8 - (intOf iv).toNat)
          case atStart => exact ⟨0, by omega, rfl, rfl, unhide GR, unhide GB⟩
          case round =>
            obtain ⟨i, hi, rfl, rfl, hR, hBx⟩ := hrel
            by_cases hlt : i < 8
            · have ad := fun W : World => run_string_add_sum (P := Tryd.prog) (w := W) (bq (4 * i) (dgW f)) (bq 4 (fun j => byW (f i) (4 - 1 - j))) (by rw [bq_size, bq_size]; omega)
              rw [unhide HBA i] at ad
              have hfl := unhide HD i
              have hc := hR.c i hlt
              rw [Nat.zero_add] at hc
              have HF4 : Hid (∀ W, Calls Tryd.prog 76 #[.int .i64 ((f i : Nat) : Int), .int .i64 4] W fun e w' => e = .returned (.string (bq 4 (fun j => byW (f i) (4 - 1 - j)))) ∧ Below W.heap.size W w') := fun W => specFixed (f i) 4 (by omega) (by omega) W
              have Q1 := hide hR
              have Q2 := hide hBx
              clear hR hBx GR GB
              generalize bq 4 (fun j => byW (f i) (4 - 1 - j)) = y4 at *
              generalize bq (4 * i) (dgW f) = o1 at *
              generalize hq2 : bq (4 * (i + 1)) (dgW f) = o2 at *
              have HO2 := hide hq2
              clear hq2
              generalize f i = x1 at *
              go_wp2_with fail
              refine (unhide HF4 _).mono ?_
              rintro e w5 ⟨rfl, b5⟩
              have Q3 := hide ((unhide Q1).kept b5)
              have Q4 := hide ((unhide Q2).trans (b5.mono (unhide Q2).size))
              clear b5
              go_wp2
              exact ⟨⟨i + 1, by omega, by go_num, by rw [unhide HO2], unhide Q3, unhide Q4⟩, by simp [intOf]; omega⟩
            · obtain rfl : i = 8 := by omega
              have Q2 := hide hBx
              clear hR hBx GR GB
              go_wp2
              go_ret
              exact ⟨by rw [unhide HUE, unhide HKE, unhide HFE]; rfl, unhide Q2⟩
end Go.Proofs.YtpjmnnaiegdjmaaDoor
