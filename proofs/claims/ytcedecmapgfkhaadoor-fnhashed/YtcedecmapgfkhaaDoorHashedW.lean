/-
  The law on hashes of drawn texts, walked.
-/
import Derived.Test.YtcedecmapgfkhaaDoorDrh
import Derived.Test.YtcedecmapgfkhaaDoorLnw
import Derived.Test.YtcedecmapgfkhaaDoorIhf
namespace Go.Proofs.YtcedecmapgfkhaaDoor.fnHashed
open Go.ChangeShapes Go.WideShapes Go.ChangeAt Go.RowKit
set_option linter.unusedVariables false

theorem byte_string (w : World) (n q : Nat) : (convert 22 9 (.slice (some ⟨w.heap.size, 0, none⟩) 1 1)).run Tryd.prog (w.alloc (.cells #[.int .u8 (8 * (n : Int) / 2 ^ (8 * q) % 256)] 5)) = .ok (.string (bq 1 (fun _ => byW (8 * n) q))) (w.alloc (.cells #[.int .u8 (8 * (n : Int) / 2 ^ (8 * q) % 256)] 5)) := by
  have h := Ar.new w 1 (fun _ => byW (8 * n) q) 5
  have e : (us 1 (fun _ => byW (8 * n) q)).toArray = #[.int .u8 (8 * (n : Int) / 2 ^ (8 * q) % 256)] := by
    rw [us_def]
    show #[Value.int .u8 ((byW (8 * n) q : Nat) : Int)] = _
    rw [byI, Int.natCast_mul]
    rfl
  rw [e] at h
  exact ar_string h (fun _ _ => byW_lt _ _) 1
theorem four_string (w : World) (x : Nat) (hx : x < 4294967296) : (convert 22 9 (.slice (some ⟨w.heap.size, 0, none⟩) 4 4)).run Tryd.prog (w.alloc (.cells #[.int .u8 ((x : Int) / 16777216), .int .u8 ((x : Int) / 65536 % 256), .int .u8 ((x : Int) / 256 % 256), .int .u8 ((x : Int) % 256)] 5)) = .ok (.string (bq 4 (fun j => byW x (3 - j)))) (w.alloc (.cells #[.int .u8 ((x : Int) / 16777216), .int .u8 ((x : Int) / 65536 % 256), .int .u8 ((x : Int) / 256 % 256), .int .u8 ((x : Int) % 256)] 5)) := by
  have h := Ar.new w 4 (fun j => byW x (3 - j)) 5
  have e : (us 4 (fun j => byW x (3 - j))).toArray = #[.int .u8 ((x : Int) / 16777216), .int .u8 ((x : Int) / 65536 % 256), .int .u8 ((x : Int) / 256 % 256), .int .u8 ((x : Int) % 256)] := by
    rw [us_def]
    show #[Value.int .u8 ((byW x 3 : Nat) : Int), Value.int .u8 ((byW x 2 : Nat) : Int), Value.int .u8 ((byW x 1 : Nat) : Int), Value.int .u8 ((byW x 0 : Nat) : Int)] = _
    have e3 : ((byW x 3 : Nat) : Int) = (x : Int) / 16777216 := by unfold byW; omega
    have e2 : ((byW x 2 : Nat) : Int) = (x : Int) / 65536 % 256 := by unfold byW; omega
    have e1 : ((byW x 1 : Nat) : Int) = (x : Int) / 256 % 256 := by unfold byW; omega
    have e0 : ((byW x 0 : Nat) : Int) = (x : Int) % 256 := by unfold byW; omega
    rw [e3, e2, e1, e0]
  rw [e] at h
  exact ar_string h (fun _ _ => byW_lt _ _) 4
set_option maxRecDepth 100000 in
set_option maxHeartbeats 1000000 in
theorem walk_in (a : Option Addr) (N cap : Nat) (w : World) (hN : N ≤ 1048576) (hC : Cd w a N) (hT : Rt w) :
    Calls Tryd.prog 3 #[.slice a N cap] w fun e w' => e = .returned (.bool true) ∧ Below w.heap.size w w' := by
  have HT := hide hT
  have HCD := hide hC
  clear hT hC
  go_enter Tryd.func3, Tryd.ntmps3
  go_wp2_with fail
  refine (drawSha_any a N cap _ hN (unhide HCD)).mono ?_
  rintro e w1 ⟨t, rfl, ht2, b1⟩
  have B1 := hide b1
  have T1 := hide ((unhide HT).kept b1)
  clear b1 HT HCD
  by_cases ht : t.size ≤ 4000
  · have HS1 := hide (fun W (h9 : Rt W) => implSha_ok t ht W h9)
    have HS2 := hide (fun W => specSha_ok t ht W)
    have HSW : Hid (shW t = bq 32 (dgW (stW HW (bq (pdL t.size) (pdB t t.size)) (pdL t.size / 64)))) := rfl
    generalize hhs : shW t = hs at *
    clear hhs
    obtain ⟨nn, hnn⟩ : ∃ k, k = 63 - (t.size + 8) % 64 := ⟨_, rfl⟩
    have hL : pdL t.size = t.size + 1 + nn + 8 := by rw [hnn]; rfl
    have e128 : t ++ (⟨#[128]⟩ : ByteArray) = bq (t.size + 1 + 0) (pdB t t.size) := by
      rw [Nat.add_zero, ← bq_append t.size 1 (pdB t t.size), bq_congr (fun i hi => pdB_text t t.size i hi), bq_at8]
      congr 1
      show _ = bq 1 _
      rw [bq_congr (g := fun _ => 128) (fun i hi => by obtain rfl : i = 0 := (by omega); exact pdB_mark t t.size)]
      rfl
    have HZ : Hid (∀ j, j < nn → bq (t.size + 1 + j) (pdB t t.size) ++ (⟨#[0]⟩ : ByteArray) = bq (t.size + 1 + (j + 1)) (pdB t t.size)) := fun j hj => by
      rw [← Nat.add_assoc, ← bq_append (t.size + 1 + j) 1 (pdB t t.size)]
      congr 1
      show _ = bq 1 _
      rw [bq_congr (g := fun _ => 0) (fun i hi => pdB_zero t t.size _ (by omega) (by omega))]
      rfl
    have HU : Hid (∀ j, j < 8 → bq (t.size + 1 + nn + j) (pdB t t.size) ++ bq 1 (fun _ => byW (8 * t.size) (7 - j)) = bq (t.size + 1 + nn + (j + 1)) (pdB t t.size)) := fun j hj => by
      rw [← Nat.add_assoc, ← bq_append (t.size + 1 + nn + j) 1 (pdB t t.size)]
      congr 1
      refine bq_congr fun i hi => ?_
      obtain rfl : i = 0 := by omega
      by_cases h4 : j < 4
      · rw [pdB_zero t t.size _ (by omega) (by omega), byW_hi _ _ (by omega) (by omega)]
      · rw [pdB_bits t t.size _ (by omega) (by omega), hL]
        congr 1
        omega
    have hUs : (bq (pdL t.size) (pdB t t.size)).size = 64 * (pdL t.size / 64) := by
      rw [bq_size]
      have := pdL_mod t.size
      omega
    have hK : pdL t.size / 64 ≤ 1000 := by have := pdL_gt t.size; omega
    have hLb := pdL_gt t.size
    have HBQ := hide (fun j => bq_size (t.size + 1 + j) (pdB t t.size))
    have HBR := hide (fun j => bq_size (t.size + 1 + nn + j) (pdB t t.size))
    have HUE : Hid (bq (t.size + 1 + nn + 8) (pdB t t.size) = bq (pdL t.size) (pdB t t.size)) := congrArg (fun m => bq m (pdB t t.size)) hL.symm
    have ad0 := fun W : World => run_string_add_sum (P := Tryd.prog) (w := W) t ⟨#[128]⟩ (by show t.size + 1 ≤ _; omega)
    have HL := hide hL
    have HNN := hide hnn
    have hnb : nn ≤ 63 := by omega
    have hmod : (t.size + 1 + nn) % 64 = 56 := by omega
    have HE := hide e128
    generalize pdB t t.size = F at *
    clear hnn hL e128
    go_wp2_with fail
    refine (unhide HS1 _ (unhide T1)).mono ?_
    rintro e w2 ⟨rfl, b2⟩
    have B2 := hide ((unhide B1).trans (b2.mono (unhide B1).size))
    have T2 := hide ((unhide T1).kept b2)
    clear b2 B1 T1
    go_wp2_with fail
    refine (unhide HS2 _).mono ?_
    rintro e w3 ⟨rfl, b3⟩
    have B3 := hide ((unhide B2).trans (b3.mono (unhide B2).size))
    have T3 := hide ((unhide T2).kept b3)
    clear b3 B2 T2 HS1 HS2
    go_wp2_with fail
    rw [unhide HE]
    clear ad0 HE
    go_loopw [8] (fun sv wr => ∃ j : Nat, j ≤ nn ∧ sv = .string (bq (t.size + 1 + j) F) ∧ wr = w3) (fun sv _ => match sv with | .string x => t.size + 1 + nn - x.size | _ => 0)
    case atStart => exact ⟨0, by omega, rfl, rfl⟩
    case round =>
      obtain ⟨j, hj, rfl, hww⟩ := hrel
      obtain rfl := hww.symm
      have hx := unhide HBQ j
      by_cases hlt : j < nn
      · have ad := fun W : World => run_string_add_sum (P := Tryd.prog) (w := W) (bq (t.size + 1 + j) F) ⟨#[0]⟩ (by rw [hx]; show _ + 1 ≤ _; omega)
        rw [unhide HZ j hlt] at ad
        have hne : ((((bq (t.size + 1 + j) F).size : Nat) : Int) % 64 != 56) = true := by rw [hx]; simp only [bne_iff_ne]; have := unhide HNN; omega
        have hx2 := unhide HBQ (j + 1)
        have HX2 := hide hx2
        have HX := hide hx
        clear hx hx2
        generalize hg2 : bq (t.size + 1 + (j + 1)) F = x2 at *
        generalize bq (t.size + 1 + j) F = x at *
        have HG2 := hide hg2
        clear hg2
        go_wp2_with fail
        exact ⟨⟨j + 1, by omega, by rw [unhide HG2], trivial⟩, by have h1 := unhide HX; have h2 := unhide HX2; show t.size + 1 + nn - x2.size < t.size + 1 + nn - x.size; omega⟩
      · obtain rfl : j = nn := by omega
        have heq : ((((bq (t.size + 1 + j) F).size : Nat) : Int) % 64 != 56) = false := by rw [hx]; simp only [bne_eq_false_iff_eq]; omega
        have HM : Hid (t.size + 1 + j ≤ 5000) := (show t.size + 1 + j ≤ 5000 by omega)
        clear hx HZ HBQ HNN HL hmod
        go_wp2_with fail
        clear heq
        generalize t.size + 1 + j = M at *
        go_loopw [8, 9] (fun sv kv wx => ∃ i : Nat, i ≤ 8 ∧ sv = .string (bq (M + i) F) ∧ kv = .int .i64 (56 - 8 * (i : Int)) ∧ Rt wx ∧ Below w.heap.size w wx) (fun _ kv _ => (intOf kv + 8).toNat)
        case atStart => exact ⟨0, by omega, rfl, rfl, unhide T3, unhide B3⟩
        case round =>
          obtain ⟨i, hi, rfl, rfl, hT, hB⟩ := hrel
          have hx := unhide HBR i
          by_cases hlt : i < 8
          · obtain ⟨q, hq⟩ : ∃ q : Nat, q = 7 - i := ⟨_, rfl⟩
            have e8 : 56 - 8 * (i : Int) = 8 * (q : Int) := by omega
            rw [e8]
            have hst := byte_string wr t.size q
            have ad := fun W : World => run_string_add_sum (P := Tryd.prog) (w := W) (bq (M + i) F) (bq 1 (fun _ => byW (8 * t.size) q)) (by rw [hx, bq_size]; have := unhide HM; omega)
            rw [hq, unhide HU i hlt, ← hq] at ad
            have al := (Below.refl wr.heap.size wr).alloc (Nat.le_refl _) (.cells #[.int .u8 (8 * (t.size : Int) / 2 ^ (8 * q) % 256)] 5)
            have T1 := hide (hT.kept al)
            have B1 := hide (hB.trans (al.mono hB.size))
            have hq7 : q ≤ 7 := by omega
            have HQ := hide (And.intro hq e8)
            clear hT hB al hx hq e8
            generalize bq 1 (fun _ => byW (8 * t.size) q) = y1 at *
            generalize hg2 : bq (M + (i + 1)) F = x2 at *
            generalize bq (M + i) F = x1 at *
            have HG2 := hide hg2
            clear hg2
            go_wp2
            exact ⟨⟨i + 1, by omega, by rw [unhide HG2], by obtain ⟨h1, h2⟩ := unhide HQ; congr 1; omega, unhide T1, unhide B1⟩, by simp [intOf]; omega⟩
          · obtain rfl : i = 8 := by omega
            have T4 := hide hT
            have B4 := hide hB
            rw [unhide HUE]
            clear hT hB hx T3 B3 HU HBR HUE HM
            have HBS := hide (fun j h => blk_size (bq (pdL t.size) F) j h)
            have HSL := hide (fun k => stW_lt HW (bq (pdL t.size) F) HW_lt k)
            have HST : Hid (∀ k, stW HW (bq (pdL t.size) F) (k + 1) = bhW (stW HW (bq (pdL t.size) F) k) (blk (bq (pdL t.size) F) k)) := fun k => rfl
            have HBE : Hid (∀ j, blk (bq (pdL t.size) F) j = (bq (pdL t.size) F).extract (64 * j) (64 * j + 64)) := fun j => rfl
            have HH0 : Hid (stW HW (bq (pdL t.size) F) 0 = HW) := rfl
            generalize bq (pdL t.size) F = u at *
            generalize pdL t.size / 64 = K at *
            have hUi : ((u.size : Nat) : Int) = ((64 * K : Nat) : Int) := by omega
            go_wp2_with fail
            rw [first8]
            have hA0 := Aw.new wr 8 HW 27
            have al := (Below.refl wr.heap.size wr).alloc (Nat.le_refl _) (.cells (uw 8 HW).toArray 27)
            have T5 := hide ((unhide T4).kept al)
            have B5 := hide ((unhide B4).trans (al.mono (unhide B4).size))
            have A5 := hide hA0.r
            clear hA0 al T4 B4
            generalize wr.alloc (.cells (uw 8 HW).toArray 27) = W5 at *
            generalize wr.heap.size = g0 at *
            generalize (56 - 8 * ((8 : Nat) : Int)) = zz
            rw [← unhide HH0] at A5
            clear HH0
            go_loopw [10, 11] (fun sv av wx => ∃ k g c : Nat, k ≤ K ∧ av = .int .i64 ((64 * k : Nat) : Int) ∧ sv = .slice (some ⟨g, 0, none⟩) 8 c ∧ Rw wx g 0 8 (stW HW u k) ∧ Rt wx ∧ Below w.heap.size w wx) (fun _ av _ => u.size - (intOf av).toNat)
            case atStart => exact ⟨0, g0, 8, by omega, rfl, rfl, unhide A5, unhide T5, unhide B5⟩
            case round =>
              obtain ⟨k, g, c, hk, rfl, rfl, hR, hT, hB⟩ := hrel
              clear A5 T5 B5
              by_cases hlt : k < K
              · have hbs := unhide HBS k (by omega)
                have ERS := hide (unhide HST k)
                have EB := unhide HBE k
                have hfl := unhide HSL k
                have HH := hide (implHF_ok g 0 c (stW HW u k) (blk u k) hfl hbs)
                have GR := hide hR
                have GT := hide hT
                have GB := hide hB
                clear hR hT hB
                obtain ⟨p, hp⟩ : ∃ q, q = 64 * k := ⟨_, rfl⟩
                obtain ⟨p2, hp2⟩ : ∃ q, q = p + 64 := ⟨_, rfl⟩
                rw [← hp] at EB ⊢
                rw [← hp2] at EB
                have v1 : IntKind.i64.wrap ((p : Int) + 64) = (p2 : Int) := by rw [show (p : Int) + 64 = (p2 : Int) by omega]; exact wraps_i64 _ (by omega) (by omega)
                have v0 : IntKind.i64.wrap (p : Int) = (p : Int) := wraps_i64 _ (by omega) (by omega)
                have v2 : IntKind.i64.wrap (p2 : Int) = (p2 : Int) := wraps_i64 _ (by omega) (by omega)
                have i1 : (p : Int) < u.size := by omega
                have i2 : (p2 : Int) ≤ u.size := by omega
                have i3 : (p : Int) ≤ (p2 : Int) := by omega
                have i4 : p ≤ p2 := by omega
                have i5 : p2 ≤ u.size := by omega
                have HP := hide (And.intro hp hp2)
                have HEB := hide EB
                have HUS := hide hUs
                have HUI := hide hUi
                clear hp hp2 EB hUi hUs
                generalize hf : stW HW u k = f at *
                clear hf
                generalize hf' : stW HW u (k + 1) = f' at *
                have HF' := hide hf'
                clear hf'
                go_wp2_with fail
                rw [← unhide HEB]
                refine (unhide HH _ (unhide GT) (unhide GR)).mono ?_
                rintro e w6 ⟨g2, rfl, hg2, hA, b6⟩
                have Q0 := hide hA.r
                have Q1 := hide ((unhide GT).kept b6)
                have Q2 := hide ((unhide GB).trans (b6.mono (unhide GB).size))
                clear hA b6 hg2 HH GR GT GB
                rw [← unhide ERS] at Q0
                go_wp2
                obtain ⟨hp, hp2⟩ := unhide HP
                have hus := unhide HUS
                exact ⟨⟨k + 1, g2, 8, by omega, by rw [hp2, hp]; go_num, rfl, by rw [unhide HF']; exact unhide Q0, unhide Q1, unhide Q2⟩, by simp [intOf]; omega⟩
              · obtain rfl : k = K := by omega
                have GR := hide hR
                have GT := hide hT
                have GB := hide hB
                have HD := hide (unhide HSL k)
                clear hR hT hB HBS HST HBE HSL
                have hnl : ¬ ((64 * (k : Int)) < (u.size : Int)) := by omega
                generalize hfe : stW HW u k = f at *
                have HFE := hide hfe
                clear hfe
                go_wp2_with fail
                clear hnl
                generalize (64 * (k : Int)) = z20
                have HBA : Hid (∀ i, bq (4 * i) (dgW f) ++ bq 4 (fun j => byW (f i) (3 - j)) = bq (4 * (i + 1)) (dgW f)) := fun i => by
                  rw [show 4 * (i + 1) = 4 * i + 4 by omega, ← bq_append (4 * i) 4 (dgW f)]
                  congr 1
                  refine bq_congr fun j hj => ?_
                  unfold dgW
                  rw [show (4 * i + j) / 4 = i by omega, show 3 - (4 * i + j) % 4 = 3 - j by omega]
                go_loopw [14, 90] (fun ov iv wx => ∃ i : Nat, i ≤ 8 ∧ iv = .int .i64 i ∧ ov = .string (bq (4 * i) (dgW f)) ∧ Rw wx g 0 8 f ∧ Rt wx ∧ Below w.heap.size w wx) (fun _ iv _ => 8 - (intOf iv).toNat)
                case atStart => exact ⟨0, by omega, rfl, rfl, unhide GR, unhide GT, unhide GB⟩
                case round =>
                  obtain ⟨i, hi, rfl, rfl, hR, hT, hB⟩ := hrel
                  clear GR GT GB
                  by_cases hlt : i < 8
                  · have ad := fun W : World => run_string_add_sum (P := Tryd.prog) (w := W) (bq (4 * i) (dgW f)) (bq 4 (fun j => byW (f i) (3 - j))) (by rw [bq_size, bq_size]; omega)
                    rw [unhide HBA i] at ad
                    have hfl := unhide HD i
                    have hc := hR.c i hlt
                    rw [Nat.zero_add] at hc
                    have hst := four_string wr (f i) hfl
                    have al := (Below.refl wr.heap.size wr).alloc (Nat.le_refl _) (.cells #[.int .u8 ((f i : Int) / 16777216), .int .u8 ((f i : Int) / 65536 % 256), .int .u8 ((f i : Int) / 256 % 256), .int .u8 ((f i : Int) % 256)] 5)
                    have GR := hide (hR.kept al)
                    have GT := hide (hT.kept al)
                    have GB := hide (hB.trans (al.mono hB.size))
                    clear hR hT hB al
                    generalize bq 4 (fun j => byW (f i) (3 - j)) = y4 at *
                    generalize bq (4 * i) (dgW f) = o1 at *
                    generalize hq2 : bq (4 * (i + 1)) (dgW f) = o2 at *
                    have HO2 := hide hq2
                    clear hq2
                    generalize f i = x1 at *
                    go_wp2
                    exact ⟨⟨i + 1, by omega, by go_num, by rw [unhide HO2], unhide GR, unhide GT, unhide GB⟩, by simp [intOf]; omega⟩
                  · obtain rfl : i = 8 := by omega
                    have GT := hide hT
                    have GB := hide hB
                    clear hR hT hB
                    have hk0 : KW 0 = 1116352408 := by decide +kernel
                    have hk63 : KW 63 = 3329325298 := by decide +kernel
                    rw [show bq (4 * 8) (dgW f) = hs by rw [unhide HSW]]
                    go_wp2_with fail
                    refine (implRoundWords _ (unhide GT)).mono ?_
                    rintro e w8 ⟨rfl, hA, b8⟩
                    have c0 := hA.c0 0 (by omega)
                    have c63 := hA.c0 63 (by omega)
                    rw [hk0] at c0
                    rw [hk63] at c63
                    have B8 := hide ((unhide GB).trans (b8.mono (unhide GB).size))
                    clear hA b8 hk0 hk63
                    go_wp2
                    go_ret
                    exact ⟨rfl, unhide B8⟩
  · go_wp2_with fail
    refine (implSha_no t ht (by omega) _).mono ?_
    rintro e w2 ⟨rfl, b2⟩
    have B2 := hide ((unhide B1).trans (b2.mono (unhide B1).size))
    clear b2 B1
    go_wp2_with fail
    refine (specSha_no t ht (by omega) _).mono ?_
    rintro e w3 ⟨rfl, b3⟩
    have B3 := hide ((unhide B2).trans (b3.mono (unhide B2).size))
    clear b3 B2
    go_wp2
    go_ret
    exact ⟨rfl, unhide B3⟩
theorem walk (a : Option Addr) (N cap : Nat) (w : World) (hN : N ≤ 140737488355328) (hC : Cd w a N) (hT : Rt w) :
    Calls Tryd.prog 3 #[.slice a N cap] w fun e w' => e = .returned (.bool true) ∧ Below w.heap.size w w' := by
  by_cases hl : (1048576 : Int) < N
  · go_enter Tryd.func3, Tryd.ntmps3
    go_wp2
    go_ret
    exact ⟨rfl, Below.refl _ _⟩
  · exact walk_in a N cap w (by omega) hC hT
end Go.Proofs.YtcedecmapgfkhaaDoor.fnHashed
