/-
  The law on keyed hashes of drawn keys and texts, walked.
-/
import Derived.Test.YtcedecmapgfkhaaDoorDrk
import Derived.Test.YtcedecmapgfkhaaDoorLhm
import Derived.Test.YtcedecmapgfkhaaDoorIhm
namespace Go.Proofs.YtcedecmapgfkhaaDoor.fnKeyed
open Go.ChangeShapes Go.WideShapes Go.ChangeAt Go.RowKit
set_option linter.unusedVariables false

theorem k64_short (k : ByteArray) (h : k.size ≤ 64) : k64 k = k := by unfold k64; rw [if_pos h]
theorem k64_long (k : ByteArray) (h : ¬ k.size ≤ 64) : k64 k = shW k := by unfold k64; rw [if_neg h]
theorem hm_long (k t : ByteArray) (h : ¬ k.size ≤ 64) : hmW (shW k) t = hmW k t := by
  unfold hmW
  rw [k64_long k h, k64_short (shW k) (by rw [shW_size]; omega)]
set_option maxRecDepth 100000 in
set_option maxHeartbeats 1000000 in
theorem walk_in (a : Option Addr) (N cap : Nat) (w : World) (hN : N ≤ 1048576) (hC : Cd w a N) (hT : Rt w) :
    Calls Tryd.prog 4 #[.slice a N cap] w fun e w' => e = .returned (.bool true) ∧ Below w.heap.size w w' := by
  have HT := hide hT
  have HCD := hide hC
  clear hT hC
  go_enter Tryd.func4, Tryd.ntmps4
  go_wp2_with fail
  refine (drawHmac_any a N cap _ hN (unhide HCD)).mono ?_
  rintro e w1 ⟨k, s, rfl, hk, hs, b1⟩
  have B1 := hide b1
  have T1 := hide ((unhide HT).kept b1)
  clear b1 HT HCD
  by_cases ht : k.size ≤ 2000
  · have HI := hide (fun W (h9 : Rt W) => implHmac_ok k s ⟨ht, by omega⟩ W h9)
    have HS := hide (fun W => specHmac_ok k s ⟨ht, by omega⟩ W)
    generalize hh : hmW k s = h at *
    have HH := hide hh
    clear hh
    go_wp2_with fail
    refine (unhide HI _ (unhide T1)).mono ?_
    rintro e w2 ⟨rfl, b2⟩
    have B2 := hide ((unhide B1).trans (b2.mono (unhide B1).size))
    have T2 := hide ((unhide T1).kept b2)
    clear b2 B1 T1
    go_wp2_with fail
    refine (unhide HS _).mono ?_
    rintro e w3 ⟨rfl, b3⟩
    have B3 := hide ((unhide B2).trans (b3.mono (unhide B2).size))
    have T3 := hide ((unhide T2).kept b3)
    clear b3 B2 T2 HI HS
    by_cases hk64 : k.size ≤ 64
    · have HHK : Hid (shW (kyW k 92 ++ shW (kyW k 54 ++ s)) = h) := by
        rw [← unhide HH]
        unfold hmW
        rw [k64_short k hk64]
        rfl
      have mk0 : ∀ W, (Instr.makeSlice 22 (.int .i64 64) (.int .i64 64)).run Tryd.prog W = .ok (.slice (some ⟨W.heap.size, 0, none⟩) 64 64) (W.alloc (.cells (us 64 fun _ => 0).toArray 5)) := fun W => mk_bytes 64 (by omega) W
      have i1 := Ar.new w3 64 (fun _ => 0) 5
      have i2 := i1.alloc (.cells (us 64 (fun _ => 0)).toArray 5)
      have o2 := Ar.new (w3.alloc (.cells (us 64 (fun _ => 0)).toArray 5)) 64 (fun _ => 0) 5
      rw [World.size_alloc] at o2
      have al := ((Below.refl w3.heap.size w3).alloc (Nat.le_refl _) (.cells (us 64 (fun _ => 0)).toArray 5)).alloc (by rw [World.size_alloc]; omega) (.cells (us 64 (fun _ => 0)).toArray 5)
      have I2 := hide i2
      have O2 := hide o2
      have T9 := hide ((unhide T3).kept al)
      have B9 := hide ((unhide B3).trans (al.mono (unhide B3).size))
      have hsz0 := (unhide B3).size
      have hl0 : 0 < w3.heap.size := (unhide T3).lt
      clear i1 i2 o2 al B3 T3
      go_wp2_with fail
      clear mk0
      generalize (w3.alloc (.cells (us 64 (fun _ => 0)).toArray 5)).alloc (.cells (us 64 (fun _ => 0)).toArray 5) = W9 at *
      generalize hbo : w3.heap.size + 1 = bo at *
      generalize hbi : w3.heap.size = bi at *
      have hlt2 : bi < bo := by omega
      have hlw : w.heap.size ≤ bi := by omega
      clear hbi hbo hsz0
      have HSI : Hid (∀ V, Ar V bi 0 64 (fun i => at8 k i ^^^ 54) → (convert 22 9 (.slice (some ⟨bi, 0, none⟩) 64 64)).run Tryd.prog V = .ok (.string (kyW k 54)) V) := fun V h => ar_string h (fun i _ => xor_lt _ _ (at8_lt k i) (by omega)) 64
      have HSO : Hid (∀ V, Ar V bo 0 64 (fun i => at8 k i ^^^ 92) → (convert 22 9 (.slice (some ⟨bo, 0, none⟩) 64 64)).run Tryd.prog V = .ok (.string (kyW k 92)) V) := fun V h => ar_string h (fun i _ => xor_lt _ _ (at8_lt k i) (by omega)) 64
      go_loopw [78] (fun iv wr => ∃ q : Nat, q ≤ 64 ∧ iv = .int .i64 q ∧ Ar wr bi 0 64 (stp (fun i => at8 k i ^^^ 54) (fun _ => 0) q) ∧ Ar wr bo 0 64 (stp (fun i => at8 k i ^^^ 92) (fun _ => 0) q) ∧ Rt wr ∧ Below w.heap.size w wr) (fun iv _ => 64 - (intOf iv).toNat)
      case atStart => exact ⟨0, by omega, rfl, (unhide I2).stepNone, (unhide O2).stepNone, unhide T9, unhide B9⟩
      case round =>
        obtain ⟨q, hq64, rfl, hI, hO, hTr, hB⟩ := hrel
        clear I2 O2 T9 B9
        by_cases hlt : q < 64
        · have hv := at8_lt k q
          have x1 : bits .xor .u8 ((at8 k q : Nat) : Int) 54 = ((at8 k q ^^^ 54 : Nat) : Int) := xorI (at8 k q) 54 hv (by omega)
          have x2 : bits .xor .u8 ((at8 k q : Nat) : Int) 92 = ((at8 k q ^^^ 92 : Nat) : Int) := xorI (at8 k q) 92 hv (by omega)
          have ci := hI.c0 q hlt
          have fi := hI.f0 q hlt
          have R1 := hI.step hlt (x := at8 k q ^^^ 54) rfl
          have O1 := hO.other (a := ⟨bi, q, none⟩) (v := .int .u8 ((at8 k q ^^^ 54 : Nat) : Int)) (by show bi ≠ bo; omega)
          have co := O1.c0 q hlt
          have fo := O1.f0 q hlt
          have O2 := hide (O1.step hlt (x := at8 k q ^^^ 92) rfl)
          have I2 := hide (R1.other (a := ⟨bo, q, none⟩) (v := .int .u8 ((at8 k q ^^^ 92 : Nat) : Int)) (by show bo ≠ bi; omega))
          have T2 : Hid (Rt ((wr.setCell ⟨bi, q, none⟩ (.int .u8 ((at8 k q ^^^ 54 : Nat) : Int))).setCell ⟨bo, q, none⟩ (.int .u8 ((at8 k q ^^^ 92 : Nat) : Int)))) := (Rw.setOther (a := ⟨bo, q, none⟩) (Rw.setOther (a := ⟨bi, q, none⟩) hTr (by show bi ≠ _; omega)) (by show bo ≠ _; omega))
          have B2 := hide ((hB.setCell (p := ⟨bi, q, none⟩) (show w.heap.size ≤ bi by omega) (.int .u8 ((at8 k q ^^^ 54 : Nat) : Int))).setCell (p := ⟨bo, q, none⟩) (show w.heap.size ≤ bo by omega) (.int .u8 ((at8 k q ^^^ 92 : Nat) : Int)))
          clear hI hO hB R1 O1 hTr
          generalize hy1 : at8 k q ^^^ 54 = y1 at *
          generalize hy2 : at8 k q ^^^ 92 = y2 at *
          have HY := hide (And.intro hy1 hy2)
          clear hy1 hy2
          by_cases hin : q < k.size
          · have hat := at8_in k q hin
            rw [hat] at x1 x2
            clear hat hv
            go_wp2
            exact ⟨⟨q + 1, by omega, by go_num, unhide I2, unhide O2, unhide T2, unhide B2⟩, by simp [intOf]; omega⟩
          · have h0 := at8_out k q (by omega)
            obtain ⟨hy1, hy2⟩ := unhide HY
            rw [h0] at hy1 hy2
            clear HY
            obtain rfl : y1 = 54 := by rw [← hy1]; rfl
            obtain rfl : y2 = 92 := by rw [← hy2]; rfl
            clear hy1 hy2 x1 x2
            have fo' : (wr.setCell ⟨bi, q, none⟩ (.int .u8 54)).frozen? ⟨bo, q, none⟩ = false := fo
            have co' : (wr.setCell ⟨bi, q, none⟩ (.int .u8 54)).cell? ⟨bo, q, none⟩ = _ := co
            have z1 : bits .xor .u8 0 54 = 54 := by decide
            have z2 : bits .xor .u8 0 92 = 92 := by decide
            clear fo co
            go_wp2
            exact ⟨⟨q + 1, by omega, by go_num, unhide I2, unhide O2, unhide T2, unhide B2⟩, by simp [intOf]; omega⟩
        · obtain rfl : q = 64 := by omega
          have hsi := unhide HSI _ hI.stepEnd
          have hso := unhide HSO
          have O2 := hide hO.stepEnd
          have T2 := hide hTr
          have B2 := hide hB
          have hlo := hO.lt
          clear hI hO hTr hB
          have ad1 := fun W : World => run_string_add_sum (P := Tryd.prog) (w := W) (kyW k 54) s (by rw [kyW_size]; omega)
          have ad2 := fun W : World => run_string_add_sum (P := Tryd.prog) (w := W) (kyW k 92) (shW (kyW k 54 ++ s)) (by rw [kyW_size, shW_size]; omega)
          have HC1 := hide (fun W (h9 : Rt W) => implSha_ok (kyW k 54 ++ s) (by rw [ByteArray.size_append, kyW_size]; omega) W h9)
          have HC2 := hide (fun W (h9 : Rt W) => implSha_ok (kyW k 92 ++ shW (kyW k 54 ++ s)) (by rw [ByteArray.size_append, kyW_size, shW_size]; omega) W h9)
          rw [unhide HHK] at HC2
          generalize kyW k 92 ++ shW (kyW k 54 ++ s) = x2 at HC2 ad2
          generalize shW (kyW k 54 ++ s) = s1 at HC1 ad2
          generalize kyW k 54 ++ s = x1 at HC1 ad1
          generalize kyW k 54 = ki at hsi ad1
          generalize kyW k 92 = ko at hso ad2
          have HSO2 := hide hso
          clear hso HSI HSO
          go_wp2_with fail
          refine (unhide HC1 _ (unhide T2)).mono ?_
          rintro e w7 ⟨rfl, b7⟩
          have T7 := hide ((unhide T2).kept b7)
          have B7 := hide ((unhide B2).trans (b7.mono (unhide B2).size))
          have hso := unhide HSO2 w7 ((unhide O2).below b7 (unhide O2).lt)
          clear b7 T2 B2 hsi
          go_wp2_with fail
          refine (unhide HC2 _ (unhide T7)).mono ?_
          rintro e w8 ⟨rfl, b8⟩
          have B8 := hide ((unhide B7).trans (b8.mono (unhide B7).size))
          clear b8 T7 B7 hso
          go_wp2
          go_ret
          exact ⟨rfl, unhide B8⟩
    · have HHK : Hid (shW (kyW (shW k) 92 ++ shW (kyW (shW k) 54 ++ s)) = h) := by
        rw [← unhide HH]
        unfold hmW
        rw [k64_long k hk64]
        rfl
      have HSK := hide (fun W (h9 : Rt W) => implSha_ok k (by omega) W h9)
      have HIS := hide (fun W (h9 : Rt W) => implHmac_ok (shW k) s ⟨by rw [shW_size]; omega, by omega⟩ W h9)
      rw [hm_long k s hk64, unhide HH] at HIS
      have hk2 : (shW k).size ≤ 64 := by rw [shW_size]; omega
      generalize shW k = k2 at HHK HSK HIS hk2
      go_wp2_with fail
      refine (unhide HSK _ (unhide T3)).mono ?_
      rintro e w4 ⟨rfl, b4⟩
      have T4 := hide ((unhide T3).kept b4)
      have B4 := hide ((unhide B3).trans (b4.mono (unhide B3).size))
      clear b4 T3 B3 HSK
      go_wp2_with fail
      refine (unhide HIS _ (unhide T4)).mono ?_
      rintro e w5 ⟨rfl, b5⟩
      have T5 := hide ((unhide T4).kept b5)
      have B5 := hide ((unhide B4).trans (b5.mono (unhide B4).size))
      clear b5 T4 B4 HIS
      have mk0 : ∀ W, (Instr.makeSlice 22 (.int .i64 64) (.int .i64 64)).run Tryd.prog W = .ok (.slice (some ⟨W.heap.size, 0, none⟩) 64 64) (W.alloc (.cells (us 64 fun _ => 0).toArray 5)) := fun W => mk_bytes 64 (by omega) W
      have i1 := Ar.new w5 64 (fun _ => 0) 5
      have i2 := i1.alloc (.cells (us 64 (fun _ => 0)).toArray 5)
      have o2 := Ar.new (w5.alloc (.cells (us 64 (fun _ => 0)).toArray 5)) 64 (fun _ => 0) 5
      rw [World.size_alloc] at o2
      have al := ((Below.refl w5.heap.size w5).alloc (Nat.le_refl _) (.cells (us 64 (fun _ => 0)).toArray 5)).alloc (by rw [World.size_alloc]; omega) (.cells (us 64 (fun _ => 0)).toArray 5)
      have I2 := hide i2
      have O2 := hide o2
      have T9 := hide ((unhide T5).kept al)
      have B9 := hide ((unhide B5).trans (al.mono (unhide B5).size))
      have hsz0 := (unhide B5).size
      have hl0 : 0 < w5.heap.size := (unhide T5).lt
      clear i1 i2 o2 al B5 T5
      go_wp2_with fail
      clear mk0
      generalize (w5.alloc (.cells (us 64 (fun _ => 0)).toArray 5)).alloc (.cells (us 64 (fun _ => 0)).toArray 5) = W9 at *
      generalize hbo : w5.heap.size + 1 = bo at *
      generalize hbi : w5.heap.size = bi at *
      have hlt2 : bi < bo := by omega
      have hlw : w.heap.size ≤ bi := by omega
      clear hbi hbo hsz0
      have HSI : Hid (∀ V, Ar V bi 0 64 (fun i => at8 k2 i ^^^ 54) → (convert 22 9 (.slice (some ⟨bi, 0, none⟩) 64 64)).run Tryd.prog V = .ok (.string (kyW k2 54)) V) := fun V h => ar_string h (fun i _ => xor_lt _ _ (at8_lt k2 i) (by omega)) 64
      have HSO : Hid (∀ V, Ar V bo 0 64 (fun i => at8 k2 i ^^^ 92) → (convert 22 9 (.slice (some ⟨bo, 0, none⟩) 64 64)).run Tryd.prog V = .ok (.string (kyW k2 92)) V) := fun V h => ar_string h (fun i _ => xor_lt _ _ (at8_lt k2 i) (by omega)) 64
      go_loopw [78] (fun iv wr => ∃ q : Nat, q ≤ 64 ∧ iv = .int .i64 q ∧ Ar wr bi 0 64 (stp (fun i => at8 k2 i ^^^ 54) (fun _ => 0) q) ∧ Ar wr bo 0 64 (stp (fun i => at8 k2 i ^^^ 92) (fun _ => 0) q) ∧ Rt wr ∧ Below w.heap.size w wr) (fun iv _ => 64 - (intOf iv).toNat)
      case atStart => exact ⟨0, by omega, rfl, (unhide I2).stepNone, (unhide O2).stepNone, unhide T9, unhide B9⟩
      case round =>
        obtain ⟨q, hq64, rfl, hI, hO, hTr, hB⟩ := hrel
        clear I2 O2 T9 B9
        by_cases hlt : q < 64
        · have hv := at8_lt k2 q
          have x1 : bits .xor .u8 ((at8 k2 q : Nat) : Int) 54 = ((at8 k2 q ^^^ 54 : Nat) : Int) := xorI (at8 k2 q) 54 hv (by omega)
          have x2 : bits .xor .u8 ((at8 k2 q : Nat) : Int) 92 = ((at8 k2 q ^^^ 92 : Nat) : Int) := xorI (at8 k2 q) 92 hv (by omega)
          have ci := hI.c0 q hlt
          have fi := hI.f0 q hlt
          have R1 := hI.step hlt (x := at8 k2 q ^^^ 54) rfl
          have O1 := hO.other (a := ⟨bi, q, none⟩) (v := .int .u8 ((at8 k2 q ^^^ 54 : Nat) : Int)) (by show bi ≠ bo; omega)
          have co := O1.c0 q hlt
          have fo := O1.f0 q hlt
          have O2 := hide (O1.step hlt (x := at8 k2 q ^^^ 92) rfl)
          have I2 := hide (R1.other (a := ⟨bo, q, none⟩) (v := .int .u8 ((at8 k2 q ^^^ 92 : Nat) : Int)) (by show bo ≠ bi; omega))
          have T2 : Hid (Rt ((wr.setCell ⟨bi, q, none⟩ (.int .u8 ((at8 k2 q ^^^ 54 : Nat) : Int))).setCell ⟨bo, q, none⟩ (.int .u8 ((at8 k2 q ^^^ 92 : Nat) : Int)))) := (Rw.setOther (a := ⟨bo, q, none⟩) (Rw.setOther (a := ⟨bi, q, none⟩) hTr (by show bi ≠ _; omega)) (by show bo ≠ _; omega))
          have B2 := hide ((hB.setCell (p := ⟨bi, q, none⟩) (show w.heap.size ≤ bi by omega) (.int .u8 ((at8 k2 q ^^^ 54 : Nat) : Int))).setCell (p := ⟨bo, q, none⟩) (show w.heap.size ≤ bo by omega) (.int .u8 ((at8 k2 q ^^^ 92 : Nat) : Int)))
          clear hI hO hB R1 O1 hTr
          generalize hy1 : at8 k2 q ^^^ 54 = y1 at *
          generalize hy2 : at8 k2 q ^^^ 92 = y2 at *
          have HY := hide (And.intro hy1 hy2)
          clear hy1 hy2
          by_cases hin : q < k2.size
          · have hat := at8_in k2 q hin
            rw [hat] at x1 x2
            clear hat hv
            go_wp2
            exact ⟨⟨q + 1, by omega, by go_num, unhide I2, unhide O2, unhide T2, unhide B2⟩, by simp [intOf]; omega⟩
          · have h0 := at8_out k2 q (by omega)
            obtain ⟨hy1, hy2⟩ := unhide HY
            rw [h0] at hy1 hy2
            clear HY
            obtain rfl : y1 = 54 := by rw [← hy1]; rfl
            obtain rfl : y2 = 92 := by rw [← hy2]; rfl
            clear hy1 hy2 x1 x2
            have fo' : (wr.setCell ⟨bi, q, none⟩ (.int .u8 54)).frozen? ⟨bo, q, none⟩ = false := fo
            have co' : (wr.setCell ⟨bi, q, none⟩ (.int .u8 54)).cell? ⟨bo, q, none⟩ = _ := co
            have z1 : bits .xor .u8 0 54 = 54 := by decide
            have z2 : bits .xor .u8 0 92 = 92 := by decide
            clear fo co
            go_wp2
            exact ⟨⟨q + 1, by omega, by go_num, unhide I2, unhide O2, unhide T2, unhide B2⟩, by simp [intOf]; omega⟩
        · obtain rfl : q = 64 := by omega
          have hsi := unhide HSI _ hI.stepEnd
          have hso := unhide HSO
          have O2 := hide hO.stepEnd
          have T2 := hide hTr
          have B2 := hide hB
          have hlo := hO.lt
          clear hI hO hTr hB
          have ad1 := fun W : World => run_string_add_sum (P := Tryd.prog) (w := W) (kyW k2 54) s (by rw [kyW_size]; omega)
          have ad2 := fun W : World => run_string_add_sum (P := Tryd.prog) (w := W) (kyW k2 92) (shW (kyW k2 54 ++ s)) (by rw [kyW_size, shW_size]; omega)
          have HC1 := hide (fun W (h9 : Rt W) => implSha_ok (kyW k2 54 ++ s) (by rw [ByteArray.size_append, kyW_size]; omega) W h9)
          have HC2 := hide (fun W (h9 : Rt W) => implSha_ok (kyW k2 92 ++ shW (kyW k2 54 ++ s)) (by rw [ByteArray.size_append, kyW_size, shW_size]; omega) W h9)
          rw [unhide HHK] at HC2
          generalize kyW k2 92 ++ shW (kyW k2 54 ++ s) = x2 at HC2 ad2
          generalize shW (kyW k2 54 ++ s) = s1 at HC1 ad2
          generalize kyW k2 54 ++ s = x1 at HC1 ad1
          generalize kyW k2 54 = ki at hsi ad1
          generalize kyW k2 92 = ko at hso ad2
          have HSO2 := hide hso
          clear hso HSI HSO
          go_wp2_with fail
          refine (unhide HC1 _ (unhide T2)).mono ?_
          rintro e w7 ⟨rfl, b7⟩
          have T7 := hide ((unhide T2).kept b7)
          have B7 := hide ((unhide B2).trans (b7.mono (unhide B2).size))
          have hso := unhide HSO2 w7 ((unhide O2).below b7 (unhide O2).lt)
          clear b7 T2 B2 hsi
          go_wp2_with fail
          refine (unhide HC2 _ (unhide T7)).mono ?_
          rintro e w8 ⟨rfl, b8⟩
          have B8 := hide ((unhide B7).trans (b8.mono (unhide B7).size))
          clear b8 T7 B7 hso
          go_wp2
          go_ret
          exact ⟨rfl, unhide B8⟩
  · have HI := hide (fun W => implHmac_no k s (fun x => ht x.1) (by omega) (by omega) W)
    have HS := hide (fun W => specHmac_no k s (fun x => ht x.1) (by omega) (by omega) W)
    go_wp2_with fail
    refine (unhide HI _).mono ?_
    rintro e w2 ⟨rfl, b2⟩
    have B2 := hide ((unhide B1).trans (b2.mono (unhide B1).size))
    clear b2 B1
    go_wp2_with fail
    refine (unhide HS _).mono ?_
    rintro e w3 ⟨rfl, b3⟩
    have B3 := hide ((unhide B2).trans (b3.mono (unhide B2).size))
    clear b3 B2
    go_wp2
    go_ret
    exact ⟨rfl, unhide B3⟩
theorem walk (a : Option Addr) (N cap : Nat) (w : World) (hN : N ≤ 140737488355328) (hC : Cd w a N) (hT : Rt w) :
    Calls Tryd.prog 4 #[.slice a N cap] w fun e w' => e = .returned (.bool true) ∧ Below w.heap.size w w' := by
  by_cases hl : (1048576 : Int) < N
  · go_enter Tryd.func4, Tryd.ntmps4
    go_wp2
    go_ret
    exact ⟨rfl, Below.refl _ _⟩
  · exact walk_in a N cap w (by omega) hC hT
end Go.Proofs.YtcedecmapgfkhaaDoor.fnKeyed
