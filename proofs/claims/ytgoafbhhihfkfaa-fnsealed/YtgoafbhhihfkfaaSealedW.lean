/-
  The law on what is sealed, at drawn keys and texts, walked.
-/
import Derived.Test.YtgoafbhhihfkfaaMsl
import Derived.Test.YtgoafbhhihfkfaaCurX
import Derived.Test.YtgoafbhhihfkfaaE5v
import Derived.Test.YtgoafbhhihfkfaaE5w
namespace Go.Proofs.Ytgoafbhhihfkfaa.fnSealed
open Go.ChangeShapes Go.WideShapes Go.ChangeAt Go.RowKit
set_option linter.unusedVariables false

theorem hk_ab (k : ByteArray) : abW k (bq 16 (fun _ => 0)) = bq 16 (hkF k) := bq_congr (fun i hi => fw_congr _ _ _ (fun j hj => at8_bq 16 (fun _ => 0) j hj (by omega)) 10 i hi)
set_option maxRecDepth 100000 in
set_option maxHeartbeats 1000000 in
theorem walk_in (a : Option Addr) (N cap : Nat) (b' : Option Addr) (M cap2 : Nat) (w : World) (hN : N + M ≤ 1048576) (hC : Cd w a N) (hC2 : Cd w b' M) :
    Calls Try.prog 5 #[.slice a N cap, .slice b' M cap2] w fun e w' => e = .returned (.bool true) ∧ Below w.heap.size w w' := by
  have HCD := hide hC
  have HCE := hide hC2
  clear hC hC2
  go_enter Try.func5, Try.ntmps5
  go_wp2_with fail
  refine (drawSeal_any a N cap _ (by omega) (unhide HCD)).mono ?_
  rintro e w1 ⟨k, n, b, t, rfl, hk, hn, hb, ht, b1⟩
  have B1 := hide b1
  have C1 := hide ((unhide HCE).below b1)
  clear b1 HCD HCE
  by_cases hok : k.size = 16 ∧ n.size = 12 ∧ b.size ≤ 1500 ∧ t.size ≤ 1500
  · have HI := hide (fun W => implST_ok k n b t hok W)
    have HS := hide (fun W => specST_ok k n b t hok W)
    have hz := seW_size k n b t
    have H1 := fun W => implOT_ok k n b (seW k n b t) (op_se k n b t hok.1 hok.2.1 hok.2.2.1 hok.2.2.2) W
    rw [hz, show t.size + 16 - 16 = t.size by omega, se_head, cn_twice] at H1
    have H2 := fun W => implTO_ok k n b ((seW k n b t).extract 0 t.size) ⟨hok.1, hok.2.1, hok.2.2.1, by rw [ByteArray.size_extract, hz]; omega⟩ W
    rw [show tgW k n b ((seW k n b t).extract 0 t.size) = (seW k n b t).extract t.size (t.size + 16) by rw [se_head, se_tail]] at H2
    have H3 := hide (fun W => specAB_ok k (bq 16 (fun _ => 0)) ⟨hok.1, bq_size _ _⟩ W)
    rw [hk_ab] at H3
    have HK : Hid (bq 16 (hkF k) ≠ bq 16 (fun _ => 0) → cm (hkH k) (hkL k) ≠ 0) := hk_none k
    have H4 : Hid (cm (hkH k) (hkL k) ≠ 0 → ∀ q d, q < t.size + 16 → 0 < d → d < 256 → ∀ W, Calls Try.prog 20 #[.string k, .string n, .string b, .string (tuW (seW k n b t) q d)] W fun e w' => e = .returned (.tuple #[.string ⟨#[]⟩, .bool false]) ∧ Below W.heap.size W w') := fun hK q d hq hd0 hd W => implOT_no k n b _ (op_turned k n b t q d hq hd0 hd hK) (by omega) (by omega) (by omega) (by rw [tuW_size, hz]; omega) W
    have H5 : Hid (∀ q d, q < n.size → 0 < d → d < 256 → ∀ W, Calls Try.prog 20 #[.string k, .string (tuW n q d), .string b, .string (seW k n b t)] W fun e w' => e = .returned (.tuple #[.string ⟨#[]⟩, .bool false]) ∧ Below W.heap.size W w') := fun q d hq hd0 hd W => implOT_no k _ b _ (op_nonce k n b t hok.2.1 q d hq hd0 hd) (by omega) (by rw [tuW_size]; omega) (by omega) (by rw [hz]; omega) W
    have H6 : Hid (cm (hkH k) (hkL k) ≠ 0 → ∀ q d, q < b.size → 0 < d → d < 256 → ∀ W, Calls Try.prog 20 #[.string k, .string n, .string (tuW b q d), .string (seW k n b t)] W fun e w' => e = .returned (.tuple #[.string ⟨#[]⟩, .bool false]) ∧ Below W.heap.size W w') := fun hK q d hq hd0 hd W => implOT_no k n _ _ (op_beside k n b t q d hq hd0 hd hK) (by omega) (by omega) (by rw [tuW_size]; omega) (by rw [hz]; omega) W
    have H7 := hide (fun r (hr : r < 1000003) W => turnedN (seW k n b t) (by rw [hz]; omega) (by rw [hz]; omega) r hr W)
    have H8 := hide (fun r (hr : r < 1000003) W => turnedN n (by omega) (by omega) r hr W)
    have H9 := hide (fun (hb0 : 0 < b.size) r (hr : r < 1000003) W => turnedN b hb0 (by omega) r hr W)
    have H1 := hide H1
    have H2 := hide H2
    obtain ⟨m, hm⟩ : ∃ m : Nat, t.size = m := ⟨_, rfl⟩
    rw [hm] at hz H2 H4
    have hmI : (t.size : Int) = (m : Int) := by omega
    have hm40 : m ≤ 40 := by omega
    generalize seW k n b t = s at *
    have hzs := bq_size 16 (fun _ => 0)
    have HHZ := hide (bq_size 16 (hkF k))
    generalize bq 16 (hkF k) = hh at *
    generalize hzz : bq 16 (fun _ => 0) = zz at *
    have HZZ := hide hzz
    have HOK := hide hok
    clear hok hzz hzs
    go_wp2_with fail
    refine (unhide HI _).mono ?_
    rintro e w2 ⟨rfl, b2⟩
    have B2 := hide ((unhide B1).trans (b2.mono (unhide B1).size))
    have C2 := hide ((unhide C1).below b2)
    clear b2 B1 C1 HI
    go_wp2_with fail
    refine (unhide HS _).mono ?_
    rintro e w3 ⟨rfl, b3⟩
    have B3 := hide ((unhide B2).trans (b3.mono (unhide B2).size))
    have C3 := hide ((unhide C2).below b3)
    clear b3 B2 C2 HS
    go_wp2_with fail
    refine (unhide H1 _).mono ?_
    rintro e w4 ⟨rfl, b4⟩
    have B4 := hide ((unhide B3).trans (b4.mono (unhide B3).size))
    have C4 := hide ((unhide C3).below b4)
    clear b4 B3 C3 H1
    go_wp2_with fail
    refine (unhide H2 _).mono ?_
    rintro e w5 ⟨rfl, b5⟩
    have B5 := hide ((unhide B4).trans (b5.mono (unhide B4).size))
    have C5 := hide ((unhide C4).below b5)
    clear b5 B4 C4 H2
    go_wp2_with fail
    have mk1 : (Instr.makeSlice 22 (.int .i64 16) (.int .i64 16)).run Try.prog w5 = .ok (.slice (some ⟨w5.heap.size, 0, none⟩) 16 16) (w5.alloc (.cells (us 16 fun _ => 0).toArray 5)) := mk_bytes 16 (by omega) w5
    rw [mk1]
    have st1 := ar_string (Ar.new w5 16 (fun _ => 0) 5) (fun _ _ => by omega) 16
    rw [unhide HZZ] at st1
    have al1 := (Below.refl w5.heap.size w5).alloc (Nat.le_refl _) (.cells (us 16 fun _ => 0).toArray 5)
    generalize w5.alloc (.cells (us 16 fun _ => 0).toArray 5) = X1 at st1 al1 ⊢
    have B6 := hide ((unhide B5).trans (al1.mono (unhide B5).size))
    have C6 := hide ((unhide C5).below al1)
    clear mk1 al1 B5 C5
    go_wp2_with fail
    refine (unhide H3 _).mono ?_
    rintro e w6 ⟨rfl, b6⟩
    have B7 := hide ((unhide B6).trans (b6.mono (unhide B6).size))
    have C7 := hide ((unhide C6).below b6)
    clear b6 B6 C6 H3 st1
    go_wp2_with fail
    have mk2 : (Instr.makeSlice 22 (.int .i64 16) (.int .i64 16)).run Try.prog w6 = .ok (.slice (some ⟨w6.heap.size, 0, none⟩) 16 16) (w6.alloc (.cells (us 16 fun _ => 0).toArray 5)) := mk_bytes 16 (by omega) w6
    rw [mk2]
    have st2 := ar_string (Ar.new w6 16 (fun _ => 0) 5) (fun _ _ => by omega) 16
    rw [unhide HZZ] at st2
    have al2 := (Below.refl w6.heap.size w6).alloc (Nat.le_refl _) (.cells (us 16 fun _ => 0).toArray 5)
    generalize w6.alloc (.cells (us 16 fun _ => 0).toArray 5) = X2 at st2 al2 ⊢
    have B8 := hide ((unhide B7).trans (al2.mono (unhide B7).size))
    have C8 := hide ((unhide C7).below al2)
    clear mk2 al2 B7 C7
    by_cases hhz : hh = zz
    · subst hhz
      go_wp2
      go_ret
      exact ⟨rfl, unhide B8⟩
    · have hK := unhide HK hhz
      have q1 : ¬ hh.toList = zz.toList := fun e9 => by
        rw [ByteArray.toList_eq, ByteArray.toList_eq] at e9
        exact hhz (Go.WideShapes.bytes_inj e9)
      have q2 : (hh.toList == zz.toList) = false := beq_false_of_ne q1
      have H4 := hide (unhide H4 hK)
      have H6 := hide (unhide H6 hK)
      clear hhz hK HK
      go_wp2_with fail
      refine (numberOf_any b' M cap2 _ (by omega) (unhide C8)).mono ?_
      rintro e w9 ⟨r, rfl, hr, b9⟩
      have B9 := hide ((unhide B8).trans (b9.mono (unhide B8).size))
      clear b9 B8 C8 st2
      go_wp2_with fail
      refine (unhide H7 r hr _).mono ?_
      rintro e w10 ⟨q, d, hq, hd0, hd, rfl, b10⟩
      rw [hz] at hq
      have H4 := hide (unhide H4 q d hq hd0 hd)
      have B10 := hide ((unhide B9).trans (b10.mono (unhide B9).size))
      clear b10 B9 H7 hq hd0 hd
      go_wp2_with fail
      refine (unhide H4 _).mono ?_
      rintro e w11 ⟨rfl, b11⟩
      have B11 := hide ((unhide B10).trans (b11.mono (unhide B10).size))
      clear b11 B10 H4
      go_wp2_with fail
      refine (unhide H8 r hr _).mono ?_
      rintro e w12 ⟨q', d', hq, hd0, hd, rfl, b12⟩
      have H5 := hide (unhide H5 q' d' hq hd0 hd)
      have B12 := hide ((unhide B11).trans (b12.mono (unhide B11).size))
      clear b12 B11 H8 hq hd0 hd
      go_wp2_with fail
      refine (unhide H5 _).mono ?_
      rintro e w13 ⟨rfl, b13⟩
      have B13 := hide ((unhide B12).trans (b13.mono (unhide B12).size))
      clear b13 B12 H5
      by_cases hb0 : b.size = 0
      · have hbI : ((b.size : Int) == 0) = true := by rw [hb0]; rfl
        go_wp2
        go_ret
        exact ⟨rfl, unhide B13⟩
      · have hbI : ((b.size : Int) == 0) = false := beq_eq_false_iff_ne.2 (by omega)
        go_wp2_with fail
        refine (unhide H9 (by omega) r hr _).mono ?_
        rintro e w14 ⟨q'', d'', hq, hd0, hd, rfl, b14⟩
        have H6 := hide (unhide H6 q'' d'' hq hd0 hd)
        have B14 := hide ((unhide B13).trans (b14.mono (unhide B13).size))
        clear b14 B13 H9 hq hd0 hd
        go_wp2_with fail
        refine (unhide H6 _).mono ?_
        rintro e w15 ⟨rfl, b15⟩
        have B15 := hide ((unhide B14).trans (b15.mono (unhide B14).size))
        clear b15 B14 H6
        go_wp2
        go_ret
        exact ⟨rfl, unhide B15⟩
  · have HI := hide (fun W => implST_no k n b t hok (by omega) (by omega) (by omega) (by omega) W)
    have HS := hide (fun W => specST_no k n b t hok (by omega) (by omega) (by omega) (by omega) W)
    clear hok
    go_wp2_with fail
    refine (unhide HI _).mono ?_
    rintro e w2 ⟨rfl, b2⟩
    have B2 := hide ((unhide B1).trans (b2.mono (unhide B1).size))
    clear b2 B1 C1 HI
    go_wp2_with fail
    refine (unhide HS _).mono ?_
    rintro e w3 ⟨rfl, b3⟩
    have B3 := hide ((unhide B2).trans (b3.mono (unhide B2).size))
    clear b3 B2 HS
    go_wp2
    go_ret
    exact ⟨rfl, unhide B3⟩
theorem walk (a : Option Addr) (N cap : Nat) (b : Option Addr) (M cap2 : Nat) (w : World) (hN : N ≤ 140737488355328) (hM : M ≤ 140737488355328) (hC : Cd w a N) (hC2 : Cd w b M) :
    Calls Try.prog 5 #[.slice a N cap, .slice b M cap2] w fun e w' => e = .returned (.bool true) ∧ Below w.heap.size w w' := by
  by_cases hl : (1048576 : Int) < (N : Int) + (M : Int)
  · go_enter Try.func5, Try.ntmps5
    go_wp2
    go_ret
    exact ⟨rfl, Below.refl _ _⟩
  · exact walk_in a N cap b M cap2 w (by omega) hC hC2
end Go.Proofs.Ytgoafbhhihfkfaa.fnSealed
