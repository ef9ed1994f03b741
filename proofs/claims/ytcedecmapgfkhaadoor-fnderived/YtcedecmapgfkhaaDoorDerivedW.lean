/-
  The law on what is derived of drawn secrets, walked.
-/
import Derived.Test.YtcedecmapgfkhaaDoorDrd
import Derived.Test.YtcedecmapgfkhaaDoorLex
import Derived.Test.YtcedecmapgfkhaaDoorIex
import Derived.Test.YtcedecmapgfkhaaDoorIsc
namespace Go.Proofs.YtcedecmapgfkhaaDoor.fnDerived
open Go.ChangeShapes Go.WideShapes Go.ChangeAt Go.RowKit
set_option linter.unusedVariables false

theorem ssW_size (id lab : ByteArray) : (ssW id lab).size = 32 := bq_size _ _
theorem hwf (n : Int) (h0 : -1 ≤ n) (h1 : n ≤ 256) : (Lit.int .i64 n).wf = true := by
  show (decide (IntKind.i64.min ≤ n) && decide (n ≤ IntKind.i64.max)) = true
  rw [show IntKind.i64.min = -9223372036854775808 by decide, show IntKind.i64.max = 9223372036854775807 by decide]
  simp
  omega
set_option maxRecDepth 100000 in
set_option maxHeartbeats 1000000 in
theorem walk_in (a : Option Addr) (N cap : Nat) (b : Option Addr) (M cap2 : Nat) (w : World) (hN : N + M ≤ 1048576) (hC : Cd w a N) (hC2 : Cd w b M) (hT : Rt w) :
    Calls Tryd.prog 5 #[.slice a N cap, .slice b M cap2] w fun e w' => e = .returned (.bool true) ∧ Below w.heap.size w w' := by
  have HT := hide hT
  have HCD := hide hC
  have HCE := hide hC2
  clear hT hC hC2
  go_enter Tryd.func5, Tryd.ntmps5
  go_wp2_with fail
  refine (drawExpand_any a N cap _ (by omega) (unhide HCD)).mono ?_
  rintro e w1 ⟨s, info, n, rfl, hs, hi, hn0, hn1, b1⟩
  have B1 := hide b1
  have T1 := hide ((unhide HT).kept b1)
  have C1 := hide ((unhide HCE).below b1)
  clear b1 HT HCD HCE
  by_cases hok : 0 ≤ n ∧ n ≤ 255
  · obtain ⟨m, rfl⟩ : ∃ m : Nat, n = (m : Int) := ⟨n.toNat, by omega⟩
    have HI := hide (fun W (h9 : Rt W) => implExpand_ok s info m ⟨by omega, by omega, hok.1, hok.2⟩ W h9)
    have HS := hide (fun W => specExpand_ok s info m ⟨by omega, by omega, hok.1, hok.2⟩ W)
    have HK : Hid (∀ q : Nat, q ≤ m → ∀ W, Rt W → Calls Tryd.prog 18 #[.string s, .string info, .int .i64 q] W fun e w' => e = .returned (.tuple #[.string (bq q (dvW s info)), .bool true]) ∧ Below W.heap.size W w') := fun q hq W h9 => by
      have hh := implExpand_ok s info q ⟨by omega, by omega, by omega, by omega⟩ W h9
      rw [Int.toNat_natCast] at hh
      exact hh
    have HTK := hide (fun q (hq : q ≤ m) => bq_take m q (dvW s info) hq (dvW_lt s info))
    rw [Int.toNat_natCast] at HI HS
    have hsz := bq_size m (dvW s info)
    generalize bq m (dvW s info) = t at *
    go_wp2_with fail
    refine (unhide HI _ (unhide T1)).mono ?_
    rintro e w2 ⟨rfl, b2⟩
    have B2 := hide ((unhide B1).trans (b2.mono (unhide B1).size))
    have T2 := hide ((unhide T1).kept b2)
    have C2 := hide ((unhide C1).below b2)
    clear b2 B1 T1 C1 HI
    go_wp2_with fail
    refine (unhide HS _).mono ?_
    rintro e w3 ⟨rfl, b3⟩
    have B3 := hide ((unhide B2).trans (b3.mono (unhide B2).size))
    have T3 := hide ((unhide T2).kept b3)
    have C3 := hide ((unhide C2).below b3)
    clear b3 B2 T2 C2 HS
    go_wp2_with fail
    refine (numberOf_any b M cap2 _ (by omega) (unhide C3)).mono ?_
    rintro e w4 ⟨r, rfl, hr, b4⟩
    have B4 := hide ((unhide B3).trans (b4.mono (unhide B3).size))
    have T4 := hide ((unhide T3).kept b4)
    have C4 := hide ((unhide C3).below b4)
    clear b4 B3 T3 C3
    obtain ⟨q, hq⟩ : ∃ q : Nat, q = r % (m + 1) := ⟨_, rfl⟩
    have hqm : q ≤ m := by rw [hq]; have := Nat.mod_lt r (show 0 < m + 1 by omega); omega
    have hq2 : (r : Int) % ((m : Int) + 1) = (q : Int) := by rw [hq]; simp
    have HK2 := hide (unhide HK q hqm)
    have hex := unhide HTK q hqm
    rw [← hex] at HK2
    have HEX := hide hex
    have HQ := hide hq
    clear hex hq HK HTK
    go_wp2_with fail
    refine (unhide HK2 _ (unhide T4)).mono ?_
    rintro e w5 ⟨rfl, b5⟩
    have B5 := hide ((unhide B4).trans (b5.mono (unhide B4).size))
    have T5 := hide ((unhide T4).kept b5)
    have C5 := hide ((unhide C4).below b5)
    clear b5 B4 T4 C4 HK2 HEX
    have q1 : q ≤ t.size := by omega
    have q2 : (q : Int) ≤ (t.size : Int) := by omega
    have q3 : ((t.size : Nat) : Int) = (m : Int) := by omega
    clear hsz
    go_wp2_with fail
    refine (drawInitial_any b M cap2 _ (by omega) (unhide C5)).mono ?_
    rintro e wi ⟨id, rfl, hid, bi⟩
    have BI := hide ((unhide B5).trans (bi.mono (unhide B5).size))
    have TI := hide ((unhide T5).kept bi)
    clear bi B5 T5 C5
    by_cases h20 : id.size ≤ 20
    · have HI := hide (fun W (h9 : Rt W) => implInitial_ok id h20 W h9)
      have HS := hide (fun W => specInitial_ok id h20 W)
      have hz1 := ssW_size id ciT
      have hz2 := ssW_size id siT
      generalize ssW id ciT = o1 at *
      generalize ssW id siT = o2 at *
      go_wp2_with fail
      refine (unhide HI _ (unhide TI)).mono ?_
      rintro e wj ⟨rfl, bj⟩
      have BJ := hide ((unhide BI).trans (bj.mono (unhide BI).size))
      clear bj BI TI HI
      go_wp2_with fail
      refine (unhide HS _).mono ?_
      rintro e wk ⟨rfl, bk⟩
      have BK := hide ((unhide BJ).trans (bk.mono (unhide BJ).size))
      clear bk BJ HS
      go_wp2
      go_ret
      exact ⟨rfl, unhide BK⟩
    · have HI := hide (fun W => implInitial_no id h20 (by omega) W)
      have HS := hide (fun W => specInitial_no id h20 (by omega) W)
      go_wp2_with fail
      refine (unhide HI _).mono ?_
      rintro e wj ⟨rfl, bj⟩
      have BJ := hide ((unhide BI).trans (bj.mono (unhide BI).size))
      clear bj BI TI HI
      go_wp2_with fail
      refine (unhide HS _).mono ?_
      rintro e wk ⟨rfl, bk⟩
      have BK := hide ((unhide BJ).trans (bk.mono (unhide BJ).size))
      clear bk BJ HS
      go_wp2
      go_ret
      exact ⟨rfl, unhide BK⟩
  · have HI := hide (fun W => implExpand_no s info n (fun x => hok x.2.2) (by omega) (by omega) (hwf n hn0 hn1) W)
    have HS := hide (fun W => specExpand_no s info n (fun x => hok x.2.2) (by omega) (by omega) (hwf n hn0 hn1) W)
    go_wp2_with fail
    refine (unhide HI _).mono ?_
    rintro e w2 ⟨rfl, b2⟩
    have B2 := hide ((unhide B1).trans (b2.mono (unhide B1).size))
    have T2 := hide ((unhide T1).kept b2)
    have C2 := hide ((unhide C1).below b2)
    clear b2 B1 T1 C1 HI
    go_wp2_with fail
    refine (unhide HS _).mono ?_
    rintro e w3 ⟨rfl, b3⟩
    have B3 := hide ((unhide B2).trans (b3.mono (unhide B2).size))
    have T3 := hide ((unhide T2).kept b3)
    have C3 := hide ((unhide C2).below b3)
    clear b3 B2 T2 C2 HS
    go_wp2_with fail
    refine (drawInitial_any b M cap2 _ (by omega) (unhide C3)).mono ?_
    rintro e wi ⟨id, rfl, hid, bi⟩
    have BI := hide ((unhide B3).trans (bi.mono (unhide B3).size))
    have TI := hide ((unhide T3).kept bi)
    clear bi B3 T3 C3
    by_cases h20 : id.size ≤ 20
    · have HI := hide (fun W (h9 : Rt W) => implInitial_ok id h20 W h9)
      have HS := hide (fun W => specInitial_ok id h20 W)
      have hz1 := ssW_size id ciT
      have hz2 := ssW_size id siT
      generalize ssW id ciT = o1 at *
      generalize ssW id siT = o2 at *
      go_wp2_with fail
      refine (unhide HI _ (unhide TI)).mono ?_
      rintro e wj ⟨rfl, bj⟩
      have BJ := hide ((unhide BI).trans (bj.mono (unhide BI).size))
      clear bj BI TI HI
      go_wp2_with fail
      refine (unhide HS _).mono ?_
      rintro e wk ⟨rfl, bk⟩
      have BK := hide ((unhide BJ).trans (bk.mono (unhide BJ).size))
      clear bk BJ HS
      go_wp2
      go_ret
      exact ⟨rfl, unhide BK⟩
    · have HI := hide (fun W => implInitial_no id h20 (by omega) W)
      have HS := hide (fun W => specInitial_no id h20 (by omega) W)
      go_wp2_with fail
      refine (unhide HI _).mono ?_
      rintro e wj ⟨rfl, bj⟩
      have BJ := hide ((unhide BI).trans (bj.mono (unhide BI).size))
      clear bj BI TI HI
      go_wp2_with fail
      refine (unhide HS _).mono ?_
      rintro e wk ⟨rfl, bk⟩
      have BK := hide ((unhide BJ).trans (bk.mono (unhide BJ).size))
      clear bk BJ HS
      go_wp2
      go_ret
      exact ⟨rfl, unhide BK⟩
theorem walk (a : Option Addr) (N cap : Nat) (b : Option Addr) (M cap2 : Nat) (w : World) (hN : N ≤ 140737488355328) (hM : M ≤ 140737488355328) (hC : Cd w a N) (hC2 : Cd w b M) (hT : Rt w) :
    Calls Tryd.prog 5 #[.slice a N cap, .slice b M cap2] w fun e w' => e = .returned (.bool true) ∧ Below w.heap.size w w' := by
  by_cases hl : (1048576 : Int) < (N : Int) + (M : Int)
  · go_enter Tryd.func5, Tryd.ntmps5
    go_wp2
    go_ret
    exact ⟨rfl, Below.refl _ _⟩
  · exact walk_in a N cap b M cap2 w (by omega) hC hC2 hT
end Go.Proofs.YtcedecmapgfkhaaDoor.fnDerived
