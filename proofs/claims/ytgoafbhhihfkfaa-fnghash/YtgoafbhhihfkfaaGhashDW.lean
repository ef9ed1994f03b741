/-
  The law on hashes of drawn texts, walked.
-/
import Derived.Test.YtgoafbhhihfkfaaMgh
import Derived.Test.YtgoafbhhihfkfaaDr5
namespace Go.Proofs.Ytgoafbhhihfkfaa.fnGhash
open Go.ChangeShapes Go.WideShapes Go.ChangeAt Go.RowKit
set_option linter.unusedVariables false

set_option maxRecDepth 100000 in
set_option maxHeartbeats 1000000 in
theorem walk_in (a : Option Addr) (N cap : Nat) (b' : Option Addr) (M cap2 : Nat) (w : World) (hN : N + M ≤ 1048576) (hC : Cd w a N) (hC2 : Cd w b' M) :
    Calls Try.prog 4 #[.slice a N cap, .slice b' M cap2] w fun e w' => e = .returned (.bool true) ∧ Below w.heap.size w w' := by
  have HCD := hide hC
  have HCE := hide hC2
  clear hC hC2
  go_enter Try.func4, Try.ntmps4
  go_wp2_with fail
  refine (drawGhash_any a N cap _ (by omega) (unhide HCD)).mono ?_
  rintro e w1 ⟨k, s, rfl, hk, hs, b1⟩
  have B1 := hide b1
  have C1 := hide ((unhide HCE).below b1)
  clear b1 HCD HCE
  by_cases hok : k.size = 16 ∧ s.size % 16 = 0 ∧ s.size ≤ 3200
  · have HI := hide (fun W => implGH_ok k s hok W)
    have HS := hide (fun W => specGH_ok k s hok W)
    have HXR : Hid (∀ t : ByteArray, t.size = s.size → ghW k (xoW s t) = xoW (ghW k s) (ghW k t)) := fun t ht => gh_xor k s t hok.2.1 ht
    have HXI : Hid (∀ t : ByteArray, t.size = s.size → ∀ W, Calls Try.prog 16 #[.string s, .string t] W fun e w' => e = .returned (.tuple #[.string (xoW s t), .bool true]) ∧ Below W.heap.size W w') := fun t ht W => implXT_ok s t ht.symm (by omega) W
    have HXL : Hid (∀ t : ByteArray, t.size = s.size → ∀ W, Calls Try.prog 12 #[.string s, .string t] W fun e w' => e = .returned (.string (xoW s t)) ∧ Below W.heap.size W w') := fun t ht W => lawXored s t (by omega) (by omega) W
    have HGT : Hid (∀ t : ByteArray, t.size = s.size → ∀ W, Calls Try.prog 14 #[.string k, .string t] W fun e w' => e = .returned (.tuple #[.string (ghW k t), .bool true]) ∧ Below W.heap.size W w') := fun t ht W => implGH_ok k t ⟨hok.1, by omega, by omega⟩ W
    have HXG : Hid (∀ t : ByteArray, ∀ W, Calls Try.prog 12 #[.string (ghW k s), .string (ghW k t)] W fun e w' => e = .returned (.string (xoW (ghW k s) (ghW k t))) ∧ Below W.heap.size W w') := fun t W => lawXored _ _ (by rw [ghW_size, ghW_size]; exact Nat.le_refl _) (by rw [ghW_size]; omega) W
    have HXS : Hid (∀ t, (xoW s t).size = s.size) := fun t => xoW_size s t
    generalize hg : ghW k s = g at *
    have HG := hide hg
    have HOK := hide hok
    clear hg hok
    go_wp2_with fail
    refine (unhide HI _).mono ?_
    rintro e w2 ⟨rfl, b2⟩
    have B2 := hide ((unhide B1).trans (b2.mono (unhide B1).size))
    have C2 := hide ((unhide C1).below b2)
    clear b2 B1 C1 HI
    go_wp2_with fail
    refine (unhide HS _).mono ?_
    rintro e w3 ⟨rfl, b3⟩
    have B3 := hide ((unhide B2).trans (b3.mono (unhide B2).size))
    have C3 := hide ((unhide C2).below b3)
    clear b3 B2 C2 HS
    go_wp2_with fail
    refine (drawGhash_any b' M cap2 _ (by omega) (unhide C3)).mono ?_
    rintro e w4 ⟨k2, t0, rfl, hk2, ht0, b4⟩
    have B4 := hide ((unhide B3).trans (b4.mono (unhide B3).size))
    clear b4 B3 C3
    go_wp2_with fail
    generalize decide ((1048576 : Int) < (N : Int) + (M : Int)) = dd
    have hs32 : s.size ≤ 3200 := (unhide HOK).2.2
    go_loopw [12] (fun v wr => ∃ t : ByteArray, t.size ≤ 3216 ∧ v = .string t ∧ wr = w4) (fun v _ => 5000 - (match v with | .string t => t.size | _ => 0))
    case atStart => exact ⟨t0, ht0, rfl, rfl⟩
    case round =>
      obtain ⟨t, ht, rfl, rfl⟩ := hrel
      by_cases hlt : t.size < s.size
      · have hlI : (t.size : Int) < (s.size : Int) := by omega
        have ad := fun W : World => run_string_add_sum (P := Try.prog) (w := W) t ⟨#[90]⟩ (by show t.size + 1 ≤ _; omega)
        have hz2 : (t ++ ⟨#[90]⟩).size = t.size + 1 := by rw [ByteArray.size_append]; rfl
        generalize t ++ ⟨#[90]⟩ = t2 at *
        go_wp2
        exact ⟨⟨t2, by omega, rfl, by first | trivial | rfl⟩, by show 5000 - t2.size < 5000 - t.size; omega⟩
      · have hlI : ¬ (t.size : Int) < (s.size : Int) := by omega
        have hsI : (s.size : Int) ≤ (t.size : Int) := by omega
        have hz : (t.extract 0 s.size).size = s.size := by rw [ByteArray.size_extract]; omega
        have H1 := hide (unhide HGT (t.extract 0 s.size) hz)
        have H2 := hide (unhide HXL (t.extract 0 s.size) hz)
        have H3 := unhide HGT (xoW s (t.extract 0 s.size)) (unhide HXS _)
        rw [unhide HXR _ hz] at H3
        have H3 := hide H3
        have H4 := hide (unhide HXI (t.extract 0 s.size) hz)
        have H5 := hide (unhide HXG (t.extract 0 s.size))
        generalize ghW k (t.extract 0 s.size) = gt at *
        generalize xoW s (t.extract 0 s.size) = xx at *
        generalize xoW g gt = xg at *
        clear hz
        go_wp2_with fail
        refine (unhide H1 _).mono ?_
        rintro e w5 ⟨rfl, b5⟩
        have B5 := hide ((unhide B4).trans (b5.mono (unhide B4).size))
        clear b5 B4
        go_wp2_with fail
        refine (unhide H2 _).mono ?_
        rintro e w6 ⟨rfl, b6⟩
        have B6 := hide ((unhide B5).trans (b6.mono (unhide B5).size))
        clear b6 B5
        go_wp2_with fail
        refine (unhide H3 _).mono ?_
        rintro e w7 ⟨rfl, b7⟩
        have B7 := hide ((unhide B6).trans (b7.mono (unhide B6).size))
        clear b7 B6
        go_wp2_with fail
        refine (unhide H4 _).mono ?_
        rintro e w8 ⟨rfl, b8⟩
        have B8 := hide ((unhide B7).trans (b8.mono (unhide B7).size))
        clear b8 B7
        go_wp2_with fail
        refine (unhide H5 _).mono ?_
        rintro e w9 ⟨rfl, b9⟩
        have B9 := hide ((unhide B8).trans (b9.mono (unhide B8).size))
        clear b9 B8
        go_wp2_with fail
        refine (unhide H2 _).mono ?_
        rintro e w10 ⟨rfl, b10⟩
        have B10 := hide ((unhide B9).trans (b10.mono (unhide B9).size))
        clear b10 B9
        go_wp2
        go_ret
        exact ⟨rfl, unhide B10⟩
  · have HI := hide (fun W => implGH_no k s hok (by omega) (by omega) W)
    have HS := hide (fun W => specGH_no k s hok (by omega) (by omega) W)
    clear hok
    go_wp2_with fail
    refine (unhide HI _).mono ?_
    rintro e w2 ⟨rfl, b2⟩
    have B2 := hide ((unhide B1).trans (b2.mono (unhide B1).size))
    clear b2 B1 C1 HI
    go_wp2_with fail
    refine (unhide HS _).mono ?_
    rintro e w3 ⟨rfl, b3⟩
    have B3 := hide ((unhide B2).trans (b3.mono (unhide B2).size))
    clear b3 B2 HS
    go_wp2
    go_ret
    exact ⟨rfl, unhide B3⟩
theorem walk (a : Option Addr) (N cap : Nat) (b : Option Addr) (M cap2 : Nat) (w : World) (hN : N ≤ 140737488355328) (hM : M ≤ 140737488355328) (hC : Cd w a N) (hC2 : Cd w b M) :
    Calls Try.prog 4 #[.slice a N cap, .slice b M cap2] w fun e w' => e = .returned (.bool true) ∧ Below w.heap.size w w' := by
  by_cases hl : (1048576 : Int) < (N : Int) + (M : Int)
  · go_enter Try.func4, Try.ntmps4
    go_wp2
    go_ret
    exact ⟨rfl, Below.refl _ _⟩
  · exact walk_in a N cap b M cap2 w (by omega) hC hC2
end Go.Proofs.Ytgoafbhhihfkfaa.fnGhash
