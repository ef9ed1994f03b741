/-
  Contracts: the program's Ghash.
-/
import Derived.Test.YtgoafbhhihfkfaaE5h
import Derived.Test.YtgoafbhhihfkfaaWtn
import Derived.Test.YtgoafbhhihfkfaaSpr
namespace Go.Proofs.Ytgoafbhhihfkfaa
open Go.ChangeShapes Go.WideShapes Go.ChangeAt Go.RowKit
set_option linter.unusedVariables false

set_option maxRecDepth 100000 in
set_option maxHeartbeats 1000000 in
theorem implGH_ok (h s : ByteArray) (hc : h.size = 16 ∧ s.size % 16 = 0 ∧ s.size ≤ 3200) (w : World) :
    Calls Try.prog 14 #[.string h, .string s] w fun e w' => e = .returned (.tuple #[.string (ghW h s), .bool true]) ∧ Below w.heap.size w w' := by
  obtain ⟨hh, hs, hm⟩ := hc
  have h1 : ((s.size : Int) % 16 != 0) = false := by simp; omega
  have HC : Hid (∀ W g c, W.cell? ⟨g, 0, none⟩ = some (.string s) → Calls Try.prog 37 #[.int .i64 3200, .slice (some ⟨g, 0, none⟩) 1 c] W fun e w' => e = .returned (.bool true) ∧ w' = W) := fun W g c hc => by
    have h1 := within_one s 3200 (by omega) (by omega) W g c hc
    rw [decide_eq_true hm] at h1
    exact h1
  have hl := ghF_lt (hiW h) (loW h) (at8 s) (hiW_lt h) (loW_lt h) (s.size / 16)
  have HE := hide (fun cb cap W (hA : Ar W cb 0 16 (at8 h)) => implElement h hh cb cap W hA)
  have HO := hide (fun tb tc cp sb (W : World) (hT : Tx W 1 tb (fun _ => sb) (fun _ => 0) (fun _ => s.size) (fun _ => cp) (fun i => i * (s.size / 16)) (at8 s)) => implHashOf (hiW h) (loW h) (hiW_lt h) (loW_lt h) 1 tb tc (fun _ => sb) (fun _ => 0) (fun _ => s.size) (fun _ => cp) (fun i => i * (s.size / 16)) (at8 s) (at8_lt s) (by omega) W hT)
  simp only [Nat.one_mul] at HO
  have H4 := hide (fun W => implBlock _ _ hl.1 hl.2 W)
  have HR : Hid (ghW h s = bq 16 (blF (ghF (hiW h) (loW h) (at8 s) (s.size / 16)).1 (ghF (hiW h) (loW h) (at8 s) (s.size / 16)).2)) := tlW_bq _ _
  have HL := hide (blF_lt (ghF (hiW h) (loW h) (at8 s) (s.size / 16)).1 (ghF (hiW h) (loW h) (at8 s) (s.size / 16)).2)
  generalize blF (ghF (hiW h) (loW h) (at8 s) (s.size / 16)).1 (ghF (hiW h) (loW h) (at8 s) (s.size / 16)).2 = r at *
  generalize (ghF (hiW h) (loW h) (at8 s) (s.size / 16)).1 = x at *
  generalize (ghF (hiW h) (loW h) (at8 s) (s.size / 16)).2 = y at *
  clear hl
  have HS := hide (And.intro hs hm)
  clear hs
  go_enter Try.func14, Try.ntmps14
  go_wp2_with fail
  refine (unhide HC _ _ _ (by simp)).mono ?_
  rintro e w1 ⟨rfl, h9⟩
  rw [h9]
  clear h9 w1
  have al := (Below.refl w.heap.size w).alloc (Nat.le_refl _) (.cells #[.string s] 9)
  generalize w.alloc (.cells #[.string s] 9) = W1 at al ⊢
  have B1 := hide al
  clear al
  go_wp2_with fail
  obtain ⟨cap, W2, hcv, hbW, hcW, hsz⟩ := conv_ar W1 h
  rw [hcv, hh]
  rw [hh] at hcW
  have B2 := hide ((unhide B1).trans (hbW.mono (unhide B1).size))
  have A2 := hide hcW
  clear hcv hcW hbW hsz B1
  go_wp2_with fail
  refine (unhide HE _ _ _ (unhide A2)).mono ?_
  rintro e w3 ⟨rfl, c3⟩
  have B3 := hide ((unhide B2).trans (c3.mono (unhide B2).size))
  clear c3 A2 B2
  go_wp2_with fail
  obtain ⟨cap4, W4, hcv, hbW, hsg, hsz⟩ := conv_sp w3 s
  rw [hcv]
  have B4 := hide ((unhide B3).trans (hbW.mono (unhide B3).size))
  have A4 := hide hsg
  have hz4 := hide hsz
  clear hcv hsg hbW hsz B3
  go_wp2_with fail
  have hT : Tx (W4.alloc (.cells #[.slice (some ⟨w3.heap.size, 0, none⟩) s.size cap4] 22)) 1 W4.heap.size (fun _ => w3.heap.size) (fun _ => 0) (fun _ => s.size) (fun _ => cap4) (fun i => i * (s.size / 16)) (at8 s) := by
    obtain ⟨hs1, hs2⟩ := unhide HS
    refine ⟨Nat.zero_mul _, fun i hi => ?_, fun i hi => by show s.size ≤ 4000; omega, fun i hi => ?_, fun i hi => (unhide A4).le, fun i hi => ?_, by simp⟩
    · obtain rfl : i = 0 := by omega
      show 16 * ((0 + 1) * (s.size / 16)) = 16 * (0 * (s.size / 16)) + s.size
      omega
    · obtain rfl : i = 0 := by omega
      simp
    · obtain rfl : i = 0 := by omega
      exact ((unhide A4).ar.alloc _).congr (fun j hj => by show at8 s j = at8 s (16 * (0 * (s.size / 16)) + j); congr 1; omega)
  have B5 := hide ((unhide B4).alloc (unhide B4).size (.cells #[.slice (some ⟨w3.heap.size, 0, none⟩) s.size cap4] 22))
  generalize W4.alloc (.cells #[.slice (some ⟨w3.heap.size, 0, none⟩) s.size cap4] 22) = W5 at hT B5 ⊢
  refine (unhide HO _ _ _ _ _ hT).mono ?_
  rintro e w6 ⟨rfl, c6⟩
  have B6 := hide ((unhide B5).trans (c6.mono (unhide B5).size))
  clear c6 B5 B4 A4 hT hz4
  go_wp2_with fail
  refine (unhide H4 _).mono ?_
  rintro e w7 ⟨rfl, c7⟩
  have B7 := hide ((unhide B6).trans (c7.mono (unhide B6).size))
  clear c7 B6
  have hlr : (us 16 r).length = 16 := us_length _ _
  go_wp2_with fail
  rw [(z16_new w7 37).cellsPut]
  obtain ⟨n1, n2, n3⟩ := fr16 w7 r
  generalize (w7.alloc (.cells #[.int .u8 0, .int .u8 0, .int .u8 0, .int .u8 0, .int .u8 0, .int .u8 0, .int .u8 0, .int .u8 0, .int .u8 0, .int .u8 0, .int .u8 0, .int .u8 0, .int .u8 0, .int .u8 0, .int .u8 0, .int .u8 0] 37)).setCells w7.heap.size 0 (us 16 r) = W8 at n1 n2 n3 ⊢
  have B8 := hide ((unhide B7).trans (n2.mono (unhide B7).size))
  have hst := ar_string n1 (fun i _ => unhide HL i) 16
  clear n1 n2 n3 hlr B7
  go_wp2
  go_ret2
  exact ⟨by rw [unhide HR]; rfl, unhide B8⟩
set_option maxRecDepth 100000 in
set_option maxHeartbeats 1000000 in
theorem implGH_no (h s : ByteArray) (hc : ¬ (h.size = 16 ∧ s.size % 16 = 0 ∧ s.size ≤ 3200)) (hl : h.size ≤ 1048576) (hl2 : s.size ≤ 1048576) (w : World) :
    Calls Try.prog 14 #[.string h, .string s] w fun e w' => e = .returned (.tuple #[.string ⟨#[]⟩, .bool false]) ∧ Below w.heap.size w w' := by
  by_cases hk : h.size = 16
  · by_cases hs : s.size % 16 = 0
    · have h1 : ((s.size : Int) % 16 != 0) = false := by simp; omega
      have HC : Hid (∀ W g c, W.cell? ⟨g, 0, none⟩ = some (.string s) → Calls Try.prog 37 #[.int .i64 3200, .slice (some ⟨g, 0, none⟩) 1 c] W fun e w' => e = .returned (.bool false) ∧ w' = W) := fun W g c hc2 => by
        have h1 := within_one s 3200 (by omega) hl2 W g c hc2
        rw [decide_eq_false (fun x => hc ⟨hk, hs, x⟩)] at h1
        exact h1
      clear hs
      go_enter Try.func14, Try.ntmps14
      go_wp2_with fail
      refine (unhide HC _ _ _ (by simp)).mono ?_
      rintro e w1 ⟨rfl, h9⟩
      rw [h9]
      clear h9 w1
      go_wp2
      go_ret2
      exact ⟨rfl, (Below.refl w.heap.size w).alloc (Nat.le_refl _) _⟩
    · have h1 : ((s.size : Int) % 16 != 0) = true := by simp; omega
      go_enter Try.func14, Try.ntmps14
      go_wp2
      go_ret2
      exact ⟨rfl, Below.refl _ _⟩
  · have h1 : ((h.size : Int) != 16) = true := by simp; omega
    go_enter Try.func14, Try.ntmps14
    go_wp2
    go_ret2
    exact ⟨rfl, Below.refl _ _⟩
end Go.Proofs.Ytgoafbhhihfkfaa
