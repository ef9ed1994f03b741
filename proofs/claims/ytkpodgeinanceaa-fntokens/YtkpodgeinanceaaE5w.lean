/-
  Contracts: the program's SealText.
-/
import Derived.Test.YtkpodgeinanceaaL5kX
namespace Go.Proofs.Ytkpodgeinanceaa
open Go.ChangeShapes Go.WideShapes Go.ChangeAt Go.RowKit
set_option linter.unusedVariables false

set_option maxRecDepth 100000 in
set_option maxHeartbeats 1000000 in
theorem implST_ok (key nonce beside t : ByteArray) (h : key.size = 16 ∧ nonce.size = 12 ∧ beside.size ≤ 1500 ∧ t.size ≤ 1500) (w : World) :
    Calls Try.prog 32 #[.string key, .string nonce, .string beside, .string t] w fun e w' => e = .returned (.tuple #[.string (seW key nonce beside t), .bool true]) ∧ Below w.heap.size w w' := by
  obtain ⟨hk, hn, hb, ht⟩ := h
  have H1 := hide (fun W => newSeal_ok key nonce hk hn W)
  have HC : Hid (∀ W g c, W.cell? ⟨g, 0, none⟩ = some (.string beside) → W.cell? ⟨g, 1, none⟩ = some (.string t) → Calls Try.prog 39 #[.int .i64 1500, .slice (some ⟨g, 0, none⟩) 2 c] W fun e w' => e = .returned (.bool true) ∧ w' = W) := fun W g c hc hc1 => by
    have h1 := within_two beside t 1500 (by omega) (by omega) (by omega) W g c hc hc1
    rw [decide_eq_true ⟨hb, ht⟩] at h1
    exact h1
  go_enter Try.func32, Try.ntmps32
  go_wp2_with fail
  refine (unhide H1 _).mono ?_
  rintro e w1 ⟨kb, cb, hkb, hcb, rfl, hK, b1⟩
  have K1 := hide hK
  have B1 := hide b1
  have hl1 : kb < w1.heap.size := hK.st.lt
  have hl2 : cb < w1.heap.size := hK.ci.lt
  clear hK b1
  go_wp2_with fail
  refine (unhide HC _ _ _ (by simp) (by simp)).mono ?_
  rintro e w2 ⟨rfl, h9⟩
  rw [h9]
  clear h9 w2
  have al := (Below.refl w1.heap.size w1).alloc (Nat.le_refl _) (.cells #[.string beside, .string t] 9)
  have hz : (w1.alloc (.cells #[.string beside, .string t] 9)).heap.size = w1.heap.size + 1 := by simp
  generalize w1.alloc (.cells #[.string beside, .string t] 9) = W2 at al hz ⊢
  have K2 := hide ((unhide K1).keep al)
  have B2 := hide ((unhide B1).trans (al.mono (unhide B1).size))
  have hBs : w1.heap.size ≤ W2.heap.size := by omega
  clear al K1 B1 hz
  have K2d : SK W2.drew kb cb key nonce := ⟨(unhide K2).c0, (unhide K2).c1, (unhide K2).c2, (unhide K2).st.drew, (unhide K2).ci.drew⟩
  have S0 : Hid (W2.drew.cell? ⟨kb, 0, none⟩ = some (.pointer (some ⟨cb, 0, none⟩)) ∧ W2.drew.rangeAt kb 3 (us 16 (at8 nonce))) := ⟨K2d.c0, K2d.st.range⟩
  have KQ : Hid (∀ V, Below W2.drew.heap.size W2.drew V → V.cell? ⟨kb, 0, none⟩ = some (.pointer (some ⟨cb, 0, none⟩)) ∧ V.rangeAt kb 3 (us 16 (at8 nonce))) := fun V hV => ⟨(K2d.keep hV).c0, (K2d.keep hV).st.range⟩
  have HPL : Hid (∀ V, Calls Try.prog 52 #[.agg (us 16 (at8 nonce)).toArray, .int .i64 2] V fun e w' => e = .returned (.agg (us 16 (plB (at8 nonce) 2)).toArray) ∧ Below V.heap.size V w') := fun V => implPlus (at8 nonce) 2 (at8_lt nonce) (by omega) V
  have HCO : Hid (∀ V, Ar V cb 0 432 (ck (at8 key) 10) → Calls Try.prog 51 #[.pointer (some ⟨cb, 0, none⟩), .agg (us 16 (plB (at8 nonce) 2)).toArray, .string t] V fun e w' => e = .returned (.string (cnW key nonce t)) ∧ Below V.heap.size V w') := fun V h => implCounted cb (at8 key) (plB (at8 nonce) 2) t (at8_lt key) (plB_lt _ (at8_lt nonce) 2) (by omega) V h
  have KC : Hid (∀ V, Below W2.drew.heap.size W2.drew V → Ar V cb 0 432 (ck (at8 key) 10)) := fun V hV => (K2d.keep hV).ci
  have hu := Try.underlying84
  have hi16 : (Try.prog.info? 84).map (·.size) = some (us 16 (at8 nonce)).length := by rw [us_length]; exact info_bl
  have HK2 := hide K2d
  have B2d := hide (unhide B2).drew
  clear K2 B2 K2d
  generalize plB (at8 nonce) 2 = pp at *
  go_wp2_with fail
  go_region_held3 (fun V => V.cell? ⟨kb, 0, none⟩ = some (.pointer (some ⟨cb, 0, none⟩)) ∧ V.rangeAt kb 3 (us 16 (at8 nonce))) (first | exact unhide S0 | exact unhide KQ _ b5 | exact unhide KQ _ (b5.trans (b6.mono b5.size))) (first
    | (go_at_call 52; with_reducible refine (unhide HPL _).mono ?_; rintro e w5 ⟨rfl, b5⟩)
    | (go_at_call 51; with_reducible refine (unhide HCO _ (unhide KC _ b5)).mono ?_; rintro e w6 ⟨rfl, b6⟩))
  have B56 := b5.trans (b6.mono b5.size)
  have K6 := hide ((unhide HK2).keep B56)
  have B6 := hide ((unhide B2d).trans (B56.mono (unhide B2d).size))
  have hBs6 : w1.heap.size ≤ w6.heap.size := Nat.le_trans hBs (by have := B56.size; rw [World.size_drew] at this; exact this)
  have hcz := cnW_size key nonce t
  clear B56 b5 b6 HK2 B2d S0 KQ KC HPL HCO hi16 hBs
  have HE : Hid (cnW key nonce t ++ tgW key nonce beside (cnW key nonce t) = seW key nonce beside t) := rfl
  generalize cnW key nonce t = c at *
  go_wp2_with fail
  obtain ⟨cap3, W3, hcv, hbW, hsg, hsz⟩ := conv_sp w6 beside
  rw [hcv]
  have K3 := hide ((unhide K6).keep hbW)
  have S3 := hide hsg
  have B3 := hide ((unhide B6).trans (hbW.mono (unhide B6).size))
  have hlt3 : w6.heap.size < W3.heap.size := by omega
  clear hcv hsg hbW K6 B6 hsz
  go_wp2_with fail
  obtain ⟨cap4, W4, hcv, hbW, hsg, hsz4⟩ := conv_sp W3 c
  rw [hcv]
  have K4 := hide ((unhide K3).keep hbW)
  have S4 := hide ((unhide S3).below hbW (unhide S3).ar.lt)
  have T4 := hide hsg
  have B4 := hide ((unhide B3).trans (hbW.mono (unhide B3).size))
  clear hcv hsg hbW K3 B3 S3 hsz4
  have HTG := hide (implTag kb cb key nonce w6.heap.size 0 beside.size cap3 (at8 beside) W3.heap.size 0 c.size cap4 (at8 c) (at8_lt beside) (at8_lt c) hb (by omega) W4 (unhide K4) (unhide S4) (unhide T4) (by omega) w1.heap.size hl1 hl2 (by omega) (by omega))
  have HL := hide (tgB_lt key nonce beside.size c.size (at8 beside) (at8 c))
  have HR : Hid (tgW key nonce beside c = bq 16 (tgB key nonce beside.size c.size (at8 beside) (at8 c))) := rfl
  have hww : w.heap.size ≤ w1.heap.size := by omega
  have ad := fun W : World => run_string_add_sum (P := Try.prog) (w := W) c (bq 16 (tgB key nonce beside.size c.size (at8 beside) (at8 c))) (by rw [bq_size]; omega)
  rw [← unhide HR, unhide HE, unhide HR] at ad
  clear K4 S4 T4
  generalize W3.heap.size = gc at *
  generalize w6.heap.size = gb at *
  generalize tgB key nonce beside.size c.size (at8 beside) (at8 c) = r at *
  have HCZ := hide hcz
  clear hcz
  go_wp2_with fail
  refine (unhide HTG).mono ?_
  rintro e w7 ⟨rfl, b5, _⟩
  have B5 := hide ((unhide B4).trans (b5.mono hww))
  have hlr : (us 16 r).length = 16 := us_length _ _
  clear b5 B4 HTG
  go_wp2_with fail
  rw [(z16_new w7 84).cellsPut]
  obtain ⟨n1, n2, n3⟩ := fr16 w7 r
  generalize (w7.alloc (.cells #[.int .u8 0, .int .u8 0, .int .u8 0, .int .u8 0, .int .u8 0, .int .u8 0, .int .u8 0, .int .u8 0, .int .u8 0, .int .u8 0, .int .u8 0, .int .u8 0, .int .u8 0, .int .u8 0, .int .u8 0, .int .u8 0] 84)).setCells w7.heap.size 0 (us 16 r) = W8 at n1 n2 n3 ⊢
  have B8 := hide ((unhide B5).trans (n2.mono (unhide B5).size))
  have hst := ar_string n1 (fun i _ => unhide HL i) 16
  clear n1 n2 n3 hlr B5
  generalize bq 16 r = gg at *
  go_wp2
  go_ret2
  exact ⟨rfl, unhide B8⟩
set_option maxRecDepth 100000 in
set_option maxHeartbeats 1000000 in
theorem implST_no (key nonce beside t : ByteArray) (h : ¬ (key.size = 16 ∧ nonce.size = 12 ∧ beside.size ≤ 1500 ∧ t.size ≤ 1500)) (l0 : key.size ≤ 1048576) (l1 : nonce.size ≤ 1048576) (l2 : beside.size ≤ 1048576) (l3 : t.size ≤ 1048576) (w : World) :
    Calls Try.prog 32 #[.string key, .string nonce, .string beside, .string t] w fun e w' => e = .returned (.tuple #[.string ⟨#[]⟩, .bool false]) ∧ Below w.heap.size w w' := by
  by_cases hkn : key.size = 16 ∧ nonce.size = 12
  · have H1 := hide (fun W => newSeal_ok key nonce hkn.1 hkn.2 W)
    have HC : Hid (∀ W g c, W.cell? ⟨g, 0, none⟩ = some (.string beside) → W.cell? ⟨g, 1, none⟩ = some (.string t) → Calls Try.prog 39 #[.int .i64 1500, .slice (some ⟨g, 0, none⟩) 2 c] W fun e w' => e = .returned (.bool false) ∧ w' = W) := fun W g c hc hc1 => by
      have h1 := within_two beside t 1500 (by omega) l2 l3 W g c hc hc1
      rw [decide_eq_false (fun x => h ⟨hkn.1, hkn.2, x.1, x.2⟩)] at h1
      exact h1
    go_enter Try.func32, Try.ntmps32
    go_wp2_with fail
    refine (unhide H1 _).mono ?_
    rintro e w1 ⟨kb, cb, hkb, hcb, rfl, hK, b1⟩
    have B1 := hide b1
    clear hK b1
    go_wp2_with fail
    refine (unhide HC _ _ _ (by simp) (by simp)).mono ?_
    rintro e w2 ⟨rfl, h9⟩
    rw [h9]
    clear h9 w2
    have B2 := hide ((unhide B1).alloc (unhide B1).size (.cells #[.string beside, .string t] 9))
    clear B1
    go_wp2
    go_ret2
    exact ⟨rfl, unhide B2⟩
  · have H1 := hide (fun W => newSeal_no key nonce hkn l0 l1 W)
    go_enter Try.func32, Try.ntmps32
    go_wp2_with fail
    refine (unhide H1 _).mono ?_
    rintro e w1 ⟨rfl, b1⟩
    have B1 := hide b1
    clear b1
    go_wp2
    go_ret2
    exact ⟨rfl, unhide B1⟩
end Go.Proofs.Ytkpodgeinanceaa
