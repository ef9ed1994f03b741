/-
  Contracts: the first secrets of an id, both sides.
-/
import Derived.Test.YtcedecmapgfkhaaDoorLli
namespace Go.Proofs.YtcedecmapgfkhaaDoor
open Go.ChangeShapes Go.WideShapes Go.ChangeAt Go.RowKit
set_option linter.unusedVariables false

/-- the salt, the two labels -/
def saT : ByteArray := ⟨#[56, 118, 44, 247, 245, 89, 52, 179, 77, 23, 154, 230, 164, 200, 12, 173, 204, 187, 127, 10]⟩
def ciT : ByteArray := ⟨#[99, 108, 105, 101, 110, 116, 32, 105, 110]⟩
def siT : ByteArray := ⟨#[115, 101, 114, 118, 101, 114, 32, 105, 110]⟩
/-- a side's secret -/
def ssW (id lab : ByteArray) : ByteArray := bq 32 (dvW (hmW saT id) (liW lab 32))
set_option maxRecDepth 100000 in
set_option maxHeartbeats 1000000 in
theorem implInitial_ok (id : ByteArray) (h : id.size ≤ 20) (w : World) (hT : Rt w) :
    Calls Tryd.prog 22 #[.string id] w fun e w' => e = .returned (.tuple #[.string (ssW id ciT), .string (ssW id siT), .bool true]) ∧ Below w.heap.size w w' := by
  have HT := hide hT
  clear hT
  have HC : Hid (∀ W g c, W.cell? ⟨g, 0, none⟩ = some (.string id) → Calls Tryd.prog 33 #[.int .i64 20, .slice (some ⟨g, 0, none⟩) 1 c] W fun e w' => e = .returned (.bool true) ∧ w' = W) := fun W g c hc => by
    have h9 := within_one id 20 (by omega) (by omega) W g c hc
    rw [decide_eq_true h] at h9
    exact h9
  have HK := hide (fun W (h9 : Rt W) => implKey saT (by decide) W h9)
  have HD : Hid (∀ W, Rt W → Calls Tryd.prog 39 #[.agg (uw 16 (ky2 (bhW HW (kyW (k64 saT) 54)) (bhW HW (kyW (k64 saT) 92)))).toArray, .string id] W fun e w' => e = .returned (.string (hmW saT id)) ∧ Below W.heap.size W w') := fun W h9 => by
    rw [hmW_ends]
    exact implKeyed _ _ id (bhW_lt _ _) (bhW_lt _ _) (by omega) W h9
  have HI1 : Hid (∀ W, Calls Tryd.prog 47 #[.string ciT, .int .i64 32] W fun e w' => e = .returned (.string (liW ciT 32)) ∧ Below W.heap.size W w') := fun W => implInfo ciT 32 (by decide) (by decide) W
  have HI2 : Hid (∀ W, Calls Tryd.prog 47 #[.string siT, .int .i64 32] W fun e w' => e = .returned (.string (liW siT 32)) ∧ Below W.heap.size W w') := fun W => implInfo siT 32 (by decide) (by decide) W
  have hc1 : (liW ciT 32).size ≤ 1000 := by rw [liW_size]; decide
  have hc2 : (liW siT 32).size ≤ 1000 := by rw [liW_size]; decide
  have hms : (hmW saT id).size ≤ 5000 := by rw [hmW_size]; omega
  have HX1 : Hid (∀ W, Rt W → Calls Tryd.prog 43 #[.string (hmW saT id), .string (liW ciT 32), .int .i64 32] W fun e w' => e = .returned (.string (ssW id ciT)) ∧ Below W.heap.size W w') := fun W h9 => implDerived (hmW saT id) (liW ciT 32) 32 hms hc1 (by omega) W h9
  have HX2 : Hid (∀ W, Rt W → Calls Tryd.prog 43 #[.string (hmW saT id), .string (liW siT 32), .int .i64 32] W fun e w' => e = .returned (.string (ssW id siT)) ∧ Below W.heap.size W w') := fun W h9 => implDerived (hmW saT id) (liW siT 32) 32 hms hc2 (by omega) W h9
  clear hc1 hc2 hms
  generalize ssW id ciT = o1 at *
  generalize ssW id siT = o2 at *
  generalize hmW saT id = sc at *
  generalize liW ciT 32 = l1 at *
  generalize liW siT 32 = l2 at *
  generalize bhW HW (kyW (k64 saT) 54) = f1 at *
  generalize bhW HW (kyW (k64 saT) 92) = f2 at *
  go_enter Tryd.func22, Tryd.ntmps22
  go_wp2_with fail
  refine (unhide HC _ _ _ (by simp)).mono ?_
  rintro e w1 ⟨rfl, e1⟩
  rw [e1]
  clear e1 w1
  have al := (Below.refl w.heap.size w).alloc (Nat.le_refl _) (.cells #[.string id] 9)
  generalize w.alloc (.cells #[.string id] 9) = W at al ⊢
  have T1 := hide ((unhide HT).kept al)
  have B1 := hide al
  clear al HC
  go_wp2_with fail
  refine (unhide HK _ (unhide T1)).mono ?_
  rintro e w2 ⟨rfl, b2⟩
  have T2 := hide ((unhide T1).kept b2)
  have B2 := hide ((unhide B1).trans (b2.mono (unhide B1).size))
  clear b2 T1 B1
  go_wp2_with fail
  refine (unhide HD _ (unhide T2)).mono ?_
  rintro e w3 ⟨rfl, b3⟩
  have T3 := hide ((unhide T2).kept b3)
  have B3 := hide ((unhide B2).trans (b3.mono (unhide B2).size))
  clear b3 T2 B2
  go_wp2_with fail
  refine (unhide HI1 _).mono ?_
  rintro e w4 ⟨rfl, b4⟩
  have T4 := hide ((unhide T3).kept b4)
  have B4 := hide ((unhide B3).trans (b4.mono (unhide B3).size))
  clear b4 T3 B3
  go_wp2_with fail
  refine (unhide HX1 _ (unhide T4)).mono ?_
  rintro e w5 ⟨rfl, b5⟩
  have T5 := hide ((unhide T4).kept b5)
  have B5 := hide ((unhide B4).trans (b5.mono (unhide B4).size))
  clear b5 T4 B4
  go_wp2_with fail
  refine (unhide HI2 _).mono ?_
  rintro e w6 ⟨rfl, b6⟩
  have T6 := hide ((unhide T5).kept b6)
  have B6 := hide ((unhide B5).trans (b6.mono (unhide B5).size))
  clear b6 T5 B5
  go_wp2_with fail
  refine (unhide HX2 _ (unhide T6)).mono ?_
  rintro e w7 ⟨rfl, b7⟩
  have T7 := hide ((unhide T6).kept b7)
  have B7 := hide ((unhide B6).trans (b7.mono (unhide B6).size))
  clear b7 T6 B6
  go_wp2
  go_ret3
  exact ⟨rfl, unhide B7⟩
theorem implInitial_no (id : ByteArray) (h : ¬ id.size ≤ 20) (hl : id.size ≤ 1048576) (w : World) :
    Calls Tryd.prog 22 #[.string id] w fun e w' => e = .returned (.tuple #[.string ⟨#[]⟩, .string ⟨#[]⟩, .bool false]) ∧ Below w.heap.size w w' := by
  have HC : Hid (∀ W g c, W.cell? ⟨g, 0, none⟩ = some (.string id) → Calls Tryd.prog 33 #[.int .i64 20, .slice (some ⟨g, 0, none⟩) 1 c] W fun e w' => e = .returned (.bool false) ∧ w' = W) := fun W g c hc => by
    have h9 := within_one id 20 (by omega) hl W g c hc
    rw [decide_eq_false h] at h9
    exact h9
  go_enter Tryd.func22, Tryd.ntmps22
  go_wp2_with fail
  refine (unhide HC _ _ _ (by simp)).mono ?_
  rintro e w1 ⟨rfl, e1⟩
  rw [e1]
  clear e1 w1
  go_wp2
  go_ret3
  exact ⟨rfl, (Below.refl w.heap.size w).alloc (Nat.le_refl _) _⟩
set_option maxRecDepth 100000 in
set_option maxHeartbeats 1000000 in
theorem specInitial_ok (id : ByteArray) (h : id.size ≤ 20) (w : World) :
    Calls Tryd.prog 23 #[.string id] w fun e w' => e = .returned (.tuple #[.string (ssW id ciT), .string (ssW id siT), .bool true]) ∧ Below w.heap.size w w' := by
  have hms : (hmW saT id).size ≤ 5000 := by rw [hmW_size]; omega
  have HM := hide (fun W hb gw cw gf cf (h9 : L4 W hb gw cw gf cf) => specHmac saT id (by decide) (by omega) W hb gw cw gf cf h9)
  have HX1 : Hid (∀ W hb gw cw gf cf, L4 W hb gw cw gf cf → Calls Tryd.prog 48 #[.pointer (some ⟨hb, 0, none⟩), .string (hmW saT id), .string ciT, .int .i64 32] W fun e w' => e = .returned (.string (ssW id ciT)) ∧ Below W.heap.size W w') := fun W hb gw cw gf cf h9 => specLabelTo (hmW saT id) ciT 32 hms (by decide) (by omega) W hb gw cw gf cf h9
  have HX2 : Hid (∀ W hb gw cw gf cf, L4 W hb gw cw gf cf → Calls Tryd.prog 48 #[.pointer (some ⟨hb, 0, none⟩), .string (hmW saT id), .string siT, .int .i64 32] W fun e w' => e = .returned (.string (ssW id siT)) ∧ Below W.heap.size W w') := fun W hb gw cw gf cf h9 => specLabelTo (hmW saT id) siT 32 hms (by decide) (by omega) W hb gw cw gf cf h9
  clear hms
  generalize ssW id ciT = o1 at *
  generalize ssW id siT = o2 at *
  generalize hmW saT id = sc at *
  go_enter Tryd.func23, Tryd.ntmps23
  go_wp2_with fail
  refine (specNew _).mono ?_
  rintro e w1 ⟨hb, gw, cw, gf, cf, rfl, hq, b1⟩
  have L1 := hide hq
  have B1 := hide b1
  clear hq b1
  go_wp2_with fail
  refine (unhide HM _ hb gw cw gf cf (unhide L1)).mono ?_
  rintro e w2 ⟨rfl, b2⟩
  have L2 := hide ((unhide L1).kept b2)
  have B2 := hide ((unhide B1).trans (b2.mono (unhide B1).size))
  clear b2 L1 B1
  go_wp2_with fail
  refine (unhide HX1 _ hb gw cw gf cf (unhide L2)).mono ?_
  rintro e w3 ⟨rfl, b3⟩
  have L3 := hide ((unhide L2).kept b3)
  have B3 := hide ((unhide B2).trans (b3.mono (unhide B2).size))
  clear b3 L2 B2
  go_wp2_with fail
  refine (unhide HX2 _ hb gw cw gf cf (unhide L3)).mono ?_
  rintro e w4 ⟨rfl, b4⟩
  have B4 := hide ((unhide B3).trans (b4.mono (unhide B3).size))
  clear b4 L3 B3
  go_wp2
  go_ret3
  exact ⟨rfl, unhide B4⟩
theorem specInitial_no (id : ByteArray) (h : ¬ id.size ≤ 20) (hl : id.size ≤ 1048576) (w : World) :
    Calls Tryd.prog 23 #[.string id] w fun e w' => e = .returned (.tuple #[.string ⟨#[]⟩, .string ⟨#[]⟩, .bool false]) ∧ Below w.heap.size w w' := by
  go_enter Tryd.func23, Tryd.ntmps23
  go_wp2
  go_ret3
  exact ⟨rfl, Below.refl _ _⟩
end Go.Proofs.YtcedecmapgfkhaaDoor
