/-
  Contracts: NextSecret and KeysOf of both sides.
-/
import Derived.Test.YtlphaciboaicgaaDoorLli
import Derived.Test.YtlphaciboaicgaaDoorIli
namespace Go.Proofs.YtlphaciboaicgaaDoor
open Go.ChangeShapes Go.WideShapes Go.ChangeAt Go.RowKit
set_option linter.unusedVariables false
set_option maxRecDepth 100000

/-- what a label tells of a secret -/
def lbW (secret label : ByteArray) (n : Nat) : ByteArray := bq n (dvW secret (liW label n))
def qKey : ByteArray := ⟨#[113, 117, 105, 99, 32, 107, 101, 121]⟩
def qIv : ByteArray := ⟨#[113, 117, 105, 99, 32, 105, 118]⟩
def qHp : ByteArray := ⟨#[113, 117, 105, 99, 32, 104, 112]⟩
def qKu : ByteArray := ⟨#[113, 117, 105, 99, 32, 107, 117]⟩
theorem implLb (secret label : ByteArray) (n : Nat) (h1 : secret.size ≤ 500) (h2 : label.size ≤ 40) (h3 : n ≤ 255) (W : World) (hT : Rt W) :
    Calls Tryd.prog 12 #[.string secret, .string label, .int .i64 n] W fun e w' => e = .returned (.tuple #[.string (lbW secret label n), .bool true]) ∧ Below W.heap.size W w' := by
  have h9 := implLabel_ok secret label n ⟨h1, h2, by omega, by omega⟩ W hT
  rw [Int.toNat_natCast] at h9
  exact h9
theorem implLbn (secret label : ByteArray) (n : Nat) (h1 : ¬ secret.size ≤ 500) (hl : secret.size ≤ 1048576) (h2 : label.size ≤ 40) (h3 : n ≤ 255) (W : World) :
    Calls Tryd.prog 12 #[.string secret, .string label, .int .i64 n] W fun e w' => e = .returned (.tuple #[.string ⟨#[]⟩, .bool false]) ∧ Below W.heap.size W w' :=
  implLabel_no secret label n (fun x => h1 x.1) hl (by omega) (by simp [Lit.wf, IntKind.min, IntKind.max, IntKind.signed, IntKind.bits]; omega) W
theorem implNS_ok (s : ByteArray) (h : s.size ≤ 500) (w : World) (hT : Rt w) :
    Calls Tryd.prog 9 #[.string s] w fun e w' => e = .returned (.tuple #[.string (lbW s qKu 32), .bool true]) ∧ Below w.heap.size w w' := by
  have H := hide (implLb s qKu 32 h (by decide) (by omega) w hT)
  generalize lbW s qKu 32 = r at *
  go_enter Tryd.func9, Tryd.ntmps9
  go_wp2_with fail
  refine (unhide H).mono ?_
  rintro e w1 ⟨rfl, b1⟩
  have B1 := hide b1
  clear b1
  go_wp2
  go_ret2
  exact ⟨rfl, unhide B1⟩
theorem implNS_no (s : ByteArray) (h : ¬ s.size ≤ 500) (hl : s.size ≤ 1048576) (w : World) :
    Calls Tryd.prog 9 #[.string s] w fun e w' => e = .returned (.tuple #[.string ⟨#[]⟩, .bool false]) ∧ Below w.heap.size w w' := by
  have H := hide (implLbn s qKu 32 h hl (by decide) (by omega) w)
  go_enter Tryd.func9, Tryd.ntmps9
  go_wp2_with fail
  refine (unhide H).mono ?_
  rintro e w1 ⟨rfl, b1⟩
  have B1 := hide b1
  clear b1
  go_wp2
  go_ret2
  exact ⟨rfl, unhide B1⟩
theorem specNS_ok (s : ByteArray) (h : s.size ≤ 500) (w : World) :
    Calls Tryd.prog 8 #[.string s] w fun e w' => e = .returned (.tuple #[.string (lbW s qKu 32), .bool true]) ∧ Below w.heap.size w w' := by
  have HX := hide (fun W hb gw cw gf cf (hq : L4 W hb gw cw gf cf) => specLabelTo s qKu 32 (by omega) (by decide) (by omega) W hb gw cw gf cf hq)
  change Hid (∀ W hb gw cw gf cf, L4 W hb gw cw gf cf → Calls Tryd.prog 11 #[.pointer (some ⟨hb, 0, none⟩), .string s, .string qKu, .int .i64 32] W fun e w' => e = .returned (.string (lbW s qKu 32)) ∧ Below W.heap.size W w') at HX
  generalize lbW s qKu 32 = r at *
  go_enter Tryd.func8, Tryd.ntmps8
  go_wp2_with fail
  refine (specNew _).mono ?_
  rintro e w1 ⟨hb, gw, cw, gf, cf, rfl, hq, b1⟩
  have H4 := hide hq
  have B1 := hide b1
  clear hq b1
  go_wp2_with fail
  refine (unhide HX _ hb gw cw gf cf (unhide H4)).mono ?_
  rintro e w2 ⟨rfl, b2⟩
  have B2 := hide ((unhide B1).trans (b2.mono (unhide B1).size))
  clear b2
  go_wp2
  go_ret2
  exact ⟨rfl, unhide B2⟩
theorem specNS_no (s : ByteArray) (h : ¬ s.size ≤ 500) (hl : s.size ≤ 1048576) (w : World) :
    Calls Tryd.prog 8 #[.string s] w fun e w' => e = .returned (.tuple #[.string ⟨#[]⟩, .bool false]) ∧ Below w.heap.size w w' := by
  have h2 : (500 : Int) < s.size := by omega
  go_enter Tryd.func8, Tryd.ntmps8
  go_wp2
  go_ret2
  exact ⟨rfl, Below.refl _ _⟩
/-- three texts of a block of the call's own, still empty -/
structure Z3 (w : World) (g : Nat) : Prop where
  lt : g < w.heap.size
  c0 : w.cell? ⟨g, 0, none⟩ = some (.string ⟨#[]⟩)
  c1 : w.cell? ⟨g, 1, none⟩ = some (.string ⟨#[]⟩)
  c2 : w.cell? ⟨g, 2, none⟩ = some (.string ⟨#[]⟩)
  fz : ∀ o, w.frozen? ⟨g, o, none⟩ = false
theorem Z3.kept {w w' : World} {g : Nat} (h : Z3 w g) (hb : Below w.heap.size w w') : Z3 w' g := by
  obtain ⟨hc, hf⟩ := bcell hb
  exact ⟨Nat.lt_of_lt_of_le h.lt hb.size, (hc _ _ h.lt).trans h.c0, (hc _ _ h.lt).trans h.c1, (hc _ _ h.lt).trans h.c2, fun o => (hf _ _ h.lt).trans (h.fz o)⟩
theorem Z3.new (w : World) (t : TypeId) : Z3 (w.alloc (.cells #[.string ⟨#[]⟩, .string ⟨#[]⟩, .string ⟨#[]⟩] t)) w.heap.size := ⟨by simp, by simp, by simp, by simp, fun o => by simp⟩
set_option maxHeartbeats 1000000 in
theorem implKO_ok (s : ByteArray) (h : s.size ≤ 500) (w : World) (hT : Rt w) :
    Calls Tryd.prog 6 #[.string s] w fun e w' => e = .returned (.tuple #[.agg #[.string (lbW s qKey 16), .string (lbW s qIv 12), .string (lbW s qHp 16)], .bool true]) ∧ Below w.heap.size w w' := by
  have H1 : Hid (∀ W : World, Rt W → Calls Tryd.prog 12 #[.string s, .string qKey, .int .i64 16] W fun e w' => e = .returned (.tuple #[.string (lbW s qKey 16), .bool true]) ∧ Below W.heap.size W w') := fun W hT => implLb s qKey 16 h (by decide) (by omega) W hT
  have H2 : Hid (∀ W : World, Rt W → Calls Tryd.prog 12 #[.string s, .string qIv, .int .i64 12] W fun e w' => e = .returned (.tuple #[.string (lbW s qIv 12), .bool true]) ∧ Below W.heap.size W w') := fun W hT => implLb s qIv 12 h (by decide) (by omega) W hT
  have H3 : Hid (∀ W : World, Rt W → Calls Tryd.prog 12 #[.string s, .string qHp, .int .i64 16] W fun e w' => e = .returned (.tuple #[.string (lbW s qHp 16), .bool true]) ∧ Below W.heap.size W w') := fun W hT => implLb s qHp 16 h (by decide) (by omega) W hT
  generalize lbW s qKey 16 = r1 at *
  generalize lbW s qIv 12 = r2 at *
  generalize lbW s qHp 16 = r3 at *
  have z0 := Z3.new w 23
  have b0 := (Below.refl w.heap.size w).alloc (Nat.le_refl _) (.cells #[.string ⟨#[]⟩, .string ⟨#[]⟩, .string ⟨#[]⟩] 23)
  have t0 := hT.kept b0
  go_enter Tryd.func6, Tryd.ntmps6
  go_wp2_with fail
  generalize w.alloc (.cells #[.string ⟨#[]⟩, .string ⟨#[]⟩, .string ⟨#[]⟩] 23) = W0 at *
  have Z0 := hide z0
  have B0 := hide b0
  clear z0 b0
  have T0 := hide t0
  clear t0 hT
  refine (unhide H1 _ (unhide T0)).mono ?_
  rintro e w1 ⟨rfl, b1⟩
  have Z1 := hide ((unhide Z0).kept b1)
  have B1 := hide ((unhide B0).trans (b1.mono (unhide B0).size))
  have T1 := hide ((unhide T0).kept b1)
  clear b1 Z0 B0 T0
  go_wp2_with fail
  refine (unhide H2 _ (unhide T1)).mono ?_
  rintro e w2 ⟨rfl, b2⟩
  have Z2 := hide ((unhide Z1).kept b2)
  have B2 := hide ((unhide B1).trans (b2.mono (unhide B1).size))
  have T2 := hide ((unhide T1).kept b2)
  clear b2 Z1 B1 T1
  go_wp2_with fail
  refine (unhide H3 _ (unhide T2)).mono ?_
  rintro e w3 ⟨rfl, b3⟩
  have Z3 := hide ((unhide Z2).kept b3)
  have B3 := hide ((unhide B2).trans (b3.mono (unhide B2).size))
  have T3 := hide ((unhide T2).kept b3)
  clear b3 Z2 B2 T2
  obtain ⟨lt3, c30, c31, c32, fz3⟩ := unhide Z3
  have f0 := fz3 0
  have f1 := fz3 1
  have f2 := fz3 2
  clear fz3
  go_wp2
  refine bodyPost_ret (v := .tuple #[.agg #[.string r1, .string r2, .string r3], .bool true]) (by simp [results, Tryd.results6, go_sem, c30, c31, c32]) rfl ⟨rfl, ?_⟩
  iterate 3 refine Below.setCell ?_ (by simp) _
  exact unhide B3
set_option maxHeartbeats 1000000 in
theorem implKO_no (s : ByteArray) (h : ¬ s.size ≤ 500) (hl : s.size ≤ 1048576) (w : World) :
    Calls Tryd.prog 6 #[.string s] w fun e w' => e = .returned (.tuple #[.agg #[.string ⟨#[]⟩, .string ⟨#[]⟩, .string ⟨#[]⟩], .bool false]) ∧ Below w.heap.size w w' := by
  have H1 : Hid (∀ W : World, Calls Tryd.prog 12 #[.string s, .string qKey, .int .i64 16] W fun e w' => e = .returned (.tuple #[.string ⟨#[]⟩, .bool false]) ∧ Below W.heap.size W w') := fun W => implLbn s qKey 16 h hl (by decide) (by omega) W
  have H2 : Hid (∀ W : World, Calls Tryd.prog 12 #[.string s, .string qIv, .int .i64 12] W fun e w' => e = .returned (.tuple #[.string ⟨#[]⟩, .bool false]) ∧ Below W.heap.size W w') := fun W => implLbn s qIv 12 h hl (by decide) (by omega) W
  have H3 : Hid (∀ W : World, Calls Tryd.prog 12 #[.string s, .string qHp, .int .i64 16] W fun e w' => e = .returned (.tuple #[.string ⟨#[]⟩, .bool false]) ∧ Below W.heap.size W w') := fun W => implLbn s qHp 16 h hl (by decide) (by omega) W
  have z0 := Z3.new w 23
  have b0 := (Below.refl w.heap.size w).alloc (Nat.le_refl _) (.cells #[.string ⟨#[]⟩, .string ⟨#[]⟩, .string ⟨#[]⟩] 23)
  go_enter Tryd.func6, Tryd.ntmps6
  go_wp2_with fail
  generalize w.alloc (.cells #[.string ⟨#[]⟩, .string ⟨#[]⟩, .string ⟨#[]⟩] 23) = W0 at *
  have Z0 := hide z0
  have B0 := hide b0
  clear z0 b0
  refine (unhide H1 _).mono ?_
  rintro e w1 ⟨rfl, b1⟩
  have Z1 := hide ((unhide Z0).kept b1)
  have B1 := hide ((unhide B0).trans (b1.mono (unhide B0).size))
  clear b1 Z0 B0
  go_wp2_with fail
  refine (unhide H2 _).mono ?_
  rintro e w2 ⟨rfl, b2⟩
  have Z2 := hide ((unhide Z1).kept b2)
  have B2 := hide ((unhide B1).trans (b2.mono (unhide B1).size))
  clear b2 Z1 B1
  go_wp2_with fail
  refine (unhide H3 _).mono ?_
  rintro e w3 ⟨rfl, b3⟩
  have Z3 := hide ((unhide Z2).kept b3)
  have B3 := hide ((unhide B2).trans (b3.mono (unhide B2).size))
  clear b3 Z2 B2
  obtain ⟨lt3, c30, c31, c32, fz3⟩ := unhide Z3
  have f0 := fz3 0
  have f1 := fz3 1
  have f2 := fz3 2
  clear fz3
  go_wp2
  refine bodyPost_ret (v := .tuple #[.agg #[.string ⟨#[]⟩, .string ⟨#[]⟩, .string ⟨#[]⟩], .bool false]) (by simp [results, Tryd.results6, go_sem, c30, c31, c32]) rfl ⟨rfl, ?_⟩
  iterate 3 refine Below.setCell ?_ (by simp) _
  exact unhide B3
set_option maxHeartbeats 1000000 in
theorem specKO_ok (s : ByteArray) (h : s.size ≤ 500) (w : World) :
    Calls Tryd.prog 5 #[.string s] w fun e w' => e = .returned (.tuple #[.agg #[.string (lbW s qKey 16), .string (lbW s qIv 12), .string (lbW s qHp 16)], .bool true]) ∧ Below w.heap.size w w' := by
  have H1 : Hid (∀ W hb gw cw gf cf, L4 W hb gw cw gf cf → Calls Tryd.prog 11 #[.pointer (some ⟨hb, 0, none⟩), .string s, .string qKey, .int .i64 16] W fun e w' => e = .returned (.string (lbW s qKey 16)) ∧ Below W.heap.size W w') := fun W hb gw cw gf cf hq => specLabelTo s qKey 16 (by omega) (by decide) (by omega) W hb gw cw gf cf hq
  have H2 : Hid (∀ W hb gw cw gf cf, L4 W hb gw cw gf cf → Calls Tryd.prog 11 #[.pointer (some ⟨hb, 0, none⟩), .string s, .string qIv, .int .i64 12] W fun e w' => e = .returned (.string (lbW s qIv 12)) ∧ Below W.heap.size W w') := fun W hb gw cw gf cf hq => specLabelTo s qIv 12 (by omega) (by decide) (by omega) W hb gw cw gf cf hq
  have H3 : Hid (∀ W hb gw cw gf cf, L4 W hb gw cw gf cf → Calls Tryd.prog 11 #[.pointer (some ⟨hb, 0, none⟩), .string s, .string qHp, .int .i64 16] W fun e w' => e = .returned (.string (lbW s qHp 16)) ∧ Below W.heap.size W w') := fun W hb gw cw gf cf hq => specLabelTo s qHp 16 (by omega) (by decide) (by omega) W hb gw cw gf cf hq
  generalize lbW s qKey 16 = r1 at *
  generalize lbW s qIv 12 = r2 at *
  generalize lbW s qHp 16 = r3 at *
  have z0 := Z3.new w 23
  have b0 := (Below.refl w.heap.size w).alloc (Nat.le_refl _) (.cells #[.string ⟨#[]⟩, .string ⟨#[]⟩, .string ⟨#[]⟩] 23)
  have h2 : ¬ (500 : Int) < s.size := by omega
  go_enter Tryd.func5, Tryd.ntmps5
  go_wp2_with fail
  generalize w.alloc (.cells #[.string ⟨#[]⟩, .string ⟨#[]⟩, .string ⟨#[]⟩] 23) = W0 at *
  have Z0 := hide z0
  have B0 := hide b0
  clear z0 b0
  refine (specNew _).mono ?_
  rintro e w9 ⟨hb, gw, cw, gf, cf, rfl, hq, b9⟩
  have L9 := hide hq
  have Z9 := hide ((unhide Z0).kept b9)
  have B9 := hide ((unhide B0).trans (b9.mono (unhide B0).size))
  clear hq b9 Z0 B0
  go_wp2_with fail
  refine (unhide H1 _ hb gw cw gf cf (unhide L9)).mono ?_
  rintro e w1 ⟨rfl, b1⟩
  have L1 := hide ((unhide L9).kept b1)
  have Z1 := hide ((unhide Z9).kept b1)
  have B1 := hide ((unhide B9).trans (b1.mono (unhide B9).size))
  clear b1 L9 Z9 B9
  go_wp2_with fail
  refine (unhide H2 _ hb gw cw gf cf (unhide L1)).mono ?_
  rintro e w2 ⟨rfl, b2⟩
  have L2 := hide ((unhide L1).kept b2)
  have Z2 := hide ((unhide Z1).kept b2)
  have B2 := hide ((unhide B1).trans (b2.mono (unhide B1).size))
  clear b2 L1 Z1 B1
  go_wp2_with fail
  refine (unhide H3 _ hb gw cw gf cf (unhide L2)).mono ?_
  rintro e w3 ⟨rfl, b3⟩
  have Z3 := hide ((unhide Z2).kept b3)
  have B3 := hide ((unhide B2).trans (b3.mono (unhide B2).size))
  clear b3 L2 Z2 B2
  obtain ⟨lt3, c30, c31, c32, fz3⟩ := unhide Z3
  have f0 := fz3 0
  have f1 := fz3 1
  have f2 := fz3 2
  clear fz3
  go_wp2
  refine bodyPost_ret (v := .tuple #[.agg #[.string r1, .string r2, .string r3], .bool true]) (by simp [results, Tryd.results5, go_sem, c30, c31, c32]) rfl ⟨rfl, ?_⟩
  iterate 3 refine Below.setCell ?_ (by simp) _
  exact unhide B3
set_option maxHeartbeats 1000000 in
theorem specKO_no (s : ByteArray) (h : ¬ s.size ≤ 500) (hl : s.size ≤ 1048576) (w : World) :
    Calls Tryd.prog 5 #[.string s] w fun e w' => e = .returned (.tuple #[.agg #[.string ⟨#[]⟩, .string ⟨#[]⟩, .string ⟨#[]⟩], .bool false]) ∧ Below w.heap.size w w' := by
  have h2 : (500 : Int) < s.size := by omega
  have z0 := Z3.new w 23
  have b0 := (Below.refl w.heap.size w).alloc (Nat.le_refl _) (.cells #[.string ⟨#[]⟩, .string ⟨#[]⟩, .string ⟨#[]⟩] 23)
  go_enter Tryd.func5, Tryd.ntmps5
  go_wp2
  refine bodyPost_ret (v := .tuple #[.agg #[.string ⟨#[]⟩, .string ⟨#[]⟩, .string ⟨#[]⟩], .bool false]) (by simp [results, Tryd.results5, go_sem]) rfl ⟨rfl, ?_⟩
  exact b0
theorem eqKeys_same (a b c : ByteArray) (w : World) :
    Calls Tryd.prog 7 #[.agg #[.string a, .string b, .string c], .agg #[.string a, .string b, .string c]] w fun e w' => e = .returned (.bool true) ∧ Below w.heap.size w w' := by
  go_enter Tryd.func7, Tryd.ntmps7
  go_wp2
  go_ret
  exact ⟨rfl, ((Below.refl _ _).alloc (Nat.le_refl _) _).alloc (by simp) _⟩
end Go.Proofs.YtlphaciboaicgaaDoor
