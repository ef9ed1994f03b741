/-
  Balancers marked, and their marks held.
-/
import Derived.Test.YtldjenhknejpnaaBln
namespace Go.Proofs.Ytldjenhknejpnaa
open Go.ChangeShapes Go.WideShapes Go.ChangeAt Go.RowKit Go.Deep
set_option linter.unusedVariables false
set_option maxRecDepth 100000

theorem mark0 (a : Option Addr) (cap k0 : Nat) (hk : k0 ≤ 100000000) (w : World) :
    Calls Try.prog 39 #[.slice a 0 cap, .int .i64 k0] w fun e w' => e = .returned (.int .i64 (k0 : Int)) ∧ w' = w := by
  go_enter Try.func39, Try.ntmps39
  go_wp2
  refine wp_loop_rounds 1 ?_
  rw [rounds_succ]
  go_wp2
  go_ret
  exact ⟨rfl, rfl⟩
theorem markSi (lb ls : Nat) (a : Option Addr) (n cap k0 : Nat) (F : Nat → ByteArray) (w : World) (hn : n ≤ 1048576) (hk1 : 1 ≤ k0) (hk0 : k0 ≤ 100000000) (hbs : lb ≤ w.heap.size) (h : Si lb ls w a n F) :
    Calls Try.prog 39 #[.slice a n cap, .int .i64 k0] w fun e w' => e = .returned (.int .i64 ((k0 + n : Nat) : Int)) ∧ Si lb ls w' a n (mkS k0) ∧ Kq (fun q => lb ≤ q ∧ q < ls) w w' := by
  by_cases hz : n = 0
  · subst hz
    refine (mark0 a cap k0 hk0 w).mono ?_
    rintro e w' ⟨rfl, rfl⟩
    exact ⟨rfl, Or.inl rfl, Kq.refl _ _⟩
  · rcases h with h | ⟨g, rfl, h, hg⟩
    · exact absurd h hz
    refine (markS lb (some ⟨g, 0, none⟩) n cap k0 F w hn hk1 hk0 hbs (Or.inr ⟨g, rfl, h⟩)).mono ?_
    rintro e w' ⟨rfl, s, k, b⟩
    refine ⟨rfl, ?_, ⟨k.os, k.tape, k.output, k.size, fun q hq hn => k.block q hq (fun g' e' => ?_)⟩⟩
    · rcases s with s | ⟨g', e', s⟩
      · exact Or.inl s
      · injection e' with e'
        injection e' with e' _ _
        subst e'
        exact Or.inr ⟨g, rfl, s, hg⟩
    · injection e' with e'
      injection e' with e' _ _
      intro e
      exact hn ⟨by have := h.ge; omega, by omega⟩
/-- the mark behind a balancer's last one -/
def kBl (D : BlD) : Nat := kA 1 D.T D.T.length + D.L.length + D.K.length
/-- a balancer that is marked -/
abbrev Bh (base s : Nat) (w : World) (ta la ka : Option Addr) (D : BlD) : Prop := Bw base s w ta la ka (Lm 1 D.T D.T.length) D.L.length (mkS (kA 1 D.T D.T.length)) D.K.length (mkS (kA 1 D.T D.T.length + D.L.length))
/-- its rows are small enough to be marked -/
structure smM (D : BlD) : Prop where
  t : smK D.T
  l : D.L.length ≤ 1048576
  k : D.K.length ≤ 1048576
theorem smB.m {D : BlD} (h : smB D) : smM D := ⟨h.t, h.l, h.k⟩
set_option maxHeartbeats 2000000 in
theorem markBg (base s : Nat) (D : BlD) (ta la ka : Option Addr) (tc lc kc : Nat) (w : World) (hs : smM D) (hb : s ≤ w.heap.size) (h : Bg base s w ta la ka D) :
    Calls Try.prog 13 #[blV D ta tc la lc ka kc, .int .i64 1] w fun e w' => e = .returned (.int .i64 (kBl D : Int)) ∧ Bh base s w' ta la ka D ∧ Kq (fun q => base ≤ q ∧ q < s) w w' := by
  obtain ⟨tb, ts, lb, ls, kb, ks, h1, h2, hT, hL, hK⟩ := h
  have hkA := hs.t.2.2 D.T.length (Nat.le_refl _)
  have hkA1 : 1 ≤ kA 1 D.T D.T.length := by
    have : ∀ i, 1 ≤ kA 1 D.T i := by
      intro i
      induction i with
      | zero => exact Nat.le_refl _
      | succ i ih => show 1 ≤ kA 1 D.T i + 6 + 2 * _; omega
    exact this _
  have hl := hs.l
  have hk := hs.k
  have H0 := hide (fun W (hW : Eg tb ts W ta D.T) (q : tb ≤ W.heap.size) => markEg tb ts tc ta D.T W hs.t q hW)
  have H1 := hide (fun W (hW : Si lb ls W la D.L.length (tA D.L)) (q : lb ≤ W.heap.size) => markSi lb ls la D.L.length lc (kA 1 D.T D.T.length) (tA D.L) W hl hkA1 (by omega) q hW)
  have H2 := hide (fun W (hW : Si kb ks W ka D.K.length (tA D.K)) (q : kb ≤ W.heap.size) => markSi kb ks ka D.K.length kc (kA 1 D.T D.T.length + D.L.length) (tA D.K) W hk (by omega) (by omega) q hW)
  have HX := hide (Bx.new w (blC D ta tc la lc ka kc) 34)
  have AL : Below w.heap.size w (w.alloc (.cells (blC D ta tc la lc ka kc).toArray 34)) := (Below.refl _ _).alloc (Nat.le_refl _) _
  have HT := hide (hT.below AL)
  have HL := hide (hL.below AL)
  have HK := hide (hK.below AL)
  have A0 := hide AL
  have hz0 : (w.alloc (.cells (blC D ta tc la lc ka kc).toArray 34)).heap.size = w.heap.size + 1 := by simp
  have HE : Hid (kA 1 D.T D.T.length + D.L.length + D.K.length = kBl D) := rfl
  have HF : Hid (∀ W, Eg tb ts W ta (Lm 1 D.T D.T.length) → Si lb ls W la D.L.length (mkS (kA 1 D.T D.T.length)) → Si kb ks W ka D.K.length (mkS (kA 1 D.T D.T.length + D.L.length)) → Bh base s W ta la ka D) := fun W q1 q2 q3 => ⟨tb, ts, lb, ls, kb, ks, h1, h2, q1, q2, q3⟩
  generalize kBl D = kx at *
  have z1 : tb ≤ w.heap.size := by omega
  have z2 : lb ≤ w.heap.size := by omega
  have z3 : kb ≤ w.heap.size := by omega
  have P1 : Hid (∀ q, tb ≤ q ∧ q < ts → base ≤ q ∧ q < s) := fun q hq => by omega
  have P2 : Hid (∀ q, lb ≤ q ∧ q < ls → base ≤ q ∧ q < s) := fun q hq => by omega
  have P3 : Hid (∀ q, kb ≤ q ∧ q < ks → base ≤ q ∧ q < s) := fun q hq => by omega
  have D1 : Hid (∀ q, tb ≤ q ∧ q < ts → q < lb ∨ ls ≤ q) := fun q hq => by omega
  have D2 : Hid (∀ q, tb ≤ q ∧ q < ts → q < kb ∨ ks ≤ q) := fun q hq => by omega
  have D3 : Hid (∀ q, lb ≤ q ∧ q < ls → q < kb ∨ ks ≤ q) := fun q hq => by omega
  have D4 : Hid (∀ q, lb ≤ q ∧ q < ls → q < tb ∨ ts ≤ q) := fun q hq => by omega
  have D5 : Hid (∀ q, kb ≤ q ∧ q < ks → q < tb ∨ ts ≤ q) := fun q hq => by omega
  have D6 : Hid (∀ q, kb ≤ q ∧ q < ks → q < lb ∨ ls ≤ q) := fun q hq => by omega
  have hx1 : ¬ (tb ≤ w.heap.size ∧ w.heap.size < ts) := by omega
  have hx2 : ¬ (lb ≤ w.heap.size ∧ w.heap.size < ls) := by omega
  have HX2 := hide hx2
  clear hs hT hL hK AL hkA hkA1 h1 h2 hx2
  go_enter Try.func13, Try.ntmps13
  go_wp2_with fail
  refine (unhide H0 _ (unhide HT) (by simp; omega)).mono ?_
  rintro e w1 ⟨rfl, t1, q1⟩
  have T1 := hide t1
  have L1 := hide ((unhide HL).kq q1 (unhide D1))
  have K1 := hide ((unhide HK).kq q1 (unhide D2))
  have Q1 := hide ((Kq.of (unhide A0)).trans (q1.imp (unhide P1)))
  have X1 := hide ((unhide HX).kept q1.size (q1.block _ (by simp) hx1))
  have s1 : w.heap.size + 1 ≤ w1.heap.size := by have := q1.size; rw [hz0] at this; exact this
  have x1 := (unhide X1).cv
  clear t1 q1 HT HL HK HX A0 H0 hz0
  go_wp2_with fail
  refine (unhide H1 _ (unhide L1) (by omega)).mono ?_
  rintro e w2 ⟨rfl, l2, q2⟩
  have L2 := hide l2
  have T2 := hide ((unhide T1).apart q2 (unhide D4))
  have K2 := hide ((unhide K1).kq q2 (unhide D3))
  have Q2 := hide ((unhide Q1).trans (q2.imp (unhide P2)))
  have x2 := ((unhide X1).kept q2.size (q2.block _ (by omega) (unhide HX2))).cv
  have s2 : w1.heap.size ≤ w2.heap.size := q2.size
  clear l2 q2 L1 T1 K1 Q1 X1 x1 H1
  go_wp2_with fail
  refine (unhide H2 _ (unhide K2) (by omega)).mono ?_
  rintro e w3 ⟨rfl, k3, q3⟩
  have R3 := hide (unhide HF _ ((unhide T2).apart q3 (unhide D5)) ((unhide L2).kq q3 (unhide D6)) k3)
  have Q3 := hide ((unhide Q2).trans (q3.imp (unhide P3)))
  clear k3 q3 L2 T2 K2 Q2 x2 H2
  go_wp2
  go_ret
  refine ⟨?_, unhide R3, unhide Q3⟩
  rw [← unhide HE, Int.natCast_add, Int.natCast_add]
  rfl
set_option maxHeartbeats 2000000 in
theorem heldBh (base s : Nat) (D : BlD) (ta la ka : Option Addr) (tc lc kc : Nat) (w : World) (hs : smM D) (h : Bh base s w ta la ka D) :
    Calls Try.prog 14 #[blV D ta tc la lc ka kc, .int .i64 1] w fun e w' => e = .returned (.int .i64 (kBl D : Int)) ∧ Below w.heap.size w w' := by
  obtain ⟨tb, ts, lb, ls, kb, ks, h1, h2, hT, hL, hK⟩ := h
  have hkA := hs.t.2.2 D.T.length (Nat.le_refl _)
  have hkA1 : 1 ≤ kA 1 D.T D.T.length := by
    have : ∀ i, 1 ≤ kA 1 D.T i := by
      intro i
      induction i with
      | zero => exact Nat.le_refl _
      | succ i ih => show 1 ≤ kA 1 D.T i + 6 + 2 * _; omega
    exact this _
  have hl := hs.l
  have hk := hs.k
  have H0 := hide (fun W (b : Below w.heap.size w W) => heldEg tb ts tc ta D.T W hs.t (hT.below b))
  have H1 := hide (fun W (b : Below w.heap.size w W) => heldS la D.L.length lc (kA 1 D.T D.T.length) W hl hkA1 (by omega) (hL.below b).sa)
  have H2 := hide (fun W (b : Below w.heap.size w W) => heldS ka D.K.length kc (kA 1 D.T D.T.length + D.L.length) W hk (by omega) (by omega) (hK.below b).sa)
  have HX := hide (Bx.new w (blC D ta tc la lc ka kc) 34)
  have HE : Hid (kA 1 D.T D.T.length + D.L.length + D.K.length = kBl D) := rfl
  generalize kBl D = kx at *
  have n1 : ¬ (kA 1 D.T D.T.length : Int) < 0 := by omega
  have n2 : ¬ ((kA 1 D.T D.T.length + D.L.length : Nat) : Int) < 0 := by omega
  have n3 : ¬ ((kA 1 D.T D.T.length + D.L.length + D.K.length : Nat) : Int) < 0 := by omega
  generalize kA 1 D.T D.T.length + D.L.length + D.K.length = k3 at *
  generalize kA 1 D.T D.T.length + D.L.length = k2 at *
  generalize kA 1 D.T D.T.length = k1 at *
  clear hs hT hL hK hkA hkA1 h1 h2 hl hk
  go_enter Try.func14, Try.ntmps14
  go_wp2_with fail
  refine (unhide H0 _ ((Below.refl _ _).alloc (Nat.le_refl _) _)).mono ?_
  rintro e w1 ⟨rfl, b1⟩
  have B1 : Hid (Below w.heap.size w w1) := ((Below.refl _ _).alloc (Nat.le_refl _) _).trans (b1.mono (by simp))
  have X1 := hide ((unhide HX).below b1)
  have x1 := (unhide X1).cv
  clear b1 HX
  go_wp2_with fail
  refine (unhide H1 _ (unhide B1)).mono ?_
  rintro e w2 ⟨rfl, b2⟩
  have B2 := hide ((unhide B1).trans (b2.mono (unhide B1).size))
  have x2 := ((unhide X1).below b2).cv
  clear b2 X1 B1 x1
  go_wp2_with fail
  refine (unhide H2 _ (unhide B2)).mono ?_
  rintro e w3 ⟨rfl, b3⟩
  have B3 := hide ((unhide B2).trans (b3.mono (unhide B2).size))
  clear b3 x2 B2
  go_wp2
  go_ret
  refine ⟨?_, unhide B3⟩
  rw [← unhide HE]
  rfl
end Go.Proofs.Ytldjenhknejpnaa
