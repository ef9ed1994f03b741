/-
  Balancers: what they hold, where it lies; the laws' copies of them, what they weigh, how they are held against each other.
-/
import Derived.Test.YtbabipaipbjlbaaSowX
import Derived.Test.YtbabipaipbjlbaaRswX
import Derived.Test.YtbabipaipbjlbaaWtnX
namespace Go.Proofs.Ytbabipaipbjlbaa
open Go.ChangeShapes Go.WideShapes Go.ChangeAt Go.RowKit Go.Deep
set_option linter.unusedVariables false
set_option maxRecDepth 100000

/-- a balancer -/
structure BlD where
  T : List EnD
  L : List ByteArray
  sh : Int
  re : Bool
  K : List ByteArray
  lf : Int
  ve : Int
/-- its cells -/
abbrev blC (D : BlD) (ta : Option Addr) (tc : Nat) (la : Option Addr) (lc : Nat) (ka : Option Addr) (kc : Nat) : List Value := [.slice ta D.T.length tc, .slice la D.L.length lc, .int .i64 D.sh, .bool D.re, .slice ka D.K.length kc, .int .i64 D.lf, .int .i64 D.ve]
/-- as a value -/
abbrev blV (D : BlD) (ta : Option Addr) (tc : Nat) (la : Option Addr) (lc : Nat) (ka : Option Addr) (kc : Nat) : Value := .agg #[.slice ta D.T.length tc, .slice la D.L.length lc, .int .i64 D.sh, .bool D.re, .slice ka D.K.length kc, .int .i64 D.lf, .int .i64 D.ve]
/-- it lies there, to be read -/
structure Bl (w : World) (ta la ka : Option Addr) (D : BlD) : Prop where
  t : Ea w ta D.T
  l : Ta w la D.L
  k : Ta w ka D.K
theorem Bl.below {w w' : World} {ta la ka : Option Addr} {D : BlD} (h : Bl w ta la ka D) (hb : Below w.heap.size w w') : Bl w' ta la ka D := ⟨h.t.below hb, h.l.kept hb, h.k.kept hb⟩
/-- it can be read -/
structure okBl (D : BlD) : Prop where
  t : okE D.T
  l : D.L.length ≤ maxLen ∧ ∀ i, i < D.L.length → (tA D.L i).size ≤ maxLen
  k : D.K.length ≤ maxLen ∧ ∀ i, i < D.K.length → (tA D.K i).size ≤ maxLen
/-- it weighs no more than a law lets by -/
structure smB (D : BlD) : Prop where
  ok : okE D.T
  t : smK D.T
  e : ∀ i, i < D.T.length → (eA D.T i).k.size ≤ 1048576 ∧ (eA D.T i).S.length ≤ 1048576 ∧ ∀ j, j < (eA D.T i).S.length → (aA (eA D.T i).S j).i.size ≤ 1048576 ∧ (aA (eA D.T i).S j).b.size ≤ 1048576
  l : D.L.length ≤ 1048576
  lz : ∀ i, i < D.L.length → (tA D.L i).size ≤ 1048576
  k : D.K.length ≤ 1048576
  kz : ∀ i, i < D.K.length → (tA D.K i).size ≤ 1048576
/-- a row of texts of the call's own, in blocks of lb .. ls - 1 -/
def Si (lb ls : Nat) (w : World) (a : Option Addr) (n : Nat) (F : Nat → ByteArray) : Prop := n = 0 ∨ ∃ g, a = some ⟨g, 0, none⟩ ∧ Sw lb w g n F ∧ g < ls
theorem Sn.si {lb : Nat} {w : World} {a : Option Addr} {n : Nat} {F : Nat → ByteArray} (h : Sn lb w a n F) : Si lb w.heap.size w a n F := h.imp id fun ⟨g, e, h⟩ => ⟨g, e, h, h.lt⟩
theorem Si.sn {lb ls : Nat} {w : World} {a : Option Addr} {n : Nat} {F : Nat → ByteArray} (h : Si lb ls w a n F) : Sn lb w a n F := h.imp id fun ⟨g, e, h, _⟩ => ⟨g, e, h⟩
theorem Si.sa {lb ls : Nat} {w : World} {a : Option Addr} {n : Nat} {F : Nat → ByteArray} (h : Si lb ls w a n F) : Sa w a n F := h.sn.sa
theorem Si.mono {lb ls lb' ls' : Nat} {w : World} {a : Option Addr} {n : Nat} {F : Nat → ByteArray} (h : Si lb ls w a n F) (h1 : lb' ≤ lb) (h2 : ls ≤ ls') : Si lb' ls' w a n F := h.imp id fun ⟨g, e, h, q⟩ => ⟨g, e, ⟨by have := h.ge; omega, h.lt, h.c, h.fz⟩, by omega⟩
theorem Si.kq {lb ls : Nat} {w w' : World} {a : Option Addr} {n : Nat} {F : Nat → ByteArray} {P : Nat → Prop} (h : Si lb ls w a n F) (k : Kq P w w') (hP : ∀ q, P q → q < lb ∨ ls ≤ q) : Si lb ls w' a n F := by
  refine h.imp id fun ⟨g, e, h, q⟩ => ?_
  have eb := k.block g h.lt (fun p => by have := hP g p; have := h.ge; omega)
  exact ⟨g, e, ⟨h.ge, Nat.lt_of_lt_of_le h.lt k.size, fun i hi => (World.cell?_of_block (a := ⟨g, i, none⟩) eb).trans (h.c i hi), fun i hi => (World.frozen?_of_block (a := ⟨g, i, none⟩) eb).trans (h.fz i hi)⟩, q⟩
theorem Si.below {lb ls : Nat} {w w' : World} {a : Option Addr} {n : Nat} {F : Nat → ByteArray} (h : Si lb ls w a n F) (hb : Below w.heap.size w w') : Si lb ls w' a n F := h.kq (Kq.of hb (P := fun _ => False)) (fun q hq => hq.elim)
theorem Eo.tbq {base : Nat} {w w' : World} {g : Nat} {B : Nat → Nat} {L : List EnD} (h : Eo base w g B L) (hs : w.heap.size ≤ w'.heap.size) (e : ∀ k, Tb g B L k → k < w.heap.size → w'.heap[k]? = w.heap[k]?) : Eo base w' g B L := by
  have eg := e g (Or.inl rfl) h.lt
  refine ⟨h.ge, Nat.lt_of_lt_of_le h.lt hs, fun o => (World.frozen?_of_block (a := ⟨g, o, none⟩) eg).trans (h.fz o), fun i hi => ?_, h.ne⟩
  obtain ⟨ra, cap, h1, h3, h2⟩ := h.en i hi
  refine ⟨ra, cap, h1.move (fun j _ => World.cell?_of_block (a := ⟨g, i * 7 + j, none⟩) eg), h3, ?_⟩
  by_cases hS : (eA L i).S = []
  · exact Or.inl hS
  refine h2.imp id fun ⟨a, b, c⟩ => ⟨a, b, ?_⟩
  have eb := e (B i) (Or.inr ⟨i, hi, hS, rfl⟩) c.al.lt
  exact ⟨c.ge, c.al.move hs (fun j => World.cell?_of_block (a := ⟨B i, j, none⟩) eb), fun o => (World.frozen?_of_block (a := ⟨B i, o, none⟩) eb).trans (c.fz o)⟩
theorem Eg.apart {base s : Nat} {w w' : World} {a : Option Addr} {L : List EnD} {P : Nat → Prop} (h : Eg base s w a L) (k : Kq P w w') (hP : ∀ q, P q → q < base ∨ s ≤ q) : Eg base s w' a L :=
  h.imp id fun ⟨g, B, e, h, t⟩ => ⟨g, B, e, h.tbq k.size (fun q hq hl => k.block q hl (fun p => by have := hP q p; have := t q hq; omega)), t⟩
/-- table and texts of the call's own, no two in one block, all in blocks of base .. s - 1 -/
def Bw (base s : Nat) (w : World) (ta la ka : Option Addr) (T : List EnD) (n : Nat) (F : Nat → ByteArray) (m : Nat) (G : Nat → ByteArray) : Prop :=
  ∃ tb ts lb ls kb ks, (base ≤ tb ∧ tb ≤ ts ∧ ts ≤ s ∧ base ≤ lb ∧ lb ≤ ls ∧ ls ≤ s ∧ base ≤ kb ∧ kb ≤ ks ∧ ks ≤ s) ∧ ((ts ≤ lb ∨ ls ≤ tb) ∧ (ts ≤ kb ∨ ks ≤ tb) ∧ (ls ≤ kb ∨ ks ≤ lb)) ∧ Eg tb ts w ta T ∧ Si lb ls w la n F ∧ Si kb ks w ka m G
theorem Bw.kq {base s : Nat} {w w' : World} {ta la ka : Option Addr} {T : List EnD} {n m : Nat} {F G : Nat → ByteArray} {P : Nat → Prop} (h : Bw base s w ta la ka T n F m G) (k : Kq P w w') (hP : ∀ q, P q → q < base ∨ s ≤ q) : Bw base s w' ta la ka T n F m G := by
  obtain ⟨tb, ts, lb, ls, kb, ks, h1, h2, h3, h4, h5⟩ := h
  exact ⟨tb, ts, lb, ls, kb, ks, h1, h2, h3.apart k (fun q hq => by have := hP q hq; omega), h4.kq k (fun q hq => by have := hP q hq; omega), h5.kq k (fun q hq => by have := hP q hq; omega)⟩
theorem Bw.below {base s : Nat} {w w' : World} {ta la ka : Option Addr} {T : List EnD} {n m : Nat} {F G : Nat → ByteArray} (h : Bw base s w ta la ka T n F m G) (hb : Below w.heap.size w w') : Bw base s w' ta la ka T n F m G := h.kq (Kq.of hb (P := fun _ => False)) (fun q hq => hq.elim)
theorem Bw.mono {base s base' s' : Nat} {w : World} {ta la ka : Option Addr} {T : List EnD} {n m : Nat} {F G : Nat → ByteArray} (h : Bw base s w ta la ka T n F m G) (h1 : base' ≤ base) (h2 : s ≤ s') : Bw base' s' w ta la ka T n F m G := by
  obtain ⟨tb, ts, lb, ls, kb, ks, q1, q2, h3, h4, h5⟩ := h
  exact ⟨tb, ts, lb, ls, kb, ks, by omega, q2, h3, h4, h5⟩
/-- a balancer of the call's own -/
abbrev Bg (base s : Nat) (w : World) (ta la ka : Option Addr) (D : BlD) : Prop := Bw base s w ta la ka D.T D.L.length (tA D.L) D.K.length (tA D.K)
theorem Bg.bl {base s : Nat} {w : World} {ta la ka : Option Addr} {D : BlD} (h : Bg base s w ta la ka D) : Bl w ta la ka D := by
  obtain ⟨tb, ts, lb, ls, kb, ks, h1, h2, h3, h4, h5⟩ := h
  exact ⟨h3.ea, h4.sa, h5.sa⟩
set_option maxHeartbeats 2000000 in
theorem szBl (D : BlD) (ta la ka : Option Addr) (tc lc kc : Nat) (w : World) (ho : okBl D) (h : Bl w ta la ka D) :
    Calls Try.prog 6 #[blV D ta tc la lc ka kc, .int .i64 1048576] w fun e w' => (e = .returned (.int .i64 (-1)) ∨ (∃ r : Nat, e = .returned (.int .i64 r)) ∧ smB D) ∧ Below w.heap.size w w' := by
  have HZ := hide (fun W (b : Below w.heap.size w W) => szTb ta tc D.T W ho.t (h.t.below b))
  have HL := hide (fun l (hl : l ≤ 1048576) W (b : Below w.heap.size w W) => szS_any la D.L.length lc (tA D.L) l W hl ho.l.1 ho.l.2 (h.l.kept b))
  have HK := hide (fun l (hl : l ≤ 1048576) W (b : Below w.heap.size w W) => szS_any ka D.K.length kc (tA D.K) l W hl ho.k.1 ho.k.2 (h.k.kept b))
  have BX := Bx.new w (blC D ta tc la lc ka kc) 27
  have HX := hide BX
  by_cases hl : 1048576 < wtE D.T
  · rw [show lfR 1048576 (wtE D.T) = -1 from if_pos hl] at HZ
    clear h ho HL HK BX HX
    go_enter Try.func6, Try.ntmps6
    go_wp2_with fail
    refine (unhide HZ _ ((Below.refl _ _).alloc (Nat.le_refl _) _)).mono ?_
    rintro e w1 ⟨rfl, b1⟩
    go_wp2
    go_ret
    exact ⟨Or.inl rfl, ((Below.refl _ _).alloc (Nat.le_refl _) _).trans (b1.mono (by simp))⟩
  obtain ⟨hk, hsmall⟩ := wt_small D.T hl
  have HM : Hid (∀ r1 r2 : Nat, r1 ≤ 1048576 → r2 ≤ 1048576 → (D.L.length ≤ r1 ∧ ∀ i, i < D.L.length → (tA D.L i).size ≤ r1) → (D.K.length ≤ r2 ∧ ∀ i, i < D.K.length → (tA D.K i).size ≤ r2) → smB D) := fun r1 r2 g1 g2 q1 q2 => ⟨ho.t, hk, hsmall, by omega, fun i hi => Nat.le_trans (q1.2 i hi) g1, by omega, fun i hi => Nat.le_trans (q2.2 i hi) g2⟩
  obtain ⟨m, hm, hm2⟩ : ∃ m : Nat, lfR 1048576 (wtE D.T) = (m : Int) ∧ m ≤ 1048576 := ⟨1048576 - wtE D.T, by unfold lfR; rw [if_neg hl]; omega, by omega⟩
  rw [hm] at HZ
  have hm0 : ¬ (m : Int) < 0 := by omega
  clear h ho hk hsmall hl hm BX
  go_enter Try.func6, Try.ntmps6
  go_wp2_with fail
  refine (unhide HZ _ ((Below.refl _ _).alloc (Nat.le_refl _) _)).mono ?_
  rintro e w1 ⟨rfl, b1⟩
  have B1 : Hid (Below w.heap.size w w1) := ((Below.refl _ _).alloc (Nat.le_refl _) _).trans (b1.mono (by simp))
  have x1 := ((unhide HX).below b1).cv
  clear b1 HZ
  go_wp2_with fail
  refine (unhide HL _ hm2 _ (unhide B1)).mono ?_
  rintro e w2 ⟨he, h9⟩
  subst w2
  rcases he with rfl | ⟨r, rfl, hr, hq⟩
  · go_wp2
    go_ret
    exact ⟨Or.inl rfl, unhide B1⟩
  have hr0 : ¬ (r : Int) < 0 := by omega
  have HQ := hide hq
  clear hq
  go_wp2_with fail
  refine (unhide HK _ (by omega) _ (unhide B1)).mono ?_
  rintro e w2 ⟨he, h9⟩
  subst w2
  rcases he with rfl | ⟨r2, rfl, hr2, hq2⟩
  · go_wp2
    go_ret
    exact ⟨Or.inl rfl, unhide B1⟩
  have hr20 : ¬ (r2 : Int) < 0 := by omega
  have HS := hide (unhide HM _ _ hm2 (by omega) (unhide HQ) hq2)
  clear hq2
  go_wp2
  go_ret
  exact ⟨Or.inr ⟨⟨r2, rfl⟩, unhide HS⟩, unhide B1⟩
set_option maxHeartbeats 4000000 in
theorem toBl (D : BlD) (ta la ka : Option Addr) (tc lc kc : Nat) (w : World) (hs : smB D) (h : Bl w ta la ka D) :
    Calls Try.prog 8 #[blV D ta tc la lc ka kc] w fun e w' => ∃ g gl gk, e = .returned (blV D (some ⟨g, 0, none⟩) D.T.length (some ⟨gl, 0, none⟩) D.L.length (some ⟨gk, 0, none⟩) D.K.length) ∧ Bg w.heap.size w'.heap.size w' (some ⟨g, 0, none⟩) (some ⟨gl, 0, none⟩) (some ⟨gk, 0, none⟩) D ∧ Below w.heap.size w w' := by
  have HT := hide (fun W (b : Below w.heap.size w W) => toTb ta tc D.T W hs.t.1 hs.t.2.1 (h.t.below b))
  have HL := hide (fun W (b : Below w.heap.size w W) => toS_any la D.L.length lc (tA D.L) W hs.l (h.l.kept b))
  have HK := hide (fun W (b : Below w.heap.size w W) => toS_any ka D.K.length kc (tA D.K) W hs.k (h.k.kept b))
  clear h hs
  go_enter Try.func8, Try.ntmps8
  go_wp2_with fail
  refine (unhide HT _ ((((Below.refl w.heap.size w).alloc (Nat.le_refl _) _).alloc (by simp) _).alloc (by simp; omega) _)).mono ?_
  rintro e w1 ⟨g, B, rfl, hE, b1⟩
  have hE' : Eo (w.heap.size + 1 + 1 + 1) w1 g B D.T := by simpa using hE
  have E1 := hide (En.eg (Or.inr ⟨g, B, rfl, hE'⟩ : En (w.heap.size + 1 + 1 + 1) w1 (some ⟨g, 0, none⟩) D.T))
  have A1 : Bx w1 w.heap.size (blC D ta tc la lc ka kc) := (((Bx.new w _ _).alloc _).alloc _).below b1
  have R1 : Bx w1 (w.heap.size + 1) [.slice none 0 0, .slice none 0 0, .int .i64 0, .bool false, .slice none 0 0, .int .i64 0, .int .i64 0] := ((Bx.newAt (w.alloc _) _ _ _ (by simp)).alloc _).below b1
  have O1 : Bx w1 (w.heap.size + 1 + 1) [.slice none 0 0, .slice none 0 0, .int .i64 0, .bool false, .slice none 0 0, .int .i64 0, .int .i64 0] := (Bx.newAt ((w.alloc _).alloc _) _ _ _ (by simp)).below b1
  have B1 : Below w.heap.size w w1 := ((((Below.refl w.heap.size w).alloc (Nat.le_refl _) _).alloc (by simp) _).alloc (by simp; omega) _).trans (b1.mono (by simp; omega))
  have z1 : w.heap.size + 1 + 1 + 1 ≤ w1.heap.size := by have := b1.size; simpa using this
  obtain ⟨V1, hV1⟩ : ∃ V, V = w1.setCell ⟨w.heap.size + 1 + 1, 0, none⟩ (.slice (some ⟨g, 0, none⟩) D.T.length D.T.length) := ⟨_, rfl⟩
  have A2 : Bx V1 w.heap.size (blC D ta tc la lc ka kc) := by rw [hV1]; exact A1.other (by omega)
  have R2 : Bx V1 (w.heap.size + 1) [.slice none 0 0, .slice none 0 0, .int .i64 0, .bool false, .slice none 0 0, .int .i64 0, .int .i64 0] := by rw [hV1]; exact R1.other (by omega)
  have O2 : Bx V1 (w.heap.size + 1 + 1) [.slice (some ⟨g, 0, none⟩) D.T.length D.T.length, .slice none 0 0, .int .i64 0, .bool false, .slice none 0 0, .int .i64 0, .int .i64 0] := by rw [hV1]; exact O1.set (i := 0) (by simp)
  have B2 := hide (show Below w.heap.size w V1 by rw [hV1]; exact B1.setCell (by simp; omega) _)
  have K2 := hide (show Kq (fun q => q < w.heap.size + 1 + 1 + 1) w1 V1 by rw [hV1]; exact (Kq.refl _ _).set (by simp))
  have z2 := hide (show V1.heap.size = w1.heap.size by rw [hV1]; simp)
  have a1 := A1.cv
  have o1 := O1.cv
  have o2 := O1.fz
  have HV1 := hide hV1
  clear hE hE' b1 B1 hV1 A1 R1 O1
  have A2' := hide A2
  have R2' := hide R2
  have O2' := hide O2
  clear A2 R2 O2
  go_wp2_with fail
  rw [← unhide HV1]
  clear a1 o1 o2 HV1
  refine (unhide HL _ (unhide B2)).mono ?_
  rintro e w2 ⟨rfl, s2, y2, b2⟩
  have L2 := hide (Sn.si s2)
  have A3 := (unhide A2').below b2
  have R3 := (unhide R2').below b2
  have O3 := (unhide O2').below b2
  have B3 := (unhide B2).trans (b2.mono (unhide B2).size)
  have K3 := (unhide K2).trans (Kq.of b2)
  have z3 : V1.heap.size ≤ w2.heap.size := b2.size
  obtain ⟨V2, hV2⟩ : ∃ V, V = ((w2.setCell ⟨w.heap.size + 1 + 1, 1, none⟩ (.slice (some ⟨V1.heap.size, 0, none⟩) D.L.length D.L.length)).setCell ⟨w.heap.size + 1 + 1, 2, none⟩ (.int .i64 D.sh)).setCell ⟨w.heap.size + 1 + 1, 3, none⟩ (.bool D.re) := ⟨_, rfl⟩
  have A4 := hide (show Bx V2 w.heap.size (blC D ta tc la lc ka kc) by rw [hV2]; exact ((A3.other (by omega)).other (by omega)).other (by omega))
  have R4 := hide (show Bx V2 (w.heap.size + 1) [.slice none 0 0, .slice none 0 0, .int .i64 0, .bool false, .slice none 0 0, .int .i64 0, .int .i64 0] by rw [hV2]; exact ((R3.other (by omega)).other (by omega)).other (by omega))
  have O4 := hide (show Bx V2 (w.heap.size + 1 + 1) [.slice (some ⟨g, 0, none⟩) D.T.length D.T.length, .slice (some ⟨V1.heap.size, 0, none⟩) D.L.length D.L.length, .int .i64 D.sh, .bool D.re, .slice none 0 0, .int .i64 0, .int .i64 0] by rw [hV2]; exact ((O3.set (i := 1) (by simp)).set (i := 2) (by simp)).set (i := 3) (by simp))
  have B4 := hide (show Below w.heap.size w V2 by rw [hV2]; exact ((B3.setCell (by simp; omega) _).setCell (by simp; omega) _).setCell (by simp; omega) _)
  have K4 := hide (show Kq (fun q => q < w.heap.size + 1 + 1 + 1) w1 V2 by rw [hV2]; exact ((K3.set (by simp)).set (by simp)).set (by simp))
  have J4 := hide (show Kq (fun q => q < w.heap.size + 1 + 1 + 1) w2 V2 by rw [hV2]; exact (((Kq.refl _ _).set (by simp)).set (by simp)).set (by simp))
  have z4 := hide (show V2.heap.size = w2.heap.size by rw [hV2]; simp)
  have a1 := A3.cv
  have o1 := O3.cv
  have o2 := O3.fz
  have HV2 := hide hV2
  clear s2 b2 hV2 A3 R3 O3 B3 K3 A2' R2' O2' B2 K2
  go_wp2_with fail
  rw [← unhide HV2]
  clear a1 o1 o2 HV2
  refine (unhide HK _ (unhide B4)).mono ?_
  rintro e w3 ⟨rfl, s3, y3, b3⟩
  have L3 := hide (Sn.si s3)
  have z5 : V2.heap.size ≤ w3.heap.size := b3.size
  have a1 := ((unhide A4).below b3).cv
  have r1 := ((unhide R4).below b3).cv
  have r2 := ((unhide R4).below b3).fz
  have o1 := ((unhide O4).below b3).cv
  have o2 := ((unhide O4).below b3).fz
  have B5 := hide ((unhide B4).trans (b3.mono (unhide B4).size))
  have K5 := hide ((unhide K4).trans (Kq.of b3))
  have J5 := hide ((unhide J4).trans (Kq.of b3))
  have FIN : Hid (∀ W9, Kq (fun q => q < w.heap.size + 1 + 1 + 1) w3 W9 → Bg w.heap.size W9.heap.size W9 (some ⟨g, 0, none⟩) (some ⟨V1.heap.size, 0, none⟩) (some ⟨V2.heap.size, 0, none⟩) D) := fun W9 k => by
    have z2' := unhide z2
    have z4' := unhide z4
    have z9 := k.size
    exact ⟨w.heap.size + 1 + 1 + 1, w1.heap.size, V1.heap.size, w2.heap.size, V2.heap.size, w3.heap.size, by omega, by omega, (unhide E1).apart ((unhide K5).trans k) (fun q hq => Or.inl hq), (unhide L2).kq ((unhide J5).trans k) (fun q hq => Or.inl (by omega)), (unhide L3).kq k (fun q hq => Or.inl (by omega))⟩
  clear s3 b3 A4 R4 O4 B4 K4 J4 E1 L2 L3 K5 J5
  go_wp2
  refine bodyPost_ret (v := blV D (some ⟨g, 0, none⟩) D.T.length (some ⟨V1.heap.size, 0, none⟩) D.L.length (some ⟨V2.heap.size, 0, none⟩) D.K.length) (by simp [results, Try.results8, go_sem, r1]) rfl ⟨g, V1.heap.size, V2.heap.size, rfl, ?_, ?_⟩
  · refine unhide FIN _ ?_
    iterate 10 refine Kq.set ?_ (by simp <;> omega)
    exact Kq.refl _ _
  · iterate 10 refine Below.setCell ?_ (by simp <;> omega) _
    exact unhide B5
set_option maxHeartbeats 2000000 in
theorem eqBl (D : BlD) (ta la ka : Option Addr) (tc lc kc : Nat) (ta' la' ka' : Option Addr) (tc' lc' kc' : Nat) (w : World) (ht : smK D.T) (hl : D.L.length ≤ 1048576) (hk : D.K.length ≤ 1048576) (h : Bl w ta la ka D) (h' : Bl w ta' la' ka' D) :
    Calls Try.prog 10 #[blV D ta tc la lc ka kc, blV D ta' tc' la' lc' ka' kc'] w fun e w' => e = .returned (.bool true) ∧ Below w.heap.size w w' := by
  have H0 := hide (fun W (b : Below w.heap.size w W) => eqTb ta ta' tc tc' D.T W ht.1 ht.2.1 (h.t.below b) (h'.t.below b))
  have H1 := hide (fun W (b : Below w.heap.size w W) => eqS_same la la' D.L.length lc lc' (tA D.L) W hl (h.l.kept b) (h'.l.kept b))
  have H2 := hide (fun W (b : Below w.heap.size w W) => eqS_same ka ka' D.K.length kc kc' (tA D.K) W hk (h.k.kept b) (h'.k.kept b))
  have HX : Hid (Bx ((w.alloc (.cells (blC D ta tc la lc ka kc).toArray 35)).alloc (.cells (blC D ta' tc' la' lc' ka' kc').toArray 35)) w.heap.size (blC D ta tc la lc ka kc)) := (Bx.new w _ _).alloc _
  have HY : Hid (Bx ((w.alloc (.cells (blC D ta tc la lc ka kc).toArray 35)).alloc (.cells (blC D ta' tc' la' lc' ka' kc').toArray 35)) (w.heap.size + 1) (blC D ta' tc' la' lc' ka' kc')) := Bx.newAt _ _ _ _ (by simp)
  clear h h' ht hl hk
  go_enter Try.func10, Try.ntmps10
  go_wp2_with fail
  refine (unhide H0 _ (((Below.refl w.heap.size w).alloc (Nat.le_refl _) _).alloc (by simp) _)).mono ?_
  rintro e w1 ⟨rfl, b1⟩
  have B1 := hide ((((Below.refl w.heap.size w).alloc (Nat.le_refl _) _).alloc (by simp) _).trans (b1.mono (by simp; omega)))
  have X1 := hide ((unhide HX).below b1)
  have Y1 := hide ((unhide HY).below b1)
  have x1 := (unhide X1).cv
  have y1 := (unhide Y1).cv
  clear b1 HX HY
  go_wp2_with fail
  refine (unhide H1 _ (unhide B1)).mono ?_
  rintro e w2 ⟨rfl, b2⟩
  have B2 := hide ((unhide B1).trans (b2.mono (unhide B1).size))
  have X2 := hide ((unhide X1).below b2)
  have Y2 := hide ((unhide Y1).below b2)
  have x2 := (unhide X2).cv
  have y2 := (unhide Y2).cv
  clear b2 X1 Y1 x1 y1 B1
  go_wp2_with fail
  refine (unhide H2 _ (unhide B2)).mono ?_
  rintro e w3 ⟨rfl, b3⟩
  have B3 := hide ((unhide B2).trans (b3.mono (unhide B2).size))
  have x3 := ((unhide X2).below b3).cv
  have y3 := ((unhide Y2).below b3).cv
  clear b3 X2 Y2 x2 y2 B2
  go_wp2
  go_ret
  exact ⟨rfl, unhide B3⟩
end Go.Proofs.Ytbabipaipbjlbaa
