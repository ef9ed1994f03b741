/-
  Tables in memory: allocs and entries as data, their rows; the laws' own copies of them, how they are held against each other, and how they are counted.
-/
import Derived.Test.YtbabipaipbjlbaaBaseX
namespace Go.Proofs.Ytbabipaipbjlbaa
open Go.ChangeShapes Go.WideShapes Go.ChangeAt Go.RowKit
set_option linter.unusedVariables false
set_option maxRecDepth 100000

/-- an alloc -/
structure AlD where
  i : ByteArray
  b : ByteArray
/-- an entry -/
structure EnD where
  sl : Int
  sv : Int
  nc : Int
  k : ByteArray
  t : Bool
  S : List AlD
  nx : Int
def aD : AlD := ⟨⟨#[]⟩, ⟨#[]⟩⟩
def eD : EnD := ⟨0, 0, 0, ⟨#[]⟩, false, [], 0⟩
def aA (L : List AlD) (k : Nat) : AlD := L.getD k aD
def eA (L : List EnD) (k : Nat) : EnD := L.getD k eD
/-- an alloc as a value -/
abbrev av (D : AlD) : Value := .agg #[.string D.i, .string D.b]
/-- an entry as a value -/
abbrev ev (D : EnD) (ra : Option Addr) (cap : Nat) : Value := .agg #[.int .i64 D.sl, .int .i64 D.sv, .int .i64 D.nc, .string D.k, .bool D.t, .slice ra D.S.length cap, .int .i64 D.nx]

/-- allocs that lie in a row, to be read -/
structure Al (w : World) (b o : Nat) (L : List AlD) : Prop where
  lt : b < w.heap.size
  ci : ∀ k, k < L.length → w.cell? ⟨b, o + k * 2, none⟩ = some (.string (aA L k).i)
  cb : ∀ k, k < L.length → w.cell? ⟨b, o + k * 2 + 1, none⟩ = some (.string (aA L k).b)
theorem Al.move {w w' : World} {b o : Nat} {L : List AlD} (h : Al w b o L) (hs : w.heap.size ≤ w'.heap.size) (e : ∀ j, w'.cell? ⟨b, j, none⟩ = w.cell? ⟨b, j, none⟩) : Al w' b o L :=
  ⟨Nat.lt_of_lt_of_le h.lt hs, fun k hk => (e _).trans (h.ci k hk), fun k hk => (e _).trans (h.cb k hk)⟩
theorem Al.below {w w' : World} {b o : Nat} {L : List AlD} (h : Al w b o L) (hb : Below w.heap.size w w') : Al w' b o L :=
  h.move hb.size fun j => hb.cell (p := ⟨b, j, none⟩) h.lt
/-- a slice of allocs to be read -/
def Aa (w : World) (a : Option Addr) (L : List AlD) : Prop := L = [] ∨ ∃ b o, a = some ⟨b, o, none⟩ ∧ Al w b o L
theorem Aa.below {w w' : World} {a : Option Addr} {L : List AlD} (h : Aa w a L) (hb : Below w.heap.size w w') : Aa w' a L := by
  rcases h with h | ⟨b, o, e, h⟩
  · exact Or.inl h
  · exact Or.inr ⟨b, o, e, h.below hb⟩
/-- the seven cells of an entry -/
structure Ce (w : World) (b o : Nat) (D : EnD) (r : Value) : Prop where
  c0 : w.cell? ⟨b, o, none⟩ = some (.int .i64 D.sl)
  c1 : w.cell? ⟨b, o + 1, none⟩ = some (.int .i64 D.sv)
  c2 : w.cell? ⟨b, o + 2, none⟩ = some (.int .i64 D.nc)
  c3 : w.cell? ⟨b, o + 3, none⟩ = some (.string D.k)
  c4 : w.cell? ⟨b, o + 4, none⟩ = some (.bool D.t)
  c5 : w.cell? ⟨b, o + 5, none⟩ = some r
  c6 : w.cell? ⟨b, o + 6, none⟩ = some (.int .i64 D.nx)
theorem Ce.lt {w : World} {b o : Nat} {D : EnD} {r : Value} (h : Ce w b o D r) : b < w.heap.size := World.block_lt_of_cell? w _ h.c0
theorem Ce.move {w w' : World} {b o : Nat} {D : EnD} {r : Value} (h : Ce w b o D r) (e : ∀ j, j < 7 → w'.cell? ⟨b, o + j, none⟩ = w.cell? ⟨b, o + j, none⟩) : Ce w' b o D r :=
  ⟨(e 0 (by omega)).trans h.c0, (e 1 (by omega)).trans h.c1, (e 2 (by omega)).trans h.c2, (e 3 (by omega)).trans h.c3, (e 4 (by omega)).trans h.c4, (e 5 (by omega)).trans h.c5, (e 6 (by omega)).trans h.c6⟩
theorem Ce.below {w w' : World} {b o : Nat} {D : EnD} {r : Value} (h : Ce w b o D r) (hb : Below w.heap.size w w') : Ce w' b o D r :=
  h.move fun j _ => hb.cell (p := ⟨b, o + j, none⟩) h.lt
/-- a slice of entries to be read -/
def Ea (w : World) (a : Option Addr) (L : List EnD) : Prop :=
  L = [] ∨ ∃ b o, a = some ⟨b, o, none⟩ ∧ ∀ i, i < L.length → ∃ ra cap, Ce w b (o + i * 7) (eA L i) (.slice ra (eA L i).S.length cap) ∧ (eA L i).S.length ≤ cap ∧ Aa w ra (eA L i).S
theorem Ea.below {w w' : World} {a : Option Addr} {L : List EnD} (h : Ea w a L) (hb : Below w.heap.size w w') : Ea w' a L := by
  rcases h with h | ⟨b, o, e, h⟩
  · exact Or.inl h
  · refine Or.inr ⟨b, o, e, fun i hi => ?_⟩
    obtain ⟨ra, cap, h1, h3, h2⟩ := h i hi
    exact ⟨ra, cap, h1.below hb, h3, h2.below hb⟩

/-! ### counted -/
/-- what the first k allocs weigh -/
def sumA (L : List AlD) : Nat → Nat
  | 0 => 0
  | k + 1 => sumA L k + ((aA L k).i.size + (aA L k).b.size)
theorem sumA_mono (L : List AlD) {i j : Nat} (h : i ≤ j) : sumA L i ≤ sumA L j := by
  induction h with
  | refl => exact Nat.le_refl _
  | step _ ih => exact Nat.le_trans ih (Nat.le_add_right _ _)
/-- what a slice of allocs weighs -/
def wtA (L : List AlD) : Nat := L.length + sumA L L.length
/-- what is left of l where n is taken -/
def lfR (l n : Nat) : Int := if l < n then -1 else (l : Int) - (n : Int)
set_option maxHeartbeats 1000000 in
theorem szAl (D : AlD) (l : Nat) (w : World) (hl : l ≤ 1048576) (hi : D.i.size ≤ maxLen) (hb : D.b.size ≤ maxLen) :
    Calls Try.prog 112 #[av D, .int .i64 l] w fun e w' => e = .returned (.int .i64 (lfR l (D.i.size + D.b.size))) ∧ Below w.heap.size w w' := by
  unfold maxLen at hi hb
  unfold lfR
  by_cases h0 : (l : Int) < D.i.size
  · rw [if_pos (by omega)]
    go_enter Try.func112, Try.ntmps112
    go_wp2
    go_ret
    exact ⟨rfl, (Below.refl _ _).alloc (Nat.le_refl _) _⟩
  by_cases h1 : (l : Int) - D.i.size < D.b.size
  · rw [if_pos (by omega)]
    go_enter Try.func112, Try.ntmps112
    go_wp2
    go_ret
    exact ⟨rfl, (Below.refl _ _).alloc (Nat.le_refl _) _⟩
  · rw [if_neg (by omega)]
    go_enter Try.func112, Try.ntmps112
    go_wp2
    go_ret
    exact ⟨by go_num, (Below.refl _ _).alloc (Nat.le_refl _) _⟩
set_option maxHeartbeats 1000000 in
theorem szAls (a : Option Addr) (cap : Nat) (L : List AlD) (l : Nat) (w : World) (hl : l ≤ 1048576) (hN : L.length ≤ 9223372036854775807) (hG : ∀ i, i < L.length → (aA L i).i.size ≤ maxLen ∧ (aA L i).b.size ≤ maxLen) (h : Aa w a L) :
    Calls Try.prog 100 #[.slice a L.length cap, .int .i64 l] w fun e w' => e = .returned (.int .i64 (lfR l (wtA L))) ∧ Below w.heap.size w w' := by
  have HR := hide h
  have HN := hide hG
  clear h hG
  by_cases hbig : l < L.length
  · rw [show lfR l (wtA L) = -1 from if_pos (by unfold wtA; omega)]
    go_enter Try.func100, Try.ntmps100
    go_wp2
    go_ret
    exact ⟨rfl, Below.refl _ _⟩
  go_enter Try.func100, Try.ntmps100
  go_wp2
  go_loopw [1, 5] (fun lv i wr => ∃ k m : Nat, k ≤ L.length ∧ i = .int .i64 k ∧ lv = .int .i64 m ∧ m + (L.length + sumA L k) = l ∧ Below w.heap.size w wr) (fun _ i _ => L.length - (intOf i).toNat)
  case atStart => exact ⟨0, l - L.length, Nat.zero_le _, rfl, by go_num, by simp [sumA]; omega, Below.refl _ _⟩
  case round =>
    obtain ⟨k, m, hk, rfl, rfl, hle, hbel⟩ := hrel
    by_cases hlt : k < L.length
    · rcases (unhide HR).below hbel with h0 | ⟨b, off, rfl, hel⟩
      · rw [h0] at hlt; exact absurd hlt (Nat.not_lt_zero _)
      have c0 := hel.ci k hlt
      have c1 := hel.cb k hlt
      clear hel
      obtain ⟨hi, hb⟩ := unhide HN k hlt
      have HZ := hide (fun w' => szAl (aA L k) m w' (by omega) hi hb)
      have hstep : sumA L (k + 1) = sumA L k + ((aA L k).i.size + (aA L k).b.size) := rfl
      have hmono := sumA_mono L (show k + 1 ≤ L.length from hlt)
      clear hi hb
      unfold lfR at HZ
      by_cases hb : m < (aA L k).i.size + (aA L k).b.size
      · rw [if_pos hb] at HZ
        have HE : Hid (lfR l (wtA L) = -1) := if_pos (by unfold wtA; omega)
        clear hb hstep hmono hle
        go_wp2_with (go_at_call 112; refine (unhide HZ _).mono ?_; rintro e w2 ⟨rfl, hb2⟩)
        go_ret
        exact ⟨by rw [unhide HE]; rfl, hbel.trans (hb2.mono hbel.size)⟩
      · rw [if_neg hb] at HZ
        obtain ⟨m2, hm2⟩ : ∃ m2 : Nat, m2 = m - ((aA L k).i.size + (aA L k).b.size) := ⟨_, rfl⟩
        rw [show (m : Int) - (((aA L k).i.size + (aA L k).b.size : Nat) : Int) = (m2 : Int) by omega] at HZ
        have hle2 : Hid (m2 + (L.length + sumA L (k + 1)) = l) := by show _ = _; omega
        have hm0 : 0 ≤ (m2 : Int) := by omega
        clear hb hstep hmono hle hm2
        go_wp2_with (go_at_call 112; refine (unhide HZ _).mono ?_; rintro e w2 ⟨rfl, hb2⟩)
        exact ⟨⟨k + 1, m2, by omega, by go_num, rfl, unhide hle2, hbel.trans (hb2.mono hbel.size)⟩, by simp [intOf]; omega⟩
    · obtain rfl : k = L.length := by omega
      have HE : Hid (lfR l (wtA L) = m) := by
        show _ = _
        unfold lfR wtA
        rw [if_neg (by omega)]
        omega
      clear hle
      go_wp2
      go_ret
      exact ⟨by rw [unhide HE]; rfl, hbel⟩
/-- what the first k entries weigh -/
def sumE (L : List EnD) : Nat → Nat
  | 0 => 0
  | k + 1 => sumE L k + ((eA L k).k.size + wtA (eA L k).S)
theorem sumE_mono (L : List EnD) {i j : Nat} (h : i ≤ j) : sumE L i ≤ sumE L j := by
  induction h with
  | refl => exact Nat.le_refl _
  | step _ ih => exact Nat.le_trans ih (Nat.le_add_right _ _)
/-- what a slice of entries weighs -/
def wtE (L : List EnD) : Nat := L.length + sumE L L.length
/-- every text and every row is one that can be read -/
def okE (L : List EnD) : Prop := L.length ≤ maxLen ∧ ∀ i, i < L.length → (eA L i).k.size ≤ maxLen ∧ (eA L i).S.length ≤ maxLen ∧ ∀ j, j < (eA L i).S.length → (aA (eA L i).S j).i.size ≤ maxLen ∧ (aA (eA L i).S j).b.size ≤ maxLen
theorem szCf (sl sv nc : Int) (k : ByteArray) (t : Bool) (l : Nat) (hl : l ≤ 1048576) (hk : k.size ≤ maxLen) (w : World) :
    Calls Try.prog 99 #[kv sl sv nc k t, .int .i64 l] w fun e w' => e = .returned (.int .i64 (lfR l k.size)) ∧ Below w.heap.size w w' := by
  unfold maxLen at hk
  unfold lfR
  by_cases h : (l : Int) < k.size
  · rw [if_pos (by omega)]
    go_enter Try.func99, Try.ntmps99
    go_wp2
    go_ret
    exact ⟨rfl, (Below.refl _ _).alloc (Nat.le_refl _) _⟩
  · rw [if_neg (by omega)]
    go_enter Try.func99, Try.ntmps99
    go_wp2
    go_ret
    exact ⟨rfl, (Below.refl _ _).alloc (Nat.le_refl _) _⟩
set_option maxHeartbeats 1000000 in
theorem szEn (D : EnD) (ra : Option Addr) (cap l : Nat) (w : World) (hl : l ≤ 1048576) (hk : D.k.size ≤ maxLen) (hN : D.S.length ≤ maxLen) (hG : ∀ j, j < D.S.length → (aA D.S j).i.size ≤ maxLen ∧ (aA D.S j).b.size ≤ maxLen) (h : Aa w ra D.S) :
    Calls Try.prog 78 #[ev D ra cap, .int .i64 l] w fun e w' => e = .returned (.int .i64 (lfR l (D.k.size + wtA D.S))) ∧ Below w.heap.size w w' := by
  have HC := hide (szCf D.sl D.sv D.nc D.k D.t l hl hk)
  have HA := hide (fun (m : Nat) (hm : m ≤ 1048576) W (b : Below w.heap.size w W) => szAls ra cap D.S m W hm (by unfold maxLen at hN; omega) hG (h.below b))
  clear h hG hN hk
  unfold lfR at HC HA
  by_cases h0 : l < D.k.size
  · rw [show lfR l (D.k.size + wtA D.S) = -1 from if_pos (by omega)]
    rw [if_pos h0] at HC
    go_enter Try.func78, Try.ntmps78
    go_wp2_with fail
    refine (unhide HC _).mono ?_
    rintro e w1 ⟨rfl, b1⟩
    go_wp2
    go_ret
    exact ⟨rfl, ((Below.refl _ _).alloc (Nat.le_refl _) _).trans (b1.mono (by simp))⟩
  rw [if_neg h0] at HC
  obtain ⟨m, hm⟩ : ∃ m : Nat, m = l - D.k.size := ⟨_, rfl⟩
  rw [show (l : Int) - (D.k.size : Int) = (m : Int) by omega] at HC
  have hm0 : 0 ≤ (m : Int) := by omega
  have HA2 := hide (unhide HA m (by omega))
  have hE : Hid (lfR l (D.k.size + wtA D.S) = lfR m (wtA D.S)) := by
    show _ = _
    unfold lfR
    by_cases h1 : m < wtA D.S
    · rw [if_pos h1, if_pos (by omega)]
    · rw [if_neg h1, if_neg (by omega)]; omega
  rw [unhide hE]
  clear hm HA h0 hE
  unfold lfR
  by_cases h1 : m < wtA D.S
  · rw [if_pos h1] at HA2 ⊢
    go_enter Try.func78, Try.ntmps78
    go_wp2_with fail
    refine (unhide HC _).mono ?_
    rintro e w1 ⟨rfl, b1⟩
    have B1 := hide (((Below.refl w.heap.size w).alloc (Nat.le_refl _) (.cells #[.int .i64 D.sl, .int .i64 D.sv, .int .i64 D.nc, .string D.k, .bool D.t, .slice ra D.S.length cap, .int .i64 D.nx] 122)).trans (b1.mono (by simp)))
    obtain ⟨hc, hf⟩ := bcell b1
    have p1 : ∀ o, w1.cell? ⟨w.heap.size, o, none⟩ = _ := fun o => hc w.heap.size o (by simp)
    clear hc hf b1
    go_wp2_with fail
    refine (unhide HA2 _ (unhide B1)).mono ?_
    rintro e w2 ⟨rfl, b2⟩
    go_wp2
    go_ret
    exact ⟨rfl, (unhide B1).trans (b2.mono (unhide B1).size)⟩
  · rw [if_neg h1] at HA2 ⊢
    obtain ⟨m2, hm2⟩ : ∃ m2 : Nat, m2 = m - wtA D.S := ⟨_, rfl⟩
    rw [show (m : Int) - (wtA D.S : Int) = (m2 : Int) by omega] at HA2 ⊢
    have hm1 : 0 ≤ (m2 : Int) := by omega
    clear hm2
    go_enter Try.func78, Try.ntmps78
    go_wp2_with fail
    refine (unhide HC _).mono ?_
    rintro e w1 ⟨rfl, b1⟩
    have B1 := hide (((Below.refl w.heap.size w).alloc (Nat.le_refl _) (.cells #[.int .i64 D.sl, .int .i64 D.sv, .int .i64 D.nc, .string D.k, .bool D.t, .slice ra D.S.length cap, .int .i64 D.nx] 122)).trans (b1.mono (by simp)))
    obtain ⟨hc, hf⟩ := bcell b1
    have p1 : ∀ o, w1.cell? ⟨w.heap.size, o, none⟩ = _ := fun o => hc w.heap.size o (by simp)
    clear hc hf b1
    go_wp2_with fail
    refine (unhide HA2 _ (unhide B1)).mono ?_
    rintro e w2 ⟨rfl, b2⟩
    go_wp2
    go_ret
    exact ⟨rfl, (unhide B1).trans (b2.mono (unhide B1).size)⟩
set_option maxHeartbeats 1000000 in
theorem szEns (a : Option Addr) (cap : Nat) (L : List EnD) (l : Nat) (w : World) (hl : l ≤ 1048576) (hG : okE L) (h : Ea w a L) :
    Calls Try.prog 55 #[.slice a L.length cap, .int .i64 l] w fun e w' => e = .returned (.int .i64 (lfR l (wtE L))) ∧ Below w.heap.size w w' := by
  have HR := hide h
  have HN := hide hG.2
  have hN := hG.1
  unfold maxLen at hN
  clear h hG
  by_cases hbig : l < L.length
  · rw [show lfR l (wtE L) = -1 from if_pos (by unfold wtE; omega)]
    go_enter Try.func55, Try.ntmps55
    go_wp2
    go_ret
    exact ⟨rfl, Below.refl _ _⟩
  go_enter Try.func55, Try.ntmps55
  go_wp2
  go_loopw [1, 5] (fun lv i wr => ∃ k m : Nat, k ≤ L.length ∧ i = .int .i64 k ∧ lv = .int .i64 m ∧ m + (L.length + sumE L k) = l ∧ Below w.heap.size w wr) (fun _ i _ => L.length - (intOf i).toNat)
  case atStart => exact ⟨0, l - L.length, Nat.zero_le _, rfl, by go_num, by simp [sumE]; omega, Below.refl _ _⟩
  case round =>
    obtain ⟨k, m, hk, rfl, rfl, hle, hbel⟩ := hrel
    by_cases hlt : k < L.length
    · rcases (unhide HR).below hbel with h0 | ⟨b, off, rfl, hel⟩
      · rw [h0] at hlt; exact absurd hlt (Nat.not_lt_zero _)
      obtain ⟨ra, cp, hc, hcp, hra⟩ := hel k hlt
      obtain ⟨g1, g2, g3⟩ := unhide HN k hlt
      have HZ := hide (szEn (eA L k) ra cp m wr (by omega) g1 g2 g3 hra)
      have hstep : sumE L (k + 1) = sumE L k + ((eA L k).k.size + wtA (eA L k).S) := rfl
      have hmono := sumE_mono L (show k + 1 ≤ L.length from hlt)
      clear g1 g2 g3 hra hel
      obtain ⟨c0, c1, c2, c3, c4, c5, c6⟩ := hc
      unfold lfR at HZ
      by_cases hb : m < (eA L k).k.size + wtA (eA L k).S
      · rw [if_pos hb] at HZ
        have HE : Hid (lfR l (wtE L) = -1) := if_pos (by unfold wtE; omega)
        clear hb hstep hmono hle
        go_wp2_with (go_at_call 78; refine (unhide HZ).mono ?_; rintro e w2 ⟨rfl, hb2⟩)
        go_ret
        exact ⟨by rw [unhide HE]; rfl, hbel.trans (hb2.mono hbel.size)⟩
      · rw [if_neg hb] at HZ
        obtain ⟨m2, hm2⟩ : ∃ m2 : Nat, m2 = m - ((eA L k).k.size + wtA (eA L k).S) := ⟨_, rfl⟩
        rw [show (m : Int) - (((eA L k).k.size + wtA (eA L k).S : Nat) : Int) = (m2 : Int) by omega] at HZ
        have hle2 : Hid (m2 + (L.length + sumE L (k + 1)) = l) := by show _ = _; omega
        have hm0 : 0 ≤ (m2 : Int) := by omega
        clear hb hstep hmono hle hm2
        go_wp2_with (go_at_call 78; refine (unhide HZ).mono ?_; rintro e w2 ⟨rfl, hb2⟩)
        exact ⟨⟨k + 1, m2, by omega, by go_num, rfl, unhide hle2, hbel.trans (hb2.mono hbel.size)⟩, by simp [intOf]; omega⟩
    · obtain rfl : k = L.length := by omega
      have HE : Hid (lfR l (wtE L) = m) := by
        show _ = _
        unfold lfR wtE
        rw [if_neg (by omega)]
        omega
      clear hle
      go_wp2
      go_ret
      exact ⟨by rw [unhide HE]; rfl, hbel⟩
set_option maxHeartbeats 1000000 in
theorem szTb (a : Option Addr) (cap : Nat) (L : List EnD) (w : World) (hG : okE L) (h : Ea w a L) :
    Calls Try.prog 24 #[.agg #[.slice a L.length cap], .int .i64 1048576] w fun e w' => e = .returned (.int .i64 (lfR 1048576 (wtE L))) ∧ Below w.heap.size w w' := by
  have H := hide (fun W (b : Below w.heap.size w W) => szEns a cap L 1048576 W (Nat.le_refl _) hG (h.below b))
  clear h hG
  unfold lfR at H ⊢
  by_cases h1 : 1048576 < wtE L
  · rw [if_pos h1] at H ⊢
    go_enter Try.func24, Try.ntmps24
    go_wp2_with fail
    refine (unhide H _ ((Below.refl _ _).alloc (Nat.le_refl _) _)).mono ?_
    rintro e w1 ⟨rfl, b1⟩
    go_wp2
    go_ret
    exact ⟨rfl, ((Below.refl _ _).alloc (Nat.le_refl _) _).trans (b1.mono (by simp))⟩
  · rw [if_neg h1] at H ⊢
    obtain ⟨m, hm⟩ : ∃ m : Nat, m = 1048576 - wtE L := ⟨_, rfl⟩
    rw [show ((1048576 : Nat) : Int) - (wtE L : Int) = (m : Int) by omega] at H ⊢
    have hm0 : 0 ≤ (m : Int) := by omega
    clear hm
    go_enter Try.func24, Try.ntmps24
    go_wp2_with fail
    refine (unhide H _ ((Below.refl _ _).alloc (Nat.le_refl _) _)).mono ?_
    rintro e w1 ⟨rfl, b1⟩
    go_wp2
    go_ret
    exact ⟨rfl, ((Below.refl _ _).alloc (Nat.le_refl _) _).trans (b1.mono (by simp))⟩
end Go.Proofs.Ytbabipaipbjlbaa
