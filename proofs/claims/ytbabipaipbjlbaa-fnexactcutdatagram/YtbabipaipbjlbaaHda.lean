/-
  Contract: the program's header, whatever stands there.
-/
import Derived.Test.YtbabipaipbjlbaaHdr
namespace Go.Proofs.Ytbabipaipbjlbaa
open Go.ChangeShapes Go.WideShapes Go.ChangeAt Go.RowKit
set_option linter.unusedVariables false
set_option maxRecDepth 100000

/-- a header that was read: its fields, and where it ends -/
structure HR where
  f : Int
  bi : Int
  ve : Int
  d : ByteArray
  e : ByteArray
  t : ByteArray
  y : ByteArray
  m : Nat
  V : Nat → Int
  q : Nat
/-- versions end the text: how many -/
abbrev vD (s : ByteArray) (p : Nat) : Prop := 1 ≤ (s.size - p) / 4 ∧ (s.size - p) / 4 ≤ 20 ∧ s.size = p + 4 * ((s.size - p) / 4)
theorem vG_iff {s : ByteArray} {p : Nat} : vG s p ↔ vD s p := by
  constructor
  · rintro ⟨m, h1, h2, h3⟩
    have e : (s.size - p) / 4 = m := by omega
    exact ⟨by omega, by omega, by omega⟩
  · rintro ⟨h1, h2, h3⟩
    exact ⟨_, h1, h2, h3⟩
/-- the word behind the first byte -/
def w4 (s : ByteArray) : Int := big 0 (s.extract 1 5).data.toList
/-- what a header's bytes tell -/
def hdR (s : ByteArray) (short : Nat) : Option HR :=
  if s.size = 0 then none
  else if at8 s 0 / 64 % 2 = 0 then none
  else if at8 s 0 < 128 then
    (if at8 s 0 < 80 ∧ 1 + short ≤ s.size ∧ s.size - (1 + short) ≤ 1200 then some ⟨5, at8 s 0 % 16, 0, s.extract 1 (1 + short), sE, sE, s.extract (1 + short) s.size, 0, fun _ => 0, s.size⟩ else none)
  else if s.size < 5 then none
  else if ¬ ((idT s 5 0).c = 0 ∧ (idT s (idT s 5 0).p 0).c = 0) then none
  else if w4 s = 0 then
    (if at8 s 0 < 208 ∧ vD s (idT s (idT s 5 0).p 0).p then some ⟨4, at8 s 0 % 16, 0, (idT s 5 0).t, (idT s (idT s 5 0).p 0).t, sE, sE, (s.size - (idT s (idT s 5 0).p 0).p) / 4, wdA s (idT s (idT s 5 0).p 0).p, s.size⟩ else none)
  else if at8 s 0 / 16 % 4 = 0 then
    (if ((textT s (idT s (idT s 5 0).p 0).p 0).c = 0 ∧ (textT s (idT s (idT s 5 0).p 0).p 0).t.size ≤ 200) ∧ ((textT s (textT s (idT s (idT s 5 0).p 0).p 0).p 0).c = 0 ∧ 1 ≤ (textT s (textT s (idT s (idT s 5 0).p 0).p 0).p 0).t.size ∧ (textT s (textT s (idT s (idT s 5 0).p 0).p 0).p 0).t.size ≤ 1200)
      then some ⟨0, at8 s 0 % 16, w4 s, (idT s 5 0).t, (idT s (idT s 5 0).p 0).t, (textT s (idT s (idT s 5 0).p 0).p 0).t, (textT s (textT s (idT s (idT s 5 0).p 0).p 0).p 0).t, 0, fun _ => 0, (textT s (textT s (idT s (idT s 5 0).p 0).p 0).p 0).p⟩ else none)
  else if at8 s 0 / 16 % 4 = 3 then
    (if 1 ≤ s.size - (idT s (idT s 5 0).p 0).p ∧ s.size - (idT s (idT s 5 0).p 0).p ≤ 1200 then some ⟨3, at8 s 0 % 16, w4 s, (idT s 5 0).t, (idT s (idT s 5 0).p 0).t, sE, s.extract (idT s (idT s 5 0).p 0).p s.size, 0, fun _ => 0, s.size⟩ else none)
  else
    (if (textT s (idT s (idT s 5 0).p 0).p 0).c = 0 ∧ 1 ≤ (textT s (idT s (idT s 5 0).p 0).p 0).t.size ∧ (textT s (idT s (idT s 5 0).p 0).p 0).t.size ≤ 1200 then some ⟨at8 s 0 / 16 % 4, at8 s 0 % 16, w4 s, (idT s 5 0).t, (idT s (idT s 5 0).p 0).t, sE, (textT s (idT s (idT s 5 0).p 0).p 0).t, 0, fun _ => 0, (textT s (idT s (idT s 5 0).p 0).p 0).p⟩ else none)

/-- what 'header' leaves -/
def HQ (cb : Nat) (w : World) (s : ByteArray) (told : Int) (r : Option HR) (e : Ending) (w' : World) : Prop :=
  match r with
  | some x => ∃ ra rc, e = .returned (hv x.f x.bi x.ve x.d x.e x.t x.y ra x.m rc) ∧ Oi w.heap.size w' (.slice ra x.m rc) x.m x.V ∧ Cc w' cb s x.q told ∧ Kx cb w w'
  | none => Bad cb w e w'
theorem Oi.mono {base base' : Nat} {w : World} {v : Value} {n : Nat} {V : Nat → Int} (h : Oi base' w v n V) (hb : base ≤ base') : Oi base w v n V := by
  refine ⟨h.1, ?_⟩
  rcases h.2 with h1 | ⟨g, cap, cur, h1, hg, rest⟩
  · exact Or.inl h1
  · exact Or.inr ⟨g, cap, cur, h1, Nat.le_trans hb hg, rest⟩
theorem header_any (cb short : Nat) (s : ByteArray) (told : Int) (w : World) (hs : s.size ≤ 1048576) (hsh : short ≤ 20) (h : Cc w cb s 0 told) :
    Calls Try.prog 41 #[.pointer (some ⟨cb, 0, none⟩), .int .i64 short] w (HQ cb w s told (hdR s short)) := by
  have b8 := at8_in s 0
  unfold hdR
  by_cases h0 : s.size = 0
  · rw [if_pos h0]; exact header_none cb short s told w h0 h
  rw [if_neg h0]
  by_cases h1 : at8 s 0 / 64 % 2 = 0
  · rw [if_pos h1]; exact header_kind cb short s told w hs (by omega) h1 h
  rw [if_neg h1]
  by_cases h2 : at8 s 0 < 128
  · rw [if_pos h2]
    by_cases h3 : at8 s 0 < 80
    · by_cases h4 : 1 + short ≤ s.size ∧ s.size - (1 + short) ≤ 1200
      · rw [if_pos ⟨h3, h4⟩]
        refine (header5_ok cb short s told w hs hsh (by omega) ⟨by omega, h3⟩ (s.extract 1 (1 + short)) sE sE (s.extract (1 + short) s.size) none 0 0 s.size (fun _ => True) (fun _ _ _ _ => trivial) ?_ h).mono ?_
        · intro hb W hne _ _ hC hH
          refine (parts5_ok cb hb 1 short s told W _ _ _ _ _ _ _ _ hs (by omega) hne hsh h4.1 ⟨by omega, h4.2⟩ hC hH).mono ?_
          rintro e w' ⟨a1, a2, a3, a4⟩
          exact ⟨a1, a2, a3, trivial, a4⟩
        · rintro e w' ⟨a1, a2, _, a4⟩
          exact ⟨none, 0, a1, Oi.nil _ _ _, a2, a4⟩
      · rw [if_neg (fun z => h4 z.2)]
        refine header5_bad cb short s told w hs hsh (by omega) ⟨by omega, h3⟩ ?_ h
        intro hb W hne _ _ hC hH
        by_cases h5 : 1 + short ≤ s.size
        · exact parts5_b1 cb hb 1 short s told W _ _ _ _ _ _ _ _ hs (by omega) hne hsh h5 (fun z => h4 ⟨h5, z.2⟩) hC hH
        · exact parts5_b0 cb hb 1 short s told W _ _ _ _ _ _ _ _ hs (by omega) hne hsh h5 hC hH
    · rw [if_neg (fun z => h3 z.1)]
      exact header5_mark cb short s told w hs hsh (by omega) ⟨by omega, h2, by omega⟩ h
  rw [if_neg h2]
  have hl : 192 ≤ at8 s 0 := by omega
  by_cases h5 : s.size < 5
  · rw [if_pos h5]; exact header_cut cb short s told w hs (by omega) hl h5 h
  rw [if_neg h5]
  generalize hx : idT s 5 0 = x
  generalize hy : idT s x.p 0 = y
  by_cases h6 : x.c = 0 ∧ y.c = 0
  case neg =>
    rw [if_pos h6]
    by_cases h7 : w4 s = 0
    · by_cases h8 : at8 s 0 < 208
      · refine header4_bad cb short s told w hs hsh (by omega) (by omega) h7 ⟨hl, h8⟩ ?_ h
        intro hb W hne _ _ hC hH
        exact parts4_b0 cb hb 5 short s told W _ _ _ _ _ _ _ _ x y hx hy hs (by omega) hne hsh h6 hC hH
      · exact header4_mark cb short s told w hs hsh (by omega) (by omega) h7 ⟨hl, by omega⟩ h
    · have hV : (w4 s == 0) = false := by simpa using h7
      rcases (by omega : at8 s 0 / 16 % 4 = 0 ∨ at8 s 0 / 16 % 4 = 1 ∨ at8 s 0 / 16 % 4 = 2 ∨ at8 s 0 / 16 % 4 = 3) with h9 | h9 | h9 | h9
      · refine header0_bad cb short s told w hs hsh (by omega) (w4 s) hV (by omega) rfl ⟨hl, h9⟩ ?_ h
        intro hb W hne _ _ hC hH
        exact parts0_b0 cb hb 5 short s told W _ _ _ _ _ _ _ _ x y _ _ hx hy rfl rfl hs (by omega) hne hsh h6 hC hH
      · refine header1_bad cb short s told w hs hsh (by omega) (w4 s) hV (by omega) rfl ⟨hl, h9⟩ ?_ h
        intro hb W hne _ _ hC hH
        exact parts1_b0 cb hb 5 short s told W _ _ _ _ _ _ _ _ x y _ hx hy rfl hs (by omega) hne hsh h6 hC hH
      · refine header2_bad cb short s told w hs hsh (by omega) (w4 s) hV (by omega) rfl ⟨hl, h9⟩ ?_ h
        intro hb W hne _ _ hC hH
        exact parts2_b0 cb hb 5 short s told W _ _ _ _ _ _ _ _ x y _ hx hy rfl hs (by omega) hne hsh h6 hC hH
      · refine header3_bad cb short s told w hs hsh (by omega) (w4 s) hV (by omega) rfl ⟨hl, h9⟩ ?_ h
        intro hb W hne _ _ hC hH
        exact parts3_b0 cb hb 5 short s told W _ _ _ _ _ _ _ _ x y hx hy hs (by omega) hne hsh h6 hC hH
  rw [if_neg (fun z => z h6)]
  by_cases h7 : w4 s = 0
  · rw [if_pos h7]
    by_cases h8 : at8 s 0 < 208
    · by_cases h9 : vG s y.p
      · rw [if_pos ⟨h8, vG_iff.1 h9⟩]
        refine (header4_ok cb short s told w hs hsh (by omega) (by omega) h7 ⟨hl, h8⟩ x.t y.t sE sE s.size (fun ra rn rc W => s.size = y.p + 4 * rn ∧ Oi (w.heap.size + 1) W (.slice ra rn rc) rn (wdA s y.p)) (fun ra rn rc W i u hX => ⟨hX.1, hX.2.other (by omega)⟩) ?_ h).mono ?_
        · intro hb W hne _ hW hC hH
          refine (parts4_ok cb hb 5 short s told W _ _ _ _ _ _ _ _ x y hx hy hs (by omega) hne hsh h6 h9 hC hH).mono ?_
          rintro e w' ⟨m, v, b, m1, m2, m3, hb', a1, a2, a3, a4, a5⟩
          obtain ⟨ra, rc, rfl⟩ := a4.opens
          exact ⟨ra, m, rc, a1, a2, a3, ⟨m3, a4.mono (by omega)⟩, a5⟩
        · rintro e w' ⟨ra, rn, rc, a1, a2, ⟨a3, a4⟩, a5⟩
          have e1 : (s.size - y.p) / 4 = rn := by omega
          refine ⟨ra, rc, ?_, ?_, a2, a5⟩
          · rw [a1]; show _ = Ending.returned (hv 4 _ _ _ _ _ _ ra ((s.size - y.p) / 4) rc); rw [e1]
          · show Oi _ _ (.slice ra ((s.size - y.p) / 4) rc) ((s.size - y.p) / 4) _; rw [e1]; exact a4.mono (by omega)
      · rw [if_neg (fun z => h9 (vG_iff.2 z.2))]
        refine header4_bad cb short s told w hs hsh (by omega) (by omega) h7 ⟨hl, h8⟩ ?_ h
        intro hb W hne _ _ hC hH
        exact parts4_b1 cb hb 5 short s told W _ _ _ _ _ _ _ _ x y hx hy hs (by omega) hne hsh h6 h9 hC hH
    · rw [if_neg (fun z => h8 z.1)]
      exact header4_mark cb short s told w hs hsh (by omega) (by omega) h7 ⟨hl, by omega⟩ h
  rw [if_neg h7]
  have hV : (w4 s == 0) = false := by simpa using h7
  by_cases k0 : at8 s 0 / 16 % 4 = 0
  · rw [if_pos k0]
    generalize ht : textT s y.p 0 = t
    generalize hz : textT s t.p 0 = z
    by_cases g1 : t.c = 0 ∧ t.t.size ≤ 200
    · by_cases g2 : z.c = 0 ∧ 1 ≤ z.t.size ∧ z.t.size ≤ 1200
      · rw [if_pos ⟨g1, g2⟩]
        refine (header0_ok cb short s told w hs hsh (by omega) (w4 s) hV (by omega) rfl ⟨hl, k0⟩ x.t y.t t.t z.t none 0 0 z.p (fun _ => True) (fun _ _ _ _ => trivial) ?_ h).mono ?_
        · intro hb W hne _ _ hC hH
          refine (parts0_ok cb hb 5 short s told W _ _ _ _ _ _ _ _ x y t z hx hy ht hz hs (by omega) hne hsh h6 g1 g2 hC hH).mono ?_
          rintro e w' ⟨a1, a2, a3, a4⟩
          exact ⟨a1, a2, a3, trivial, a4⟩
        · rintro e w' ⟨a1, a2, _, a4⟩
          exact ⟨none, 0, a1, Oi.nil _ _ _, a2, a4⟩
      · rw [if_neg (fun z => g2 z.2)]
        refine header0_bad cb short s told w hs hsh (by omega) (w4 s) hV (by omega) rfl ⟨hl, k0⟩ ?_ h
        intro hb W hne _ _ hC hH
        exact parts0_b2 cb hb 5 short s told W _ _ _ _ _ _ _ _ x y t z hx hy ht hz hs (by omega) hne hsh h6 g1 g2 hC hH
    · rw [if_neg (fun z => g1 z.1)]
      refine header0_bad cb short s told w hs hsh (by omega) (w4 s) hV (by omega) rfl ⟨hl, k0⟩ ?_ h
      intro hb W hne _ _ hC hH
      exact parts0_b1 cb hb 5 short s told W _ _ _ _ _ _ _ _ x y t z hx hy ht hz hs (by omega) hne hsh h6 g1 hC hH
  rw [if_neg k0]
  by_cases k3 : at8 s 0 / 16 % 4 = 3
  · rw [if_pos k3]
    by_cases g1 : 1 ≤ s.size - y.p ∧ s.size - y.p ≤ 1200
    · rw [if_pos g1]
      refine (header3_ok cb short s told w hs hsh (by omega) (w4 s) hV (by omega) rfl ⟨hl, k3⟩ x.t y.t sE (s.extract y.p s.size) none 0 0 s.size (fun _ => True) (fun _ _ _ _ => trivial) ?_ h).mono ?_
      · intro hb W hne _ _ hC hH
        refine (parts3_ok cb hb 5 short s told W _ _ _ _ _ _ _ _ x y hx hy hs (by omega) hne hsh h6 g1 hC hH).mono ?_
        rintro e w' ⟨a1, a2, a3, a4⟩
        exact ⟨a1, a2, a3, trivial, a4⟩
      · rintro e w' ⟨a1, a2, _, a4⟩
        exact ⟨none, 0, a1, Oi.nil _ _ _, a2, a4⟩
    · rw [if_neg g1]
      refine header3_bad cb short s told w hs hsh (by omega) (w4 s) hV (by omega) rfl ⟨hl, k3⟩ ?_ h
      intro hb W hne _ _ hC hH
      exact parts3_b1 cb hb 5 short s told W _ _ _ _ _ _ _ _ x y hx hy hs (by omega) hne hsh h6 g1 hC hH
  rw [if_neg k3]
  generalize hz : textT s y.p 0 = z
  rcases (by omega : at8 s 0 / 16 % 4 = 1 ∨ at8 s 0 / 16 % 4 = 2) with k1 | k1
  · by_cases g1 : z.c = 0 ∧ 1 ≤ z.t.size ∧ z.t.size ≤ 1200
    · rw [if_pos g1, k1]
      refine (header1_ok cb short s told w hs hsh (by omega) (w4 s) hV (by omega) rfl ⟨hl, k1⟩ x.t y.t sE z.t none 0 0 z.p (fun _ => True) (fun _ _ _ _ => trivial) ?_ h).mono ?_
      · intro hb W hne _ _ hC hH
        refine (parts1_ok cb hb 5 short s told W _ _ _ _ _ _ _ _ x y z hx hy hz hs (by omega) hne hsh h6 g1 hC hH).mono ?_
        rintro e w' ⟨a1, a2, a3, a4⟩
        exact ⟨a1, a2, a3, trivial, a4⟩
      · rintro e w' ⟨a1, a2, _, a4⟩
        exact ⟨none, 0, a1, Oi.nil _ _ _, a2, a4⟩
    · rw [if_neg g1]
      refine header1_bad cb short s told w hs hsh (by omega) (w4 s) hV (by omega) rfl ⟨hl, k1⟩ ?_ h
      intro hb W hne _ _ hC hH
      exact parts1_b1 cb hb 5 short s told W _ _ _ _ _ _ _ _ x y z hx hy hz hs (by omega) hne hsh h6 g1 hC hH
  · by_cases g1 : z.c = 0 ∧ 1 ≤ z.t.size ∧ z.t.size ≤ 1200
    · rw [if_pos g1, k1]
      refine (header2_ok cb short s told w hs hsh (by omega) (w4 s) hV (by omega) rfl ⟨hl, k1⟩ x.t y.t sE z.t none 0 0 z.p (fun _ => True) (fun _ _ _ _ => trivial) ?_ h).mono ?_
      · intro hb W hne _ _ hC hH
        refine (parts2_ok cb hb 5 short s told W _ _ _ _ _ _ _ _ x y z hx hy hz hs (by omega) hne hsh h6 g1 hC hH).mono ?_
        rintro e w' ⟨a1, a2, a3, a4⟩
        exact ⟨a1, a2, a3, trivial, a4⟩
      · rintro e w' ⟨a1, a2, _, a4⟩
        exact ⟨none, 0, a1, Oi.nil _ _ _, a2, a4⟩
    · rw [if_neg g1]
      refine header2_bad cb short s told w hs hsh (by omega) (w4 s) hV (by omega) rfl ⟨hl, k1⟩ ?_ h
      intro hb W hne _ _ hC hH
      exact parts2_b1 cb hb 5 short s told W _ _ _ _ _ _ _ _ x y z hx hy hz hs (by omega) hne hsh h6 g1 hC hH
end Go.Proofs.Ytbabipaipbjlbaa
