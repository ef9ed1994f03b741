/-
  Contracts: what comes of a stream, of the model: whether it is good, where it ends, whether a piece clashes.
-/
import Derived.Test.YtmicpknilhiliaaStq
import Derived.Test.YtmicpknilhiliaaInb
import Derived.Deep.RegionLaw
import Derived.Deep.RegionHeld3
import Derived.Laws.Cover1
namespace Go.Proofs.Ytmicpknilhiliaa.Rc
open Go.ChangeShapes Go.WideShapes Go.ChangeAt Go.RowKit Go.Deep
set_option linter.unusedVariables false
set_option maxRecDepth 100000

theorem sz_nil (s : ByteArray) : s.toList = [] ↔ s.size = 0 := by
  have h : s.toList.length = s.size := by rw [Lib.toList_data, Array.length_toList]; rfl
  constructor
  · intro e; rw [e] at h; simpa using h.symm
  · intro e; rw [e] at h; exact List.length_eq_zero_iff.1 h
theorem em_no {s : ByteArray} (h : ¬ s.toList = []) : s.toList.isEmpty = false := by
  cases e : s.toList with
  | nil => exact absurd e h
  | cons a l => rfl
/-- numbers and texts that don't run over -/
def okP (P : List PieceD) : Prop := ∀ p ∈ P, (-4611686018427387904 ≤ p.f0 ∧ p.f0 ≤ 4611686018427387904) ∧ p.f1.size ≤ 1099511627776
def okN (n : Int) : Prop := -4611686018427387904 ≤ n ∧ n ≤ 4611686018427387904
def okF (D : InflowD) : Prop := okN D.li ∧ okN D.re ∧ okN D.fi ∧ okP D.P ∧ D.P.length ≤ 1048576
theorem dropP {P : List PieceD} {k : Nat} (h : k < P.length) : P.drop k = gt pieceK P k :: P.drop (k + 1) := by rw [gt_of pieceK P k h]; exact List.drop_eq_getElem_cons h
def niB (n : Int) : Bool := decide (0 ≤ n) && decide (n ≤ 4000)
def niD (n : Int) : Bool → InflowD
  | true => ⟨n, 0, -1, []⟩
  | false => infZ
set_option maxHeartbeats 2000000 in
theorem specNI (n : Int) (w : World) : Calls Try.prog 18 #[.int .i64 n] w fun e w' => e = .returned (.tuple #[inflowV (niD n (niB n)) none 0, .bool (niB n)]) ∧ Below w.heap.size w w' := by
  have HI := hide (inB n 0 4000)
  have HB : Hid (niB n = (decide (0 ≤ n) && decide (n ≤ 4000))) := rfl
  have B0 := hide ((Below.refl w.heap.size w).alloc (Nat.le_refl _) (.cells #[.int .i64 0, .int .i64 0, .int .i64 0, .slice none 0 0] 39))
  generalize (decide (0 ≤ n) && decide (n ≤ 4000)) = r at *
  rw [unhide HB]
  clear HB
  cases r with
  | false =>
    go_enter Try.func18, Try.ntmps18
    go_wp2_with fail
    refine (unhide HI _).mono ?_
    rintro e w1 ⟨rfl, h9⟩
    rw [h9]
    clear h9 w1
    go_wp2
    refine bodyPost_ret (v := .tuple #[.agg #[.int .i64 0, .int .i64 0, .int .i64 0, .slice none 0 0], .bool false]) (by simp [results, Try.results18, go_sem]) rfl ⟨rfl, ?_⟩
    repeat (refine Below.setCell ?_ (by simp) _)
    exact (Below.refl w.heap.size w).alloc (Nat.le_refl _) _
  | true =>
    go_enter Try.func18, Try.ntmps18
    go_wp2_with fail
    refine (unhide HI _).mono ?_
    rintro e w1 ⟨rfl, h9⟩
    rw [h9]
    clear h9 w1
    go_wp2
    refine bodyPost_ret (v := .tuple #[.agg #[.int .i64 n, .int .i64 0, .int .i64 (-1), .slice none 0 0], .bool true]) (by simp [results, Try.results18, go_sem]) rfl ⟨rfl, ?_⟩
    repeat (refine Below.setCell ?_ (by simp) _)
    exact (Below.refl w.heap.size w).alloc (Nat.le_refl _) _
set_option maxHeartbeats 8000000 in
theorem specGI (D : InflowD) (a : Option Addr) (c : Nat) (W : World) (ok : okF D) (h : Rd pieceK W a D.P) :
    Calls Try.prog 27 #[inflowV D a c] W fun e w' => e = .returned (.bool (giB D)) ∧ Below W.heap.size W w' := by
  obtain ⟨V0, hV0⟩ : ∃ V, V = W.alloc (.cells (inflowC D a c).toArray 39) := ⟨_, rfl⟩
  have A0 := hide (show Bx V0 W.heap.size (inflowC D a c) by rw [hV0]; exact Bx.new W _ _)
  have B0 := hide (show Below W.heap.size W V0 by rw [hV0]; exact (Below.refl W.heap.size W).alloc (Nat.le_refl _) _)
  have HR := hide (fun V (b : Below W.heap.size W V) => h.below b)
  have HV0 := hide hV0
  obtain ⟨⟨l0, l1⟩, ⟨r0, r1⟩, ⟨f0, f1⟩, okp, hn⟩ := ok
  have HOK := hide okp
  have I1 := hide (inB D.li 0 4000)
  have I2 := hide (inB D.re 0 D.li)
  have I3 := hide (inB D.fi D.re D.li)
  have HE : Hid (giB D = ((decide (0 ≤ D.li) && decide (D.li ≤ 4000)) && ((decide (0 ≤ D.re) && decide (D.re ≤ D.li)) && ((decide (D.fi = -1) || (decide (D.re ≤ D.fi) && decide (D.fi ≤ D.li))) && (decide (D.P.length ≤ 40) && grI D.li D.fi D.re D.P))))) := rfl
  have a0 := (unhide A0).cv
  have a0l := (unhide A0).lt
  clear hV0 h okp
  generalize (decide (0 ≤ D.li) && decide (D.li ≤ 4000)) = b1 at *
  generalize (decide (0 ≤ D.re) && decide (D.re ≤ D.li)) = b2 at *
  generalize (decide (D.re ≤ D.fi) && decide (D.fi ≤ D.li)) = b3 at *
  obtain ⟨g, hg⟩ : ∃ g, giB D = g := ⟨_, rfl⟩
  rw [hg] at HE ⊢
  clear hg
  obtain ⟨li, re, fi, P⟩ := D
  dsimp only at *
  cases b1 with
  | false =>
    have hg : g = false := by rw [unhide HE]; rfl
    rw [hg]
    clear hg HE
    go_enter Try.func27, Try.ntmps27
    go_upto_region 1 with fail
    rw [← unhide HV0]
    clear HV0
    go_wp2_with (first | (go_at_call 19; (with_reducible refine (unhide I1 _).mono ?_); rintro e w9 ⟨rfl, h9⟩; rw [h9]; clear h9 w9) | (go_at_call 19; (with_reducible refine (unhide I2 _).mono ?_); rintro e w9 ⟨rfl, h9⟩; rw [h9]; clear h9 w9) | (go_at_call 19; (with_reducible refine (unhide I3 _).mono ?_); rintro e w9 ⟨rfl, h9⟩; rw [h9]; clear h9 w9))
    go_ret
    exact ⟨rfl, unhide B0⟩
  | true =>
  cases b2 with
  | false =>
    have hg : g = false := by rw [unhide HE]; rfl
    rw [hg]
    clear hg HE
    go_enter Try.func27, Try.ntmps27
    go_upto_region 1 with fail
    rw [← unhide HV0]
    clear HV0
    go_wp2_with (first | (go_at_call 19; (with_reducible refine (unhide I1 _).mono ?_); rintro e w9 ⟨rfl, h9⟩; rw [h9]; clear h9 w9) | (go_at_call 19; (with_reducible refine (unhide I2 _).mono ?_); rintro e w9 ⟨rfl, h9⟩; rw [h9]; clear h9 w9) | (go_at_call 19; (with_reducible refine (unhide I3 _).mono ?_); rintro e w9 ⟨rfl, h9⟩; rw [h9]; clear h9 w9))
    go_ret
    exact ⟨rfl, unhide B0⟩
  | true =>
  by_cases hf : fi = -1
  · have tf : (fi != (-1 : Int)) = false := by simp [hf]
    have HF := hide hf
    have HE2 : Hid (g = (decide (P.length ≤ 40) && grI li fi re P)) := by show _ = _; rw [unhide HE]; simp [hf]
    clear hf HE
    have HE := HE2
    clear HE2
    by_cases h40 : P.length ≤ 40
    · have t40 : ¬ (40 : Int) < (P.length : Int) := by omega
      have HG : Hid (g = grI li fi re P) := by show _ = _; rw [unhide HE]; simp [h40]
      clear HE
      go_enter Try.func27, Try.ntmps27
      go_upto_region 1 with fail
      rw [← unhide HV0]
      clear HV0
      go_upto_region 5 with (first | (go_at_call 19; (with_reducible refine (unhide I1 _).mono ?_); rintro e w9 ⟨rfl, h9⟩; rw [h9]; clear h9 w9) | (go_at_call 19; (with_reducible refine (unhide I2 _).mono ?_); rintro e w9 ⟨rfl, h9⟩; rw [h9]; clear h9 w9) | (go_at_call 19; (with_reducible refine (unhide I3 _).mono ?_); rintro e w9 ⟨rfl, h9⟩; rw [h9]; clear h9 w9))
      go_wp2_with fail
      go_loopw [3, 46] (fun v3 iv wr => ∃ (k : Nat) (lo : Int), k ≤ P.length ∧ v3 = .int .i64 (lo - 1) ∧ iv = .int .i64 k ∧ (k = 0 → lo = re) ∧ (-4611686018427387904 ≤ lo ∧ lo ≤ 4611687117939015681) ∧ Hid (g = grI li fi lo (P.drop k)) ∧ Hid (Bx wr W.heap.size (inflowC ⟨li, re, fi, P⟩ a c)) ∧ Hid (Below W.heap.size W wr)) (fun _ iv _ => P.length - (intOf iv).toNat)
      case atStart => exact ⟨0, re, Nat.zero_le _, rfl, rfl, fun _ => rfl, by omega, HG, A0, B0⟩
      case round =>
        obtain ⟨k, lo, hk, rfl, rfl, hk0, ⟨lo0, lo1⟩, hg, hX, hB⟩ := hrel
        clear HG A0 B0 a0 a0l
        by_cases hlt : k < P.length
        · rcases unhide HR wr (unhide hB) with h9 | ⟨b, o, rfl, _, hel⟩
          · rw [h9] at hlt; exact absurd hlt (Nat.not_lt_zero _)
          have c0 := piece_r0 hel hlt
          have c1 := piece_r1 hel hlt
          have hok := unhide HOK _ (gt_mem pieceK P k hlt)
          have HD : Hid (g = (decide (0 < (gt pieceK P k).f1.size) && (decide (lo ≤ (gt pieceK P k).f0) && (decide (pE (gt pieceK P k) ≤ li) && ((decide (fi = -1) || decide (pE (gt pieceK P k) ≤ fi)) && grI li fi (pE (gt pieceK P k) + 1) (P.drop (k + 1))))))) := by show _ = _; rw [unhide hg, dropP hlt]; rfl
          generalize gt pieceK P k = x at *
          obtain ⟨⟨x0, x1⟩, x2⟩ := hok
          have hpE : pE x = x.f0 + x.f1.size := rfl
          obtain ⟨z, hz⟩ : ∃ z, z = x.f1.size := ⟨_, rfl⟩
          have hnk : (k : Int) < (P.length : Int) := by omega
          have hk0' : (0 : Int) ≤ (k : Int) := by omega
          have sl := (unhide hX).lt
          obtain ⟨W1, hW1⟩ : ∃ V, V = wr.alloc (.cells #[.int .i64 x.f0, .string x.f1] 53) := ⟨_, rfl⟩
          have al1 : Below wr.heap.size wr W1 := by rw [hW1]; exact (Below.refl _ _).alloc (Nat.le_refl _) _
          have X1 := hide ((unhide hX).below al1)
          have Y1 := hide (show Bx W1 wr.heap.size (pieceC x) by rw [hW1]; exact Bx.new wr _ _)
          have B1 := hide ((unhide hB).trans (al1.mono (unhide hB).size))
          have x1c := (unhide X1).cv
          have x1l := (unhide X1).lt
          have y1c := (unhide Y1).cv
          have y1l := (unhide Y1).lt
          have HW1 := hide hW1
          clear hel al1 hX hB hg hW1
          go_upto_region 7 with fail
          rw [← unhide HW1]
          clear HW1 c0 c1
          by_cases hs : x.f1.size = 0
          · have he : x.f1.toList = [] := (sz_nil _).2 hs
            have hg : Hid (g = false) := by show _ = _; rw [unhide HD]; simp [hs]
            clear HD
            go_wp2
            go_ret
            exact ⟨(congrArg (fun b => Ending.returned (Value.bool b)) (unhide hg)).symm, unhide B1⟩
          · have he : ¬ x.f1.toList = [] := fun h => hs ((sz_nil _).1 h)
            have he2 := em_no he
            by_cases hl : lo ≤ x.f0
            · have hl1 : decide (x.f0 ≤ lo - 1) = false := decide_eq_false (by omega)
              have hw : IntKind.i64.wrap (x.f0 + (x.f1.size : Int)) = x.f0 + (x.f1.size : Int) := by rw [IntKind.wrap_i64]; omega
              by_cases h3 : pE x ≤ li
              · have h3' : decide (li < x.f0 + (x.f1.size : Int)) = false := decide_eq_false (by omega)
                have GG : Hid (g = grI li fi (pE x + 1) (P.drop (k + 1))) := by show _ = _; rw [unhide HD, decide_eq_true (show 0 < x.f1.size by omega), decide_eq_true hl, decide_eq_true h3, decide_eq_true (unhide HF)]; simp
                go_wp2
                exact ⟨⟨k + 1, pE x + 1, by omega, by rw [hpE]; congr 1; omega, by go_num, fun h => by omega, by omega, GG, X1, B1⟩, by simp [intOf]; omega⟩
              · have h3' : decide (li < x.f0 + (x.f1.size : Int)) = true := decide_eq_true (by omega)
                have hg : Hid (g = false) := by show _ = _; rw [unhide HD]; simp [h3]
                clear HD
                go_wp2
                go_ret
                exact ⟨(congrArg (fun b => Ending.returned (Value.bool b)) (unhide hg)).symm, unhide B1⟩
            · have hl1 : decide (x.f0 ≤ lo - 1) = true := decide_eq_true (by omega)
              by_cases hk1 : k = 0
              · have hl2 : decide (x.f0 < re) = true := decide_eq_true (by have := hk0 hk1; omega)
                have hkz : decide ((0 : Int) < (k : Int)) = false := decide_eq_false (by omega)
                have hg : Hid (g = false) := by show _ = _; rw [unhide HD]; simp [hl]
                clear HD
                go_wp2
                go_ret
                exact ⟨(congrArg (fun b => Ending.returned (Value.bool b)) (unhide hg)).symm, unhide B1⟩
              · have hkz : decide ((0 : Int) < (k : Int)) = true := decide_eq_true (by omega)
                have hg : Hid (g = false) := by show _ = _; rw [unhide HD]; simp [hl]
                clear HD
                go_wp2
                go_ret
                exact ⟨(congrArg (fun b => Ending.returned (Value.bool b)) (unhide hg)).symm, unhide B1⟩
        · obtain rfl : k = P.length := by omega
          have hg' : Hid (g = true) := by show _ = _; rw [unhide hg, List.drop_length]; rfl
          clear hg
          go_wp2
          go_ret
          exact ⟨(congrArg (fun b => Ending.returned (Value.bool b)) (unhide hg')).symm, unhide hB⟩
    · have t40 : (40 : Int) < (P.length : Int) := by omega
      have hg : g = false := by rw [unhide HE]; simp [h40]
      rw [hg]
      clear hg HE
      go_enter Try.func27, Try.ntmps27
      go_upto_region 1 with fail
      rw [← unhide HV0]
      clear HV0
      go_wp2_with (first | (go_at_call 19; (with_reducible refine (unhide I1 _).mono ?_); rintro e w9 ⟨rfl, h9⟩; rw [h9]; clear h9 w9) | (go_at_call 19; (with_reducible refine (unhide I2 _).mono ?_); rintro e w9 ⟨rfl, h9⟩; rw [h9]; clear h9 w9) | (go_at_call 19; (with_reducible refine (unhide I3 _).mono ?_); rintro e w9 ⟨rfl, h9⟩; rw [h9]; clear h9 w9))
      go_ret
      exact ⟨rfl, unhide B0⟩
  · have tf : (fi != (-1 : Int)) = true := by simp [hf]
    cases b3 with
    | false =>
      have hg : g = false := by rw [unhide HE]; simp [hf]
      rw [hg]
      clear hg HE
      go_enter Try.func27, Try.ntmps27
      go_upto_region 1 with fail
      rw [← unhide HV0]
      clear HV0
      go_wp2_with (first | (go_at_call 19; (with_reducible refine (unhide I1 _).mono ?_); rintro e w9 ⟨rfl, h9⟩; rw [h9]; clear h9 w9) | (go_at_call 19; (with_reducible refine (unhide I2 _).mono ?_); rintro e w9 ⟨rfl, h9⟩; rw [h9]; clear h9 w9) | (go_at_call 19; (with_reducible refine (unhide I3 _).mono ?_); rintro e w9 ⟨rfl, h9⟩; rw [h9]; clear h9 w9))
      go_ret
      exact ⟨rfl, unhide B0⟩
    | true =>
    by_cases h40 : P.length ≤ 40
    · have t40 : ¬ (40 : Int) < (P.length : Int) := by omega
      have HG : Hid (g = grI li fi re P) := by show _ = _; rw [unhide HE]; simp [h40]
      clear HE
      go_enter Try.func27, Try.ntmps27
      go_upto_region 1 with fail
      rw [← unhide HV0]
      clear HV0
      go_upto_region 5 with (first | (go_at_call 19; (with_reducible refine (unhide I1 _).mono ?_); rintro e w9 ⟨rfl, h9⟩; rw [h9]; clear h9 w9) | (go_at_call 19; (with_reducible refine (unhide I2 _).mono ?_); rintro e w9 ⟨rfl, h9⟩; rw [h9]; clear h9 w9) | (go_at_call 19; (with_reducible refine (unhide I3 _).mono ?_); rintro e w9 ⟨rfl, h9⟩; rw [h9]; clear h9 w9))
      go_wp2_with fail
      go_loopw [3, 46] (fun v3 iv wr => ∃ (k : Nat) (lo : Int), k ≤ P.length ∧ v3 = .int .i64 (lo - 1) ∧ iv = .int .i64 k ∧ (k = 0 → lo = re) ∧ (-4611686018427387904 ≤ lo ∧ lo ≤ 4611687117939015681) ∧ Hid (g = grI li fi lo (P.drop k)) ∧ Hid (Bx wr W.heap.size (inflowC ⟨li, re, fi, P⟩ a c)) ∧ Hid (Below W.heap.size W wr)) (fun _ iv _ => P.length - (intOf iv).toNat)
      case atStart => exact ⟨0, re, Nat.zero_le _, rfl, rfl, fun _ => rfl, by omega, HG, A0, B0⟩
      case round =>
        obtain ⟨k, lo, hk, rfl, rfl, hk0, ⟨lo0, lo1⟩, hg, hX, hB⟩ := hrel
        clear HG A0 B0 a0 a0l
        by_cases hlt : k < P.length
        · rcases unhide HR wr (unhide hB) with h9 | ⟨b, o, rfl, _, hel⟩
          · rw [h9] at hlt; exact absurd hlt (Nat.not_lt_zero _)
          have c0 := piece_r0 hel hlt
          have c1 := piece_r1 hel hlt
          have hok := unhide HOK _ (gt_mem pieceK P k hlt)
          have HD : Hid (g = (decide (0 < (gt pieceK P k).f1.size) && (decide (lo ≤ (gt pieceK P k).f0) && (decide (pE (gt pieceK P k) ≤ li) && ((decide (fi = -1) || decide (pE (gt pieceK P k) ≤ fi)) && grI li fi (pE (gt pieceK P k) + 1) (P.drop (k + 1))))))) := by show _ = _; rw [unhide hg, dropP hlt]; rfl
          generalize gt pieceK P k = x at *
          obtain ⟨⟨x0, x1⟩, x2⟩ := hok
          have hpE : pE x = x.f0 + x.f1.size := rfl
          obtain ⟨z, hz⟩ : ∃ z, z = x.f1.size := ⟨_, rfl⟩
          have hnk : (k : Int) < (P.length : Int) := by omega
          have hk0' : (0 : Int) ≤ (k : Int) := by omega
          have sl := (unhide hX).lt
          obtain ⟨W1, hW1⟩ : ∃ V, V = wr.alloc (.cells #[.int .i64 x.f0, .string x.f1] 53) := ⟨_, rfl⟩
          have al1 : Below wr.heap.size wr W1 := by rw [hW1]; exact (Below.refl _ _).alloc (Nat.le_refl _) _
          have X1 := hide ((unhide hX).below al1)
          have Y1 := hide (show Bx W1 wr.heap.size (pieceC x) by rw [hW1]; exact Bx.new wr _ _)
          have B1 := hide ((unhide hB).trans (al1.mono (unhide hB).size))
          have x1c := (unhide X1).cv
          have x1l := (unhide X1).lt
          have y1c := (unhide Y1).cv
          have y1l := (unhide Y1).lt
          have HW1 := hide hW1
          clear hel al1 hX hB hg hW1
          go_upto_region 7 with fail
          rw [← unhide HW1]
          clear HW1 c0 c1
          by_cases hs : x.f1.size = 0
          · have he : x.f1.toList = [] := (sz_nil _).2 hs
            have hg : Hid (g = false) := by show _ = _; rw [unhide HD]; simp [hs]
            clear HD
            go_wp2
            go_ret
            exact ⟨(congrArg (fun b => Ending.returned (Value.bool b)) (unhide hg)).symm, unhide B1⟩
          · have he : ¬ x.f1.toList = [] := fun h => hs ((sz_nil _).1 h)
            have he2 := em_no he
            by_cases hl : lo ≤ x.f0
            · have hl1 : decide (x.f0 ≤ lo - 1) = false := decide_eq_false (by omega)
              have hw : IntKind.i64.wrap (x.f0 + (x.f1.size : Int)) = x.f0 + (x.f1.size : Int) := by rw [IntKind.wrap_i64]; omega
              by_cases h3 : pE x ≤ li
              · have h3' : decide (li < x.f0 + (x.f1.size : Int)) = false := decide_eq_false (by omega)
                by_cases h4 : pE x ≤ fi
                · have h4' : decide (fi < x.f0 + (x.f1.size : Int)) = false := decide_eq_false (by omega)
                  have GG : Hid (g = grI li fi (pE x + 1) (P.drop (k + 1))) := by show _ = _; rw [unhide HD, decide_eq_true (show 0 < x.f1.size by omega), decide_eq_true hl, decide_eq_true h3, decide_eq_true h4]; simp
                  go_wp2
                  exact ⟨⟨k + 1, pE x + 1, by omega, by rw [hpE]; congr 1; omega, by go_num, fun h => by omega, by omega, GG, X1, B1⟩, by simp [intOf]; omega⟩
                · have h4' : decide (fi < x.f0 + (x.f1.size : Int)) = true := decide_eq_true (by omega)
                  have hg : Hid (g = false) := by show _ = _; rw [unhide HD]; simp [h4, hf]
                  clear HD
                  go_wp2
                  go_ret
                  exact ⟨(congrArg (fun b => Ending.returned (Value.bool b)) (unhide hg)).symm, unhide B1⟩
              · have h3' : decide (li < x.f0 + (x.f1.size : Int)) = true := decide_eq_true (by omega)
                have hg : Hid (g = false) := by show _ = _; rw [unhide HD]; simp [h3]
                clear HD
                go_wp2
                go_ret
                exact ⟨(congrArg (fun b => Ending.returned (Value.bool b)) (unhide hg)).symm, unhide B1⟩
            · have hl1 : decide (x.f0 ≤ lo - 1) = true := decide_eq_true (by omega)
              by_cases hk1 : k = 0
              · have hl2 : decide (x.f0 < re) = true := decide_eq_true (by have := hk0 hk1; omega)
                have hkz : decide ((0 : Int) < (k : Int)) = false := decide_eq_false (by omega)
                have hg : Hid (g = false) := by show _ = _; rw [unhide HD]; simp [hl]
                clear HD
                go_wp2
                go_ret
                exact ⟨(congrArg (fun b => Ending.returned (Value.bool b)) (unhide hg)).symm, unhide B1⟩
              · have hkz : decide ((0 : Int) < (k : Int)) = true := decide_eq_true (by omega)
                have hg : Hid (g = false) := by show _ = _; rw [unhide HD]; simp [hl]
                clear HD
                go_wp2
                go_ret
                exact ⟨(congrArg (fun b => Ending.returned (Value.bool b)) (unhide hg)).symm, unhide B1⟩
        · obtain rfl : k = P.length := by omega
          have hg' : Hid (g = true) := by show _ = _; rw [unhide hg, List.drop_length]; rfl
          clear hg
          go_wp2
          go_ret
          exact ⟨(congrArg (fun b => Ending.returned (Value.bool b)) (unhide hg')).symm, unhide hB⟩
    · have t40 : (40 : Int) < (P.length : Int) := by omega
      have hg : g = false := by rw [unhide HE]; simp [h40]
      rw [hg]
      clear hg HE
      go_enter Try.func27, Try.ntmps27
      go_upto_region 1 with fail
      rw [← unhide HV0]
      clear HV0
      go_wp2_with (first | (go_at_call 19; (with_reducible refine (unhide I1 _).mono ?_); rintro e w9 ⟨rfl, h9⟩; rw [h9]; clear h9 w9) | (go_at_call 19; (with_reducible refine (unhide I2 _).mono ?_); rintro e w9 ⟨rfl, h9⟩; rw [h9]; clear h9 w9) | (go_at_call 19; (with_reducible refine (unhide I3 _).mono ?_); rintro e w9 ⟨rfl, h9⟩; rw [h9]; clear h9 w9))
      go_ret
      exact ⟨rfl, unhide B0⟩
end Go.Proofs.Ytmicpknilhiliaa.Rc
