/-
  Contracts of the program: where a piece ends, whether an end is known, whether what comes is good, whether it is done.
-/
import Derived.Test.YtmicpknilhiliaaSnf
import Derived.Deep.DeepCutAuto
namespace Go.Proofs.Ytmicpknilhiliaa.Rc
open Go.ChangeShapes Go.WideShapes Go.ChangeAt Go.RowKit Go.Deep
set_option linter.unusedVariables false
set_option maxRecDepth 100000

theorem implEnd (p : PieceD) (w : World) (h0 : -4611686018427387904 ≤ p.f0) (h1 : p.f0 ≤ 4611686018427387904) (h2 : p.f1.size ≤ 1099511627776) :
    Calls Try.prog 42 #[pieceV p] w fun e w' => e = .returned (.int .i64 (pE p)) ∧ Below w.heap.size w w' := by
  have al : Hid (∀ o, Below w.heap.size w (w.alloc o)) := fun o => (Below.refl _ _).alloc (Nat.le_refl _) _
  obtain ⟨f0, f1⟩ := p
  dsimp only at *
  have w1 : IntKind.i64.wrap (f0 + (f1.size : Int)) = f0 + (f1.size : Int) := by rw [IntKind.wrap_i64]; omega
  have HE : Hid (pE ⟨f0, f1⟩ = f0 + (f1.size : Int)) := rfl
  rw [unhide HE]
  go_enter Try.func42, Try.ntmps42
  go_wp2
  go_ret
  exact ⟨rfl, unhide al _⟩
theorem implKF (D : InflowD) (a : Option Addr) (c : Nat) (w : World) :
    Calls Try.prog 35 #[inflowV D a c] w fun e w' => e = .returned (.bool (!decide (D.fi = -1))) ∧ Below w.heap.size w w' := by
  have al : Hid (∀ o, Below w.heap.size w (w.alloc o)) := fun o => (Below.refl _ _).alloc (Nat.le_refl _) _
  by_cases h : D.fi = -1
  · have h1 : (D.fi != (-1 : Int)) = false := by simp [h]
    rw [decide_eq_true h]
    clear h
    go_enter Try.func35, Try.ntmps35
    go_wp2
    go_ret
    exact ⟨rfl, unhide al _⟩
  · have h1 : (D.fi != (-1 : Int)) = true := by simp [h]
    rw [decide_eq_false h]
    clear h
    go_enter Try.func35, Try.ntmps35
    go_wp2
    go_ret
    exact ⟨rfl, unhide al _⟩
/-- the greatest end that a piece may have -/
def moE (li fi : Int) : Int := if fi = -1 then li else fi
theorem gr_one {li fi lo : Int} (p : PieceD) (P : List PieceD) (h : fi = -1 ∨ fi ≤ li) : grI li fi lo (p :: P) = (decide (0 < p.f1.size) && ((decide (lo ≤ p.f0) && decide (p.f0 ≤ moE li fi - p.f1.size)) && grI li fi (pE p + 1) P)) := by
  show (decide (0 < p.f1.size) && (decide (lo ≤ p.f0) && (decide (pE p ≤ li) && ((decide (fi = -1) || decide (pE p ≤ fi)) && grI li fi (pE p + 1) P)))) = _
  generalize grI li fi (pE p + 1) P = g
  rw [Bool.eq_iff_iff]
  unfold moE pE
  simp only [Bool.and_eq_true, Bool.or_eq_true, decide_eq_true_eq]
  by_cases hf : fi = -1
  · simp only [hf, if_true, true_or, true_and]
    constructor
    · rintro ⟨a, b, c, d⟩; exact ⟨a, ⟨b, by omega⟩, d⟩
    · rintro ⟨a, ⟨b, c⟩, d⟩; exact ⟨a, b, by omega, d⟩
  · simp only [hf, if_false, false_or]
    constructor
    · rintro ⟨a, b, c, d, e⟩; exact ⟨a, ⟨b, by omega⟩, e⟩
    · rintro ⟨a, ⟨b, c⟩, d⟩; exact ⟨a, b, by omega, by omega, d⟩
set_option maxHeartbeats 8000000 in
theorem implGp (D : InflowD) (a : Option Addr) (c : Nat) (W : World) (ok : okF D) (hf : D.fi = -1 ∨ D.fi ≤ D.li) (h : Rd pieceK W a D.P) :
    Calls Try.prog 36 #[inflowV D a c] W fun e w' => e = .returned (.bool (decide (D.P.length ≤ 40) && grI D.li D.fi D.re D.P)) ∧ Below W.heap.size W w' := by
  obtain ⟨V0, hV0⟩ : ∃ V, V = W.alloc (.cells (inflowC D a c).toArray 39) := ⟨_, rfl⟩
  have A0 := hide (show Bx V0 W.heap.size (inflowC D a c) by rw [hV0]; exact Bx.new W _ _)
  have B0 := hide (show Below W.heap.size W V0 by rw [hV0]; exact (Below.refl W.heap.size W).alloc (Nat.le_refl _) _)
  have HR := hide (fun V (b : Below W.heap.size W V) => h.below b)
  have HV0 := hide hV0
  obtain ⟨⟨l0, l1⟩, ⟨r0, r1⟩, ⟨f0, f1⟩, okp, hn⟩ := ok
  have HOK := hide okp
  have HK := hide (implKF D a c)
  have hmo : moE D.li D.fi = D.li ∨ moE D.li D.fi = D.fi := by unfold moE; split <;> simp
  have HM : Hid (moE D.li D.fi = if D.fi = -1 then D.li else D.fi) := rfl
  have G1 := hide (fun lo p P => gr_one (li := D.li) (fi := D.fi) (lo := lo) p P hf)
  have a0 := (unhide A0).cv
  have a0l := (unhide A0).lt
  clear hV0 h okp hf
  obtain ⟨li, re, fi, P⟩ := D
  dsimp only at *
  generalize moE li fi = mo at *
  by_cases h40 : P.length ≤ 40
  · have t40 : ¬ (40 : Int) < (P.length : Int) := by omega
    rw [decide_eq_true h40]
    obtain ⟨g, hg⟩ : ∃ g, (true && grI li fi re P) = g := ⟨_, rfl⟩
    have HG : Hid (g = grI li fi re P) := hg.symm
    rw [hg]
    clear hg
    go_enter Try.func36, Try.ntmps36
    go_upto_region 1 with fail
    rw [← unhide HV0]
    clear HV0
    go_upto_region 4 with fail
    go_wp2_with fail
    refine (unhide HK _).mono ?_
    rintro e w1 ⟨rfl, b1⟩
    have A1 := hide ((unhide A0).below b1)
    have B1 := hide ((unhide B0).trans (b1.mono (unhide B0).size))
    clear b1 a0 a0l A0 B0 HK
    have y0 := (unhide A1).cv
    have y0l := (unhide A1).lt
    go_upto_if 14 with fail
    go_cut [3] (fun s3 wx => s3 = .int .i64 mo ∧ wx = w1)
    case first =>
      by_cases hf : fi = -1
      · have e9 : Hid (mo = li) := by show _ = _; rw [unhide HM, if_pos hf]
        have tf : decide (fi = -1) = true := decide_eq_true hf
        clear hf
        rw [tf]
        go_wp2
        go_meet
        exact ⟨by rw [unhide e9], rfl⟩
      · have e9 : Hid (mo = fi) := by show _ = _; rw [unhide HM, if_neg hf]
        have tf : decide (fi = -1) = false := decide_eq_false hf
        clear hf
        rw [tf]
        go_wp2
        go_meet
        exact ⟨by rw [unhide e9], rfl⟩
    case rest =>
    obtain ⟨rfl, rfl⟩ := hcut
    clear HM
    go_wp2_with fail
    go_loopw [4, 6, 22] (fun v4 _ iv wr => ∃ (k : Nat) (lo : Int), k ≤ P.length ∧ v4 = .int .i64 lo ∧ iv = .int .i64 k ∧ (-4611686018427387904 ≤ lo ∧ lo ≤ 4611687117939015681) ∧ Hid (g = grI li fi lo (P.drop k)) ∧ Hid (Below W.heap.size W wr)) (fun _ _ iv _ => P.length - (intOf iv).toNat)
    case atStart => exact ⟨0, re, Nat.zero_le _, rfl, rfl, by omega, HG, B1⟩
    case round =>
      obtain ⟨k, lo, hk, rfl, rfl, ⟨lo0, lo1⟩, hg, hB⟩ := hrel
      clear HG A1 B1 y0 y0l
      by_cases hlt : k < P.length
      · rcases unhide HR wr (unhide hB) with h9 | ⟨b, o, rfl, _, hel⟩
        · rw [h9] at hlt; exact absurd hlt (Nat.not_lt_zero _)
        have c0 := piece_r0 hel hlt
        have c1 := piece_r1 hel hlt
        have hok := unhide HOK _ (gt_mem pieceK P k hlt)
        have HD : Hid (g = (decide (0 < (gt pieceK P k).f1.size) && ((decide (lo ≤ (gt pieceK P k).f0) && decide ((gt pieceK P k).f0 ≤ mo - (gt pieceK P k).f1.size)) && grI li fi (pE (gt pieceK P k) + 1) (P.drop (k + 1))))) := by show _ = _; rw [unhide hg, dropP hlt]; exact unhide G1 _ _ _
        generalize gt pieceK P k = x at *
        obtain ⟨⟨x0, x1⟩, x2⟩ := hok
        have hpE : pE x = x.f0 + x.f1.size := rfl
        obtain ⟨z, hz⟩ : ∃ z, z = x.f1.size := ⟨_, rfl⟩
        have hnk : (k : Int) < (P.length : Int) := by omega
        have hk0' : (0 : Int) ≤ (k : Int) := by omega
        have HEN := hide (fun W => implEnd x W x0 x1 x2)
        have HBT := hide (bt4 lo x.f0 (mo - (x.f1.size : Int)))
        obtain ⟨W1, hW1⟩ : ∃ V, V = wr.alloc (.cells #[.int .i64 x.f0, .string x.f1] 53) := ⟨_, rfl⟩
        have al1 : Below wr.heap.size wr W1 := by rw [hW1]; exact (Below.refl _ _).alloc (Nat.le_refl _) _
        have Y1 := hide (show Bx W1 wr.heap.size (pieceC x) by rw [hW1]; exact Bx.new wr _ _)
        have B1 := hide ((unhide hB).trans (al1.mono (unhide hB).size))
        have y1c := (unhide Y1).cv
        have y1l := (unhide Y1).lt
        have HW1 := hide hW1
        clear hel al1 hB hg hW1
        go_upto_region 10 with fail
        rw [← unhide HW1]
        clear HW1 c0 c1
        by_cases hs : x.f1.size = 0
        · have he : x.f1.toList = [] := (sz_nil _).2 hs
          have hg : Hid (g = false) := by show _ = _; rw [unhide HD]; simp [hs]
          clear HD
          go_wp2
          go_ret
          exact ⟨(congrArg (fun b => Ending.returned (Value.bool b)) (unhide hg)).symm, unhide B1⟩
        · have he : ¬ x.f1.toList = [] := fun h => hs ((sz_nil _).1 h)
          have he2 := em_no he
          have hw : IntKind.i64.wrap (mo - (x.f1.size : Int)) = mo - (x.f1.size : Int) := by rw [IntKind.wrap_i64]; omega
          have HD2 : Hid (g = ((decide (lo ≤ x.f0) && decide (x.f0 ≤ mo - (x.f1.size : Int))) && grI li fi (pE x + 1) (P.drop (k + 1)))) := by show _ = _; rw [unhide HD, decide_eq_true (show 0 < x.f1.size by omega)]; rfl
          clear HD
          by_cases hl : lo ≤ x.f0 ∧ x.f0 ≤ mo - (x.f1.size : Int)
          · have t9 : (decide (lo ≤ x.f0) && decide (x.f0 ≤ mo - (x.f1.size : Int))) = true := by simp [hl.1, hl.2]
            have GG : Hid (g = grI li fi (pE x + 1) (P.drop (k + 1))) := by show _ = _; rw [unhide HD2, t9]; rfl
            rw [t9] at HBT
            clear HD2 t9
            go_wp2_with (go_at_call 15; (with_reducible refine (unhide HBT _).mono ?_); rintro e w9 ⟨rfl, h9⟩; rw [h9]; clear h9 w9)
            refine (unhide HEN _).mono ?_
            rintro e w2 ⟨rfl, b2⟩
            have B2 := hide ((unhide B1).trans (b2.mono (unhide B1).size))
            have w3 : IntKind.i64.wrap (pE x + 1) = pE x + 1 := by rw [IntKind.wrap_i64, hpE]; omega
            clear b2 y1c y1l
            generalize hpx : pE x = px at *
            go_wp2
            exact ⟨⟨k + 1, px + 1, by omega, by congr 1; omega, by go_num, by omega, GG, B2⟩, by simp [intOf]; omega⟩
          · have t9 : (decide (lo ≤ x.f0) && decide (x.f0 ≤ mo - (x.f1.size : Int))) = false := by
              rw [Bool.and_eq_false_iff]
              simp only [decide_eq_false_iff_not]
              omega
            have hg : Hid (g = false) := by show _ = _; rw [unhide HD2, t9]; rfl
            rw [t9] at HBT
            clear HD2 t9
            go_wp2_with (go_at_call 15; (with_reducible refine (unhide HBT _).mono ?_); rintro e w9 ⟨rfl, h9⟩; rw [h9]; clear h9 w9)
            go_ret
            exact ⟨(congrArg (fun b => Ending.returned (Value.bool b)) (unhide hg)).symm, unhide B1⟩
      · obtain rfl : k = P.length := by omega
        have hg' : Hid (g = true) := by show _ = _; rw [unhide hg, List.drop_length]; rfl
        clear hg
        go_wp2
        go_ret
        exact ⟨(congrArg (fun b => Ending.returned (Value.bool b)) (unhide hg')).symm, unhide hB⟩
  · have t40 : (40 : Int) < (P.length : Int) := by omega
    rw [decide_eq_false h40]
    go_enter Try.func36, Try.ntmps36
    go_upto_region 1 with fail
    rw [← unhide HV0]
    clear HV0
    go_wp2
    go_ret
    exact ⟨rfl, unhide B0⟩
set_option maxHeartbeats 8000000 in
theorem implGI (D : InflowD) (a : Option Addr) (c : Nat) (W : World) (ok : okF D) (h : Rd pieceK W a D.P) :
    Calls Try.prog 26 #[inflowV D a c] W fun e w' => e = .returned (.bool (giB D)) ∧ Below W.heap.size W w' := by
  obtain ⟨V0, hV0⟩ : ∃ V, V = W.alloc (.cells (inflowC D a c).toArray 39) := ⟨_, rfl⟩
  have A0 := hide (show Bx V0 W.heap.size (inflowC D a c) by rw [hV0]; exact Bx.new W _ _)
  have B0 := hide (show Below W.heap.size W V0 by rw [hV0]; exact (Below.refl W.heap.size W).alloc (Nat.le_refl _) _)
  have HR := hide (fun V (b : Below W.heap.size W V) => h.below b)
  have HV0 := hide hV0
  have HGP := hide (fun (hf : D.fi = -1 ∨ D.fi ≤ D.li) V (b : Below W.heap.size W V) => implGp D a c V ok hf (h.below b))
  have HK := hide (implKF D a c)
  have H1 := hide (implGb D.li)
  have H2 := hide (bt4 0 D.re D.li)
  have H3 := hide (bt4 D.re D.fi D.li)
  have HL : Hid ((decide (D.re ≤ D.fi) && decide (D.fi ≤ D.li)) = true → D.fi ≤ D.li) := fun h => by simp only [Bool.and_eq_true, decide_eq_true_eq] at h; exact h.2
  have HE : Hid (giB D = (niB D.li && ((decide (0 ≤ D.re) && decide (D.re ≤ D.li)) && ((decide (D.fi = -1) || (decide (D.re ≤ D.fi) && decide (D.fi ≤ D.li))) && (decide (D.P.length ≤ 40) && grI D.li D.fi D.re D.P))))) := rfl
  have HF : Hid (decide (D.fi = -1) = true → D.fi = -1) := fun h => of_decide_eq_true h
  have a0 := (unhide A0).cv
  have a0l := (unhide A0).lt
  clear hV0 h ok
  generalize niB D.li = b1 at *
  generalize (decide (0 ≤ D.re) && decide (D.re ≤ D.li)) = b2 at *
  generalize (decide (D.re ≤ D.fi) && decide (D.fi ≤ D.li)) = b3 at *
  generalize decide (D.fi = -1) = b4 at *
  generalize (decide (D.P.length ≤ 40) && grI D.li D.fi D.re D.P) = b5 at *
  obtain ⟨g, hg⟩ : ∃ g, giB D = g := ⟨_, rfl⟩
  rw [hg] at HE ⊢
  clear hg
  obtain ⟨li, re, fi, P⟩ := D
  dsimp only at *
  cases b1 with
  | false =>
    have hg : g = false := by rw [unhide HE]; rfl
    rw [hg]
    clear hg HE
    go_enter Try.func26, Try.ntmps26
    go_upto_region 1 with fail
    rw [← unhide HV0]
    clear HV0
    go_wp2_with (go_at_call 23; (with_reducible refine (unhide H1 _).mono ?_); rintro e w9 ⟨rfl, h9⟩; rw [h9]; clear h9 w9)
    go_ret
    exact ⟨rfl, unhide B0⟩
  | true =>
  cases b2 with
  | false =>
    have hg : g = false := by rw [unhide HE]; rfl
    rw [hg]
    clear hg HE
    go_enter Try.func26, Try.ntmps26
    go_upto_region 1 with fail
    rw [← unhide HV0]
    clear HV0
    go_wp2_with (first | (go_at_call 23; (with_reducible refine (unhide H1 _).mono ?_); rintro e w9 ⟨rfl, h9⟩; rw [h9]; clear h9 w9) | (go_at_call 15; (with_reducible refine (unhide H2 _).mono ?_); rintro e w9 ⟨rfl, h9⟩; rw [h9]; clear h9 w9))
    go_ret
    exact ⟨rfl, unhide B0⟩
  | true =>
  cases b4 with
  | true =>
    have hg : g = b5 := by rw [unhide HE]; simp
    have HGP := hide (unhide HGP (Or.inl (unhide HF rfl)))
    rw [hg]
    clear hg HE
    go_enter Try.func26, Try.ntmps26
    go_upto_region 1 with fail
    rw [← unhide HV0]
    clear HV0
    go_wp2_with (first | (go_at_call 23; (with_reducible refine (unhide H1 _).mono ?_); rintro e w9 ⟨rfl, h9⟩; rw [h9]; clear h9 w9) | (go_at_call 15; (with_reducible refine (unhide H2 _).mono ?_); rintro e w9 ⟨rfl, h9⟩; rw [h9]; clear h9 w9) | (go_at_call 35; (with_reducible refine (unhide HK _).mono ?_); rintro e w2 ⟨rfl, b2⟩; have B2 := hide ((unhide B0).trans (b2.mono (unhide B0).size)); have y0 := ((unhide A0).below b2).cv; have y0l := ((unhide A0).below b2).lt; clear b2 a0 a0l) | (go_at_call 36; (with_reducible refine (unhide HGP _ (unhide B2)).mono ?_); rintro e w3 ⟨rfl, b3⟩; have B3 := hide ((unhide B2).trans (b3.mono (unhide B2).size)); clear b3))
    go_ret
    exact ⟨rfl, unhide B3⟩
  | false =>
  cases b3 with
  | false =>
    have hg : g = false := by rw [unhide HE]; simp
    rw [hg]
    clear hg HE
    go_enter Try.func26, Try.ntmps26
    go_upto_region 1 with fail
    rw [← unhide HV0]
    clear HV0
    go_wp2_with (first | (go_at_call 23; (with_reducible refine (unhide H1 _).mono ?_); rintro e w9 ⟨rfl, h9⟩; rw [h9]; clear h9 w9) | (go_at_call 15; (with_reducible refine (unhide H2 _).mono ?_); rintro e w9 ⟨rfl, h9⟩; rw [h9]; clear h9 w9) | (go_at_call 15; (with_reducible refine (unhide H3 _).mono ?_); rintro e w9 ⟨rfl, h9⟩; rw [h9]; clear h9 w9) | (go_at_call 35; (with_reducible refine (unhide HK _).mono ?_); rintro e w2 ⟨rfl, b2⟩; have B2 := hide ((unhide B0).trans (b2.mono (unhide B0).size)); have y0 := ((unhide A0).below b2).cv; have y0l := ((unhide A0).below b2).lt; clear b2 a0 a0l))
    go_ret
    exact ⟨rfl, unhide B2⟩
  | true =>
    have hg : g = b5 := by rw [unhide HE]; simp
    have HGP := hide (unhide HGP (Or.inr (unhide HL rfl)))
    rw [hg]
    clear hg HE
    go_enter Try.func26, Try.ntmps26
    go_upto_region 1 with fail
    rw [← unhide HV0]
    clear HV0
    go_wp2_with (first | (go_at_call 23; (with_reducible refine (unhide H1 _).mono ?_); rintro e w9 ⟨rfl, h9⟩; rw [h9]; clear h9 w9) | (go_at_call 15; (with_reducible refine (unhide H2 _).mono ?_); rintro e w9 ⟨rfl, h9⟩; rw [h9]; clear h9 w9) | (go_at_call 15; (with_reducible refine (unhide H3 _).mono ?_); rintro e w9 ⟨rfl, h9⟩; rw [h9]; clear h9 w9) | (go_at_call 35; (with_reducible refine (unhide HK _).mono ?_); rintro e w2 ⟨rfl, b2⟩; have B2 := hide ((unhide B0).trans (b2.mono (unhide B0).size)); have y0 := ((unhide A0).below b2).cv; have y0l := ((unhide A0).below b2).lt; clear b2 a0 a0l) | (go_at_call 36; (with_reducible refine (unhide HGP _ (unhide B2)).mono ?_); rintro e w3 ⟨rfl, b3⟩; have B3 := hide ((unhide B2).trans (b3.mono (unhide B2).size)); clear b3))
    go_ret
    exact ⟨rfl, unhide B3⟩
set_option maxHeartbeats 4000000 in
theorem implID (D : InflowD) (a : Option Addr) (c : Nat) (W : World) (ok : okF D) (h : Rd pieceK W a D.P) (g : giB D = true) :
    Calls Try.prog 17 #[inflowV D a c] W fun e w' => e = .returned (.tuple #[.bool (decide (D.re = D.fi)), .bool true]) ∧ Below W.heap.size W w' := by
  obtain ⟨V0, hV0⟩ : ∃ V, V = W.alloc (.cells (inflowC D a c).toArray 39) := ⟨_, rfl⟩
  have A0 := hide (show Bx V0 W.heap.size (inflowC D a c) by rw [hV0]; exact Bx.new W _ _)
  have B0 := hide (show Below W.heap.size W V0 by rw [hV0]; exact (Below.refl W.heap.size W).alloc (Nat.le_refl _) _)
  have HG := hide (implGI D a c V0 ok (h.below (unhide B0)))
  rw [g] at HG
  have HV0 := hide hV0
  have a0 := (unhide A0).cv
  have a0l := (unhide A0).lt
  have HD : Hid ((D.re == D.fi) = decide (D.re = D.fi)) := rfl
  clear hV0 h ok g
  rw [← unhide HD]
  clear HD
  go_enter Try.func17, Try.ntmps17
  go_upto_region 1 with fail
  rw [← unhide HV0]
  clear HV0
  go_wp2_with fail
  refine (unhide HG).mono ?_
  rintro e w1 ⟨rfl, b1⟩
  have B1 := hide ((unhide B0).trans (b1.mono (unhide B0).size))
  have y0 := ((unhide A0).below b1).cv
  have y0l := ((unhide A0).below b1).lt
  clear b1 a0 a0l
  go_wp2
  go_ret2
  exact ⟨rfl, unhide B1⟩
end Go.Proofs.Ytmicpknilhiliaa.Rc
