/-
  Contract of the program: TakePiece, of an inflow whose numbers don't run over.
-/
import Derived.Test.YtmicpknilhiliaaTgj4
import Derived.Test.YtmicpknilhiliaaStw
namespace Go.Proofs.Ytmicpknilhiliaa.Rc
open Go.ChangeShapes Go.WideShapes Go.ChangeAt Go.RowKit Go.Deep
set_option linter.unusedVariables false
set_option maxRecDepth 100000

theorem good_small {D : InflowD} (g : GoodI D) : D.P.length ≤ 1000 ∧ ∀ p ∈ D.P, p.f1.size ≤ 1048576 := ⟨by have := g.n; omega, fun p hp => by
  have e1 := can_lo g.can p hp
  have e2 := (g.hi p hp).1
  have e3 := g.r0
  have e4 := g.l1
  have e5 : pE p = p.f0 + p.f1.size := rfl
  omega⟩
theorem tkC_K {D : InflowD} {at' : Int} {d : ByteArray} {fin : Bool} (h : tkA D at' d = true) : tkC D at' d fin = tkK D at' d fin := by unfold tkC tkK; rw [if_pos h]
theorem tkD_good {D : InflowD} {at' : Int} {d : ByteArray} {fin : Bool} (h : tkA D at' d = true) (g : GoodI D) : GoodI (tkD D at' d fin (tkC D at' d fin)) := by
  by_cases h0 : tkC D at' d fin = 0
  · rw [h0]
    exact tk_good (took_iff.1 h0)
  · have h1 : tkC D at' d fin ≠ 1 := by
      rw [tkC_K h]
      unfold tkK
      split
      · decide
      · split
        · decide
        · split
          · decide
          · split <;> decide
    unfold tkD
    rw [if_neg h1, if_neg h0]
    exact g
/-- what is answered -/
def TP4 (E : InflowD) (co : Int) (W : World) (e : Ending) (w' : World) : Prop :=
  ∃ (a' : Option Addr) (c' : Nat), e = .returned (.tuple #[inflowV E a' c', .int .i64 co]) ∧ Ro pieceK 53 W.heap.size w' (.slice a' E.P.length c') E.P ∧ Below W.heap.size W w'
set_option maxHeartbeats 16000000 in
theorem implTP (D : InflowD) (a : Option Addr) (c : Nat) (at' : Int) (d : ByteArray) (fin : Bool) (W : World) (ok : okF D) (hd : d.size ≤ 1099511627776) (hs : Sl4 a c D.P.length) (hcm : c ≤ maxLen) (h : Rd pieceK W a D.P) :
    Calls Try.prog 33 #[inflowV D a c, .int .i64 at', .string d, .bool fin] W (TP4 (tkD D at' d fin (tkC D at' d fin)) (tkC D at' d fin) W) := by
  obtain ⟨V0, hV0⟩ : ∃ V, V = (W.alloc (.cells (inflowC D a c).toArray 39)).alloc (.cells inflowZ.toArray 39) := ⟨_, rfl⟩
  have A0 := hide (show Bx V0 W.heap.size (inflowC D a c) by rw [hV0]; exact (Bx.new W _ _).alloc _)
  have R0 := hide (show Bx V0 (W.heap.size + 1) inflowZ by rw [hV0]; exact Bx.newAt (W.alloc _) _ _ _ (by simp))
  have B0 := hide (show Below W.heap.size W V0 by rw [hV0]; exact ((Below.refl W.heap.size W).alloc (Nat.le_refl _) _).alloc (by simp) _)
  have HV0 := hide hV0
  have HGI := hide (implGI D a c V0 ok (h.below (unhide B0)))
  have HBT := hide (bt4 0 at' 4611686018427387903)
  have HWI := hide (fun V q cc => win4 d 1500 (by decide) hd V q cc)
  have HTK := hide (fun (g : giB D = true) (ha : (decide (0 ≤ at') && decide (at' ≤ 4611686018427387903)) = true) (hz : decide (d.size ≤ 1500) = true) V (b : Below W.heap.size W V) => implTk D at' d fin a c V (giB_iff.1 g) (by simp only [Bool.and_eq_true, decide_eq_true_eq] at ha; exact ha.1) (by simp only [Bool.and_eq_true, decide_eq_true_eq] at ha; exact ha.2) (of_decide_eq_true hz) hs hcm (h.below b))
  have HA : Hid (tkA D at' d = (giB D && ((decide (0 ≤ at') && decide (at' ≤ 4611686018427387903)) && decide (d.size ≤ 1500)))) := rfl
  have HOW := hide (fun (hA : tkA D at' d = true) (g : giB D = true) (a' : Option Addr) (c' : Nat) V (r : Rd pieceK V a' (tkD D at' d fin (tkC D at' d fin)).P) => implOI (tkD D at' d fin (tkC D at' d fin)) a' c' V (good_small (tkD_good hA (giB_iff.1 g))).1 (good_small (tkD_good hA (giB_iff.1 g))).2 r)
  have HCK : Hid (tkA D at' d = true → tkC D at' d fin = tkK D at' d fin) := fun hA => tkC_K hA
  have NO : Hid (∀ w', tkA D at' d = false → Below W.heap.size W w' → TP4 (tkD D at' d fin (tkC D at' d fin)) (tkC D at' d fin) W (.returned (.tuple #[.agg #[.int .i64 0, .int .i64 0, .int .i64 0, .slice none 0 0], .int .i64 1])) w') := fun w' hA b => by
    have e1 : tkC D at' d fin = 1 := by unfold tkC; rw [if_neg (by rw [hA]; exact Bool.false_ne_true)]
    rw [e1]
    exact ⟨none, 0, rfl, Ro.nil _ _ _ _, b⟩
  obtain ⟨E, hE⟩ : ∃ E, E = tkD D at' d fin (tkC D at' d fin) := ⟨_, rfl⟩
  obtain ⟨co, hco⟩ : ∃ k, k = tkC D at' d fin := ⟨_, rfl⟩
  have HTKQ : Hid (tkA D at' d = true → ∀ V e w', TKQ D at' d fin V e w' → ∃ (a' : Option Addr) (c' : Nat), e = .returned (.tuple #[inflowV E a' c', .int .i64 co]) ∧ Rd pieceK w' a' E.P ∧ Below V.heap.size V w') := fun hA V e w' q => by
    obtain ⟨a', c', h1, h2, h3⟩ := q
    rw [← tkC_K hA, ← hco] at h1 h2
    rw [hco, ← hE, ← hco] at h1
    rw [hco, ← hE] at h2
    exact ⟨a', c', h1, h2, h3⟩
  rw [← hE, ← hco] at NO ⊢
  rw [← hE] at HOW
  clear hE hco hV0 h ok hs hcm hd
  generalize giB D = b1 at *
  generalize (decide (0 ≤ at') && decide (at' ≤ 4611686018427387903)) = b2 at *
  generalize decide (d.size ≤ 1500) = b3 at *
  have x0 := (unhide A0).cv
  have x0l := (unhide A0).lt
  obtain ⟨li, re, fi, P⟩ := D
  obtain ⟨eli, ere, efi, EP⟩ := E
  dsimp only at *
  go_enter Try.func33, Try.ntmps33
  go_upto_region 1 with fail
  rw [← unhide HV0]
  clear HV0
  cases b1 with
  | false =>
    have HN := hide (fun w' b => unhide NO w' (by rw [unhide HA]; rfl) b)
    clear NO HTK HOW HCK HTKQ HA
    go_wp2_with fail
    refine (unhide HGI).mono ?_
    rintro e w1 ⟨rfl, b1⟩
    have R1 := (unhide R0).below b1
    have B1 := hide ((unhide B0).trans (b1.mono (unhide B0).size))
    have y1 := R1.cv
    have y1f := R1.fz
    have y1l := R1.lt
    clear b1 x0 x0l R1
    go_wp2
    refine bodyPost_ret (v := .tuple #[.agg #[.int .i64 0, .int .i64 0, .int .i64 0, .slice none 0 0], .int .i64 1]) (by simp [results, Try.results33, go_sem, y1]) rfl (unhide HN _ ?_)
    repeat (refine Below.setCell ?_ (by simp <;> omega) _)
    exact unhide B1
  | true =>
  cases b2 with
  | false =>
    have HN := hide (fun w' b => unhide NO w' (by rw [unhide HA]; rfl) b)
    clear NO HTK HOW HCK HTKQ HA
    go_wp2_with fail
    refine (unhide HGI).mono ?_
    rintro e w1 ⟨rfl, b1⟩
    have R1 := (unhide R0).below b1
    have B1 := hide ((unhide B0).trans (b1.mono (unhide B0).size))
    have y1 := R1.cv
    have y1f := R1.fz
    have y1l := R1.lt
    clear b1 x0 x0l R1
    go_wp2_with (go_at_call 15; (with_reducible refine (unhide HBT _).mono ?_); rintro e w9 ⟨rfl, h9⟩; rw [h9]; clear h9 w9)
    refine bodyPost_ret (v := .tuple #[.agg #[.int .i64 0, .int .i64 0, .int .i64 0, .slice none 0 0], .int .i64 1]) (by simp [results, Try.results33, go_sem, y1]) rfl (unhide HN _ ?_)
    repeat (refine Below.setCell ?_ (by simp <;> omega) _)
    exact unhide B1
  | true =>
  cases b3 with
  | false =>
    have HN := hide (fun w' b => unhide NO w' (by rw [unhide HA]; rfl) b)
    clear NO HTK HOW HCK HTKQ HA
    go_wp2_with fail
    refine (unhide HGI).mono ?_
    rintro e w1 ⟨rfl, b1⟩
    obtain ⟨V2, hV2⟩ : ∃ V, V = w1.alloc (.cells #[.string d] 9) := ⟨_, rfl⟩
    have al2 : Below w1.heap.size w1 V2 := by rw [hV2]; exact (Below.refl _ _).alloc (Nat.le_refl _) _
    have R2 := ((unhide R0).below b1).below al2
    have B2 := hide (((unhide B0).trans (b1.mono (unhide B0).size)).trans (al2.mono (Nat.le_trans (unhide B0).size b1.size)))
    have HWJ := hide (unhide HWI V2 w1.heap.size 1 (by rw [hV2]; exact (Bx.new w1 [Value.string d] _).cv 0))
    have HV2 := hide hV2
    have y1 := R2.cv
    have y1f := R2.fz
    have y1l := R2.lt
    clear b1 x0 x0l R2 al2 hV2 HWI
    go_wp2_with (first | (go_at_call 15; (with_reducible refine (unhide HBT _).mono ?_); rintro e w9 ⟨rfl, h9⟩; rw [h9]; clear h9 w9) | (rw [← unhide HV2]; go_at_call 11; refine (unhide HWJ).mono ?_; rintro e w9 ⟨rfl, h9⟩; rw [h9]; clear h9 w9))
    refine bodyPost_ret (v := .tuple #[.agg #[.int .i64 0, .int .i64 0, .int .i64 0, .slice none 0 0], .int .i64 1]) (by simp [results, Try.results33, go_sem, y1]) rfl (unhide HN _ ?_)
    repeat (refine Below.setCell ?_ (by simp <;> omega) _)
    exact unhide B2
  | true =>
    have hA : tkA ⟨li, re, fi, P⟩ at' d = true := by rw [unhide HA]; rfl
    have HTKQ2 := hide (unhide HTKQ hA)
    have HOW2 := hide (unhide HOW hA (by first | rfl | trivial))
    have HTK2 := hide (fun V (b : Below W.heap.size W V) => unhide HTK (by first | rfl | trivial) (by first | rfl | trivial) (by first | rfl | trivial) V b)
    clear hA NO HA HCK HTK HTKQ HOW
    go_wp2_with fail
    refine (unhide HGI).mono ?_
    rintro e w1 ⟨rfl, b1⟩
    obtain ⟨V2, hV2⟩ : ∃ V, V = w1.alloc (.cells #[.string d] 9) := ⟨_, rfl⟩
    have al2 : Below w1.heap.size w1 V2 := by rw [hV2]; exact (Below.refl _ _).alloc (Nat.le_refl _) _
    have A2 := hide (((unhide A0).below b1).below al2)
    have R2 := hide (((unhide R0).below b1).below al2)
    have B2 := hide (((unhide B0).trans (b1.mono (unhide B0).size)).trans (al2.mono (Nat.le_trans (unhide B0).size b1.size)))
    have HWJ := hide (unhide HWI V2 w1.heap.size 1 (by rw [hV2]; exact (Bx.new w1 [Value.string d] _).cv 0))
    have HV2 := hide hV2
    clear b1 x0 x0l al2 hV2 HWI A0 R0 B0 HGI
    have x2 := (unhide A2).cv
    have x2l := (unhide A2).lt
    go_upto_region 3 with (first | (go_at_call 15; (with_reducible refine (unhide HBT _).mono ?_); rintro e w9 ⟨rfl, h9⟩; rw [h9]; clear h9 w9) | (rw [← unhide HV2]; go_at_call 11; refine (unhide HWJ).mono ?_; rintro e w9 ⟨rfl, h9⟩; rw [h9]; clear h9 w9))
    go_wp2_with fail
    refine (unhide HTK2 _ (unhide B2)).mono ?_
    intro e w3 hq
    obtain ⟨a3, c3, rfl, r3, b3⟩ := unhide HTKQ2 _ _ _ hq
    obtain ⟨V4, hV4⟩ : ∃ V, V = w3.alloc (.cells #[.int .i64 eli, .int .i64 ere, .int .i64 efi, .slice a3 EP.length c3] 39) := ⟨_, rfl⟩
    have al4 : Below w3.heap.size w3 V4 := by rw [hV4]; exact (Below.refl _ _).alloc (Nat.le_refl _) _
    have X4 := hide (show Bx V4 w3.heap.size [.int .i64 eli, .int .i64 ere, .int .i64 efi, .slice a3 EP.length c3] by rw [hV4]; exact Bx.new w3 _ _)
    have R4 := hide (((unhide R2).below b3).below al4)
    have B4 := hide (((unhide B2).trans (b3.mono (unhide B2).size)).trans (al4.mono (Nat.le_trans (unhide B2).size b3.size)))
    have HOI := hide (unhide HOW2 a3 c3 V4 (r3.below al4))
    have HV4 := hide hV4
    clear hq r3 b3 al4 hV4 A2 R2 B2 x2 x2l HTK2 HTKQ2 HOW2
    go_upto_region 4 with fail
    rw [← unhide HV4]
    clear HV4
    have x4 := (unhide X4).cv
    have x4l := (unhide X4).lt
    go_wp2_with fail
    refine (unhide HOI).mono ?_
    rintro e w5 ⟨a5, c5, rfl, o5, b5⟩
    have R5 := hide ((unhide R4).below b5)
    have B5 := hide ((unhide B4).trans (b5.mono (unhide B4).size))
    have sz := (unhide B4).size
    have sR := (unhide R4).lt
    have F4 := hide (st4q (unhide R5) (.int .i64 eli) (.int .i64 ere) (.int .i64 efi) (.slice a5 EP.length c5))
    have O6 := hide ((o5.kq (unhide F4).2 (fun q hq => by omega)).mono sz)
    have B6 := hide ((unhide B5).trans ((unhide F4).2.below (base := W.heap.size) (by have := (unhide R5).lt; omega) (fun q hq => by omega)))
    have y5 := (unhide R5).cv
    have y5f := (unhide R5).fz
    have y5l := (unhide R5).lt
    have c1 := (unhide F4).1.cv
    clear o5 b5 R4 B4 x4 x4l X4 HOI
    go_wp2
    refine bodyPost_ret (v := .tuple #[.agg #[.int .i64 eli, .int .i64 ere, .int .i64 efi, .slice a5 EP.length c5], .int .i64 co]) (by simp [results, Try.results33, go_sem, c1]) rfl ⟨a5, c5, rfl, unhide O6, unhide B6⟩
end Go.Proofs.Ytmicpknilhiliaa.Rc
