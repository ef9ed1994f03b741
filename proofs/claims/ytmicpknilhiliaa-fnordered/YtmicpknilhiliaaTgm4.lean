/-
  Contract of the program: ReadSome, of an inflow whose numbers don't run over.
-/
import Derived.Test.YtmicpknilhiliaaTgl4
namespace Go.Proofs.Ytmicpknilhiliaa.Rc
open Go.ChangeShapes Go.WideShapes Go.ChangeAt Go.RowKit Go.Deep
set_option linter.unusedVariables false
set_option maxRecDepth 100000

def rsA (D : InflowD) (most : Int) : Bool := giB D && niB most
/-- what is answered -/
def RS4 (E : InflowD) (s : ByteArray) (r : Bool) (W : World) (e : Ending) (w' : World) : Prop :=
  ∃ (a' : Option Addr) (c' : Nat), e = .returned (.tuple #[inflowV E a' c', .string s, .bool r]) ∧ Ro pieceK 53 W.heap.size w' (.slice a' E.P.length c') E.P ∧ Below W.heap.size W w'
def rsE (D : InflowD) (most : Int) : InflowD := if rsA D most = true then rdE D most else infZ
def rsO (D : InflowD) (most : Int) : ByteArray := if rsA D most = true then rdO D most else ⟨#[]⟩
set_option maxHeartbeats 16000000 in
theorem implRS (D : InflowD) (a : Option Addr) (c : Nat) (most : Int) (W : World) (ok : okF D) (h : Rd pieceK W a D.P) :
    Calls Try.prog 34 #[inflowV D a c, .int .i64 most] W (RS4 (rsE D most) (rsO D most) (rsA D most) W) := by
  obtain ⟨V0, hV0⟩ : ∃ V, V = (W.alloc (.cells (inflowC D a c).toArray 39)).alloc (.cells inflowZ.toArray 39) := ⟨_, rfl⟩
  have A0 := hide (show Bx V0 W.heap.size (inflowC D a c) by rw [hV0]; exact (Bx.new W _ _).alloc _)
  have R0 := hide (show Bx V0 (W.heap.size + 1) inflowZ by rw [hV0]; exact Bx.newAt (W.alloc _) _ _ _ (by simp))
  have B0 := hide (show Below W.heap.size W V0 by rw [hV0]; exact ((Below.refl W.heap.size W).alloc (Nat.le_refl _) _).alloc (by simp) _)
  have HV0 := hide hV0
  have HGI := hide (implGI D a c V0 ok (h.below (unhide B0)))
  have HGB := hide (implGb most)
  have HA : Hid (rsA D most = (giB D && niB most)) := rfl
  have NO : Hid (∀ w', rsA D most = false → Below W.heap.size W w' → RS4 (rsE D most) (rsO D most) (rsA D most) W (.returned (.tuple #[.agg #[.int .i64 0, .int .i64 0, .int .i64 0, .slice none 0 0], .string ⟨#[]⟩, .bool false])) w') := fun w' hA b => by
    unfold rsE rsO
    rw [hA]
    exact ⟨none, 0, rfl, Ro.nil _ _ _ _, b⟩
  have YES : Hid (rsA D most = true → RS4 (rsE D most) (rsO D most) (rsA D most) W = RS4 (rdE D most) (rdO D most) true W) := fun hA => by
    unfold rsE rsO
    rw [hA]
    rfl
  have HRB := hide (fun V (b : Below W.heap.size W V) => implRb D a c V (h.below b))
  have HM : Hid (niB most = true → 0 ≤ most ∧ most ≤ 4000) := fun h => by unfold niB at h; simpa using h
  have HGG : Hid (giB D = true → GoodI D) := giB_iff.1
  have HR := hide (fun V (b : Below W.heap.size W V) => h.below b)
  obtain ⟨Q, hQ⟩ : ∃ Q, Q = RS4 (rsE D most) (rsO D most) (rsA D most) W := ⟨_, rfl⟩
  rw [← hQ] at NO YES ⊢
  have x0 := (unhide A0).cv
  have x0l := (unhide A0).lt
  clear hV0 h ok hQ
  generalize giB D = b1 at *
  generalize hb2 : niB most = b2 at *
  clear hb2
  cases b1 with
  | false =>
    have HN := hide (fun w' (b : Below W.heap.size W w') => unhide NO w' (by rw [unhide HA]; rfl) b)
    clear NO YES HA HRB HM HGG HR
    obtain ⟨li, re, fi, P⟩ := D
    go_enter Try.func34, Try.ntmps34
    go_upto_region 1 with fail
    rw [← unhide HV0]
    clear HV0
    go_wp2_with fail
    refine (unhide HGI).mono ?_
    rintro e w1 ⟨rfl, b1⟩
    have R1 := (unhide R0).below b1
    have B1 := hide ((unhide B0).trans (b1.mono (unhide B0).size))
    have y1 := R1.cv
    have y1f := R1.fz
    have y1l := R1.lt
    clear b1 x0 x0l R1
    go_wp2
    refine bodyPost_ret (v := .tuple #[.agg #[.int .i64 0, .int .i64 0, .int .i64 0, .slice none 0 0], .string ⟨#[]⟩, .bool false]) (by simp [results, Try.results34, go_sem, y1]) rfl (unhide HN _ ?_)
    repeat (refine Below.setCell ?_ (by simp <;> omega) _)
    exact unhide B1
  | true =>
  cases b2 with
  | false =>
    have HN := hide (fun w' (b : Below W.heap.size W w') => unhide NO w' (by rw [unhide HA]; rfl) b)
    clear NO YES HA HRB HM HGG HR
    obtain ⟨li, re, fi, P⟩ := D
    go_enter Try.func34, Try.ntmps34
    go_upto_region 1 with fail
    rw [← unhide HV0]
    clear HV0
    go_wp2_with fail
    refine (unhide HGI).mono ?_
    rintro e w1 ⟨rfl, b1⟩
    have R1 := (unhide R0).below b1
    have B1 := hide ((unhide B0).trans (b1.mono (unhide B0).size))
    have y1 := R1.cv
    have y1f := R1.fz
    have y1l := R1.lt
    clear b1 x0 x0l R1
    go_wp2_with (go_at_call 23; (with_reducible refine (unhide HGB _).mono ?_); rintro e w9 ⟨rfl, h9⟩; rw [h9]; clear h9 w9)
    refine bodyPost_ret (v := .tuple #[.agg #[.int .i64 0, .int .i64 0, .int .i64 0, .slice none 0 0], .string ⟨#[]⟩, .bool false]) (by simp [results, Try.results34, go_sem, y1]) rfl (unhide HN _ ?_)
    repeat (refine Below.setCell ?_ (by simp <;> omega) _)
    exact unhide B1
  | true =>
    have hQ := unhide YES (by rw [unhide HA]; rfl)
    rw [hQ]
    have g := unhide HGG rfl
    obtain ⟨m0, m1⟩ := unhide HM rfl
    obtain ⟨r1, r2⟩ := rd_is g m0
    have gE := (rd_good g m0).1
    have HOW := hide (fun a' c' V (r : Rd pieceK V a' (rdE D most).P) => implOI (rdE D most) a' c' V (good_small gE).1 (good_small gE).2 r)
    have hso : (rdO D most).size ≤ 4000 := by have := (rd_good g m0).2.2; omega
    have HCL := hide (cln5 (rdO D most) (by omega))
    have HPS := hide (fun V (b : Below W.heap.size W V) => implPs D.P (D.re + (rdO D most).size) V a c (by have := g.n; omega) (fun p hp => ⟨by have := can_lo g.can p hp; have := g.r0; omega, by have := (g.hi p hp).1; have := g.l1; omega⟩) (by have := g.r0; omega) (by have := g.r1; have := g.l1; omega) (unhide HR V b))
    have hre0 := g.r0
    have hre1 := g.r1
    have hli := g.l1
    have htx : (rtT D).size ≤ 1099511627776 := by
      have hsm := good_small g
      unfold rtT
      cases hP : D.P with
      | nil => exact Nat.zero_le _
      | cons p Q =>
        dsimp only
        split
        · have := hsm.2 p (by rw [hP]; exact List.mem_cons_self); omega
        · exact Nat.zero_le _
    rw [r2] at HOW
    rw [r2]
    have HO := hide r1
    clear hQ NO YES HA HM HGG g r1 r2 gE HR
    generalize rdO D most = so at *
    generalize rtT D = tx at *
    generalize psL D.P (D.re + (so.size : Int)) = L9 at *
    obtain ⟨n9, hn9⟩ : ∃ n : Nat, n = if most < (tx.size : Int) then most.toNat else tx.size := ⟨_, rfl⟩
    rw [← hn9] at HO
    have hmin : (min most (tx.size : Int)).toNat = n9 := by rw [hn9]; split <;> omega
    have hn8 : n9 ≤ tx.size := by rw [hn9]; split <;> omega
    clear hn9
    obtain ⟨li, re, fi, P⟩ := D
    dsimp only at *
    have d1 : (0 : Int) ≤ (n9 : Int) := by omega
    have d2 : (n9 : Int) ≤ (tx.size : Int) := by omega
    have d3 : ((n9 : Int)).toNat = n9 := rfl
    have q1 : IntKind.i64.wrap (n9 : Int) = (n9 : Int) := by rw [IntKind.wrap_i64]; omega
    have q2 : IntKind.i64.wrap (re + (so.size : Int)) = re + (so.size : Int) := by rw [IntKind.wrap_i64]; omega
    have HMIN := hide hmin
    clear hmin
    go_enter Try.func34, Try.ntmps34
    go_upto_region 1 with fail
    rw [← unhide HV0]
    clear HV0
    go_wp2_with fail
    refine (unhide HGI).mono ?_
    rintro e w1 ⟨rfl, b1⟩
    have A1 := hide ((unhide A0).below b1)
    have R1 := hide ((unhide R0).below b1)
    have B1 := hide ((unhide B0).trans (b1.mono (unhide B0).size))
    clear b1 x0 x0l A0 R0 B0 HGI
    have x1 := (unhide A1).cv
    have x1l := (unhide A1).lt
    go_upto_region 3 with (go_at_call 23; (with_reducible refine (unhide HGB _).mono ?_); rintro e w9 ⟨rfl, h9⟩; rw [h9]; clear h9 w9)
    go_wp2_with fail
    refine (unhide HRB _ (unhide B1)).mono ?_
    rintro e w2 ⟨rfl, b2⟩
    have A2 := hide ((unhide A1).below b2)
    have R2 := hide ((unhide R1).below b2)
    have B2 := hide ((unhide B1).trans (b2.mono (unhide B1).size))
    clear b2 x1 x1l A1 R1 B1 HRB
    go_upto_region 5 with fail
    rw [unhide HMIN, ← unhide HO]
    clear HMIN HO d1 d2 d3 q1
    obtain ⟨V3, hV3⟩ : ∃ V, V = w2.setCell ⟨W.heap.size, 1, none⟩ (.int .i64 (re + (so.size : Int))) := ⟨_, rfl⟩
    have A3 := hide (show Bx V3 W.heap.size [.int .i64 li, .int .i64 (re + (so.size : Int)), .int .i64 fi, .slice a P.length c] by rw [hV3]; exact (unhide A2).set (i := 1) (by simp))
    have R3 := hide (show Bx V3 (W.heap.size + 1) inflowZ by rw [hV3]; exact (unhide R2).other (by omega))
    have B3 := hide (show Below W.heap.size W V3 by rw [hV3]; exact (unhide B2).setCell (Nat.le_refl _) _)
    have HV3 := hide hV3
    have z2 := (unhide A2).cv
    have z2f := (unhide A2).fz
    have z2l := (unhide A2).lt
    clear hV3 A2 R2 B2
    go_upto_region 6 with fail
    rw [← unhide HV3]
    clear HV3 z2 z2f z2l
    have x3 := (unhide A3).cv
    have x3l := (unhide A3).lt
    go_wp2_with fail
    refine (unhide HPS _ (unhide B3)).mono ?_
    rintro e w4 ⟨a4, c4, rfl, o4, b4⟩
    have A4 := (unhide A3).below b4
    have R4 := (unhide R3).below b4
    have B4 := (unhide B3).trans (b4.mono (unhide B3).size)
    have s3 := (unhide R3).lt
    obtain ⟨V5, hV5⟩ : ∃ V, V = w4.setCell ⟨W.heap.size, 3, none⟩ (.slice a4 L9.length c4) := ⟨_, rfl⟩
    have k5 : Kq (fun q => q = W.heap.size) w4 V5 := by rw [hV5]; exact (Kq.refl _ _).set rfl
    have A5 := hide (show Bx V5 W.heap.size [.int .i64 li, .int .i64 (re + (so.size : Int)), .int .i64 fi, .slice a4 L9.length c4] by rw [hV5]; exact A4.set (i := 3) (by simp))
    have R5 := hide (show Bx V5 (W.heap.size + 1) inflowZ by rw [hV5]; exact R4.other (by omega))
    have B5 := hide (show Below W.heap.size W V5 by rw [hV5]; exact B4.setCell (Nat.le_refl _) _)
    have O5 := o4.kq k5 (fun q hq => by omega)
    have HOI := hide (unhide HOW a4 c4 V5 O5.rix.1.rd)
    have HV5 := hide hV5
    have z4 := A4.cv
    have z4f := A4.fz
    have z4l := A4.lt
    clear hV5 k5 A4 R4 B4 O5 o4 b4 A3 R3 B3 HPS HOW
    go_upto_region 7 with fail
    rw [← unhide HV5]
    clear HV5 z4 z4f z4l x3 x3l
    have x5 := (unhide A5).cv
    have x5l := (unhide A5).lt
    have s5 := (unhide R5).lt
    have sz5 := (unhide B5).size
    go_wp2_with fail
    refine (unhide HOI).mono ?_
    rintro e w6 ⟨a6, c6, rfl, o6, b6⟩
    have R6 := hide ((unhide R5).below b6)
    have B6 := hide ((unhide B5).trans (b6.mono (unhide B5).size))
    have O6 := hide o6
    clear o6 b6 x5 x5l A5 R5 B5 HOI
    go_wp2_with fail
    refine (unhide HCL _).mono ?_
    rintro e w7 ⟨rfl, b7⟩
    have R7 := hide ((unhide R6).below b7)
    have B7 := hide ((unhide B6).trans (b7.mono (unhide B6).size))
    have O7 := hide ((unhide O6).below b7)
    have y7 := (unhide R7).cv
    have y7f := (unhide R7).fz
    have y7l := (unhide R7).lt
    have F4 := hide (st4q (unhide R7) (.int .i64 li) (.int .i64 (re + (so.size : Int))) (.int .i64 fi) (.slice a6 L9.length c6))
    have O8 := hide (((unhide O7).kq (unhide F4).2 (fun q hq => by omega)).mono sz5)
    have B8 := hide ((unhide B7).trans ((unhide F4).2.below (base := W.heap.size) (by have := (unhide R7).lt; omega) (fun q hq => by omega)))
    have c1 := (unhide F4).1.cv
    clear b7 R6 B6 O6
    go_wp2
    refine bodyPost_ret (v := .tuple #[.agg #[.int .i64 li, .int .i64 (re + (so.size : Int)), .int .i64 fi, .slice a6 L9.length c6], .string so, .bool true]) (by simp [results, Try.results34, go_sem, c1]) rfl ⟨a6, c6, rfl, unhide O8, unhide B8⟩
end Go.Proofs.Ytmicpknilhiliaa.Rc
