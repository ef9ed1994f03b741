/-
  Contracts of the program: a list of packets parted in two, by either of the two closures of TakeAck.
-/
import Derived.Test.YtccfbkpelehldaaTah
import Derived.Test.YtccfbkpelehldaaInr
import Derived.Test.YtccfbkpelehldaaGoodSpaceI
namespace Go.Proofs.Ytccfbkpelehldaa.Rc
open Go.ChangeShapes Go.WideShapes Go.ChangeAt Go.RowKit Go.Deep
set_option linter.unusedVariables false
set_option maxRecDepth 100000

/-- the first closure -/
theorem cl1 (x : SentD) (p : Nat) (aL : Option Addr) (cL : Nat) (L : List RangeD) (w : World) (hm : L.length ≤ 1048576) (hp : Bx w p [.slice aL L.length cL]) (h : Rd rangeK w aL L) :
    Calls Try.prog 18 #[sentV x, .pointer (some ⟨p, 0, none⟩)] w fun e w' => e = .returned (.bool (hasB L x.f0)) ∧ Below w.heap.size w w' := by
  obtain ⟨V, hV⟩ : ∃ V, V = w.alloc (.cells (sentC x).toArray 37) := ⟨_, rfl⟩
  have hA : Below w.heap.size w V := by rw [hV]; exact (Below.refl _ _).alloc (Nat.le_refl _) _
  have X := (show Bx V w.heap.size (sentC x) by rw [hV]; exact Bx.new w _ _)
  have HI := hide (implIn aL cL L x.f0 V hm (h.below hA))
  have pc := (hp.below hA).cv
  have pl := (hp.below hA).lt
  have xc := X.cv
  have HA := hide hA
  have HV := hide hV
  obtain ⟨x0, x1, x2⟩ := x
  clear hA hV X h hp
  go_enter Try.func18, Try.ntmps18
  go_upto_region 1 with fail
  rw [← unhide HV]
  clear HV
  go_wp2_with fail
  refine (unhide HI).mono ?_
  rintro e w1 ⟨rfl, b1⟩
  have HB := hide ((unhide HA).trans (b1.mono (unhide HA).size))
  clear b1
  go_wp2
  go_ret
  exact ⟨rfl, unhide HB⟩
/-- the second one -/
theorem cl2 (x : SentD) (p q : Nat) (D : SpaceD) (a : Option Addr) (c : Nat) (now : Int) (w : World) (hr : rtB D.r = true) (g0 : -1 ≤ D.lg) (g1 : D.lg ≤ 9223372036854775807) (n0 : 0 ≤ now) (n1 : now ≤ 1000000000) (hp : Bx w p (spaceC D a c)) (hq : Bx w q [.int .i64 now]) :
    Calls Try.prog 21 #[sentV x, .pointer (some ⟨p, 0, none⟩), .pointer (some ⟨q, 0, none⟩)] w fun e w' => e = .returned (.bool (loB D.lg now D.r x)) ∧ Below w.heap.size w w' := by
  obtain ⟨V, hV⟩ : ∃ V, V = w.alloc (.cells (sentC x).toArray 37) := ⟨_, rfl⟩
  have hA : Below w.heap.size w V := by rw [hV]; exact (Below.refl _ _).alloc (Nat.le_refl _) _
  have X := (show Bx V w.heap.size (sentC x) by rw [hV]; exact Bx.new w _ _)
  have HI := hide (implLo D a c x now V hr g0 g1 n0 n1)
  have pc := (hp.below hA).cv
  have pl := (hp.below hA).lt
  have qc := (hq.below hA).cv
  have ql := (hq.below hA).lt
  have xc := X.cv
  have xl := X.lt
  have HA := hide hA
  have HV := hide hV
  obtain ⟨x0, x1, x2⟩ := x
  clear hA hV X hp hq hr
  go_enter Try.func21, Try.ntmps21
  go_upto_region 1 with fail
  rw [← unhide HV]
  clear HV
  go_wp2_with fail
  refine (unhide HI).mono ?_
  rintro e w1 ⟨rfl, b1⟩
  have HB := hide ((unhide HA).trans (b1.mono (unhide HA).size))
  clear b1
  go_wp2
  go_ret
  exact ⟨rfl, unhide HB⟩
/-- two rows that lie apart stay so when the second grows -/
def PTP (p : SentD → Bool) (M : List SentD) (w : World) (e : Ending) (w' : World) : Prop :=
  ∃ v1 v2, e = .returned (.tuple #[.agg #[v1], .agg #[v2]]) ∧ Ro sentK 37 w.heap.size w' v1 (M.filter p) ∧ Ro sentK 37 w.heap.size w' v2 (M.filter fun x => !p x) ∧ Dj v1 v2 ∧ Below w.heap.size w w'
set_option maxHeartbeats 8000000 in
theorem parted1 (p : SentD → Bool) (g : Nat) (a : Option Addr) (c : Nat) (M : List SentD) (w : World) (pl : Nat) (hn : M.length ≤ 1000) (hx : Bx w g [.slice a M.length c]) (h : Rd sentK w a M)
    (HC : ∀ V, Below w.heap.size w V → ∀ x, Calls Try.prog 18 #[sentV x, .pointer (some ⟨pl, 0, none⟩)] V fun e w' => e = .returned (.bool (p x)) ∧ Below V.heap.size V w') :
    Calls Try.prog 17 #[.pointer (some ⟨g, 0, none⟩), .func (.func 18) #[] #[.pointer (some ⟨pl, 0, none⟩)]] w (PTP p M w) := by
  obtain ⟨V0, hV0⟩ : ∃ V, V = (((w.alloc (.cells #[.slice none 0 0] 55)).alloc (.cells #[.slice none 0 0] 55)).alloc (.cells #[.slice none 0 0] 55)).alloc (.cells #[.slice none 0 0] 55) := ⟨_, rfl⟩
  have P4 := hide (show Bx V0 w.heap.size [.slice none 0 0] by rw [hV0]; exact (((Bx.new w _ _).alloc _).alloc _).alloc _)
  have P5 := hide (show Bx V0 (w.heap.size + 1) [.slice none 0 0] by rw [hV0]; exact ((Bx.newAt (w.alloc _) _ _ _ (by simp)).alloc _).alloc _)
  have P6 := hide (show Bx V0 (w.heap.size + 1 + 1) [.slice none 0 0] by rw [hV0]; exact (Bx.newAt ((w.alloc _).alloc _) _ _ _ (by simp)).alloc _)
  have P7 := hide (show Bx V0 (w.heap.size + 1 + 1 + 1) [.slice none 0 0] by rw [hV0]; exact Bx.newAt (((w.alloc _).alloc _).alloc _) _ _ _ (by simp))
  have B0 := hide (show Below w.heap.size w V0 by rw [hV0]; exact ((((Below.refl w.heap.size w).alloc (Nat.le_refl _) _).alloc (by simp) _).alloc (by simp; omega) _).alloc (by simp; omega) _)
  have HX := hide hx
  have HR := hide h
  have HHC := hide HC
  have gx := (hx.below (unhide B0)).cv
  have gl := (hx.below (unhide B0)).lt
  have HV0 := hide hV0
  have O1 := hide (Ro.nil sentK 37 (w.heap.size + 4) V0)
  have O2 := hide (Ro.nil sentK 37 (w.heap.size + 4) V0)
  clear hx h HC hV0
  go_enter Try.func17, Try.ntmps17
  go_upto_region 2 with fail
  rw [← unhide HV0]
  clear HV0
  go_wp2_with fail
  go_loopw [15] (fun iv wr => ∃ (k : Nat) (v1 v2 : Value), k ≤ M.length ∧ iv = .int .i64 k ∧ Hid (Bx wr (w.heap.size + 1 + 1) [v1]) ∧ Hid (Bx wr (w.heap.size + 1 + 1 + 1) [v2]) ∧ Hid (Ro sentK 37 (w.heap.size + 4) wr v1 ((M.take k).filter p)) ∧ Hid (Ro sentK 37 (w.heap.size + 4) wr v2 ((M.take k).filter fun x => !p x)) ∧ Hid (Dj v1 v2) ∧ Hid (Bx wr w.heap.size [.slice none 0 0]) ∧ Hid (Bx wr (w.heap.size + 1) [.slice none 0 0]) ∧ Hid (Below w.heap.size w wr)) (fun iv _ => M.length - (intOf iv).toNat)
  case atStart => exact ⟨0, _, _, Nat.zero_le _, rfl, P6, P7, O1, O2, Dj.nil _, P4, P5, B0⟩
  case round =>
    obtain ⟨k, v1, v2, hk, rfl, h6, h7, h1, h2, hdj, h4, h5, hB⟩ := hrel
    clear P4 P5 P6 P7 O1 O2 B0 gx gl
    have s7 : w.heap.size + 1 + 1 + 1 < wr.heap.size := (unhide h7).lt
    by_cases hlt : k < M.length
    · rcases (unhide HR).below (unhide hB) with h9 | ⟨b, o, rfl, _, hel⟩
      · rw [h9] at hlt; exact absurd hlt (Nat.not_lt_zero _)
      have c0 := sent_r0 hel hlt
      have c1 := sent_r1 hel hlt
      have c2 := sent_r2 hel hlt
      have PA1 : p (gt sentK M k) = true → (M.take (k + 1)).filter p = (M.take k).filter p ++ [gt sentK M k] := fun h => fil_yes hlt h
      have PA0 : p (gt sentK M k) = false → (M.take (k + 1)).filter p = (M.take k).filter p := fun h => fil_no hlt h
      have PL1 : p (gt sentK M k) = false → (M.take (k + 1)).filter (fun x => !p x) = (M.take k).filter (fun x => !p x) ++ [gt sentK M k] := fun h => fil_yes (p := fun x => !p x) hlt (by show (!p (gt sentK M k)) = true; rw [h]; rfl)
      have PL0 : p (gt sentK M k) = true → (M.take (k + 1)).filter (fun x => !p x) = (M.take k).filter (fun x => !p x) := fun h => fil_no (p := fun x => !p x) hlt (by show (!p (gt sentK M k)) = false; rw [h]; rfl)
      have nA : ((M.take k).filter p).length ≤ 1000 := by
        have h1 := List.length_filter_le p (M.take k)
        have h2 := List.length_take_le k M
        omega
      have nL : ((M.take k).filter (fun x => !p x)).length ≤ 1000 := by
        have h1 := List.length_filter_le (fun x : SentD => !p x) (M.take k)
        have h2 := List.length_take_le k M
        omega
      generalize (M.take k).filter p = Ak at *
      generalize (M.take k).filter (fun x => !p x) = Lk at *
      generalize gt sentK M k = x at *
      obtain ⟨x0, x1, x2⟩ := x
      obtain ⟨W1, hW1⟩ : ∃ V, V = wr.alloc (.cells #[.int .i64 x0, .int .i64 x1, .int .i64 x2] 37) := ⟨_, rfl⟩
      have hAl : Below wr.heap.size wr W1 := by rw [hW1]; exact (Below.refl _ _).alloc (Nat.le_refl _) _
      have Y1 := hide (show Bx W1 wr.heap.size (sentC ⟨x0, x1, x2⟩) by rw [hW1]; exact Bx.new wr _ _)
      have B1 := hide ((unhide hB).trans (hAl.mono (unhide hB).size))
      have HCx := hide (unhide HHC W1 (unhide B1) ⟨x0, x1, x2⟩)
      have y1 := (unhide Y1).cv
      have y1l := (unhide Y1).lt
      have q1 := fun q hq => (unhide h1).ob q hq
      have q2 := fun q hq => (unhide h2).ob q hq
      have HAl := hide hAl
      have HW1 := hide hW1
      have hnk : (k : Int) < (M.length : Int) := by omega
      have hk0 : (0 : Int) ≤ (k : Int) := by omega
      clear hAl hW1 hel
      go_upto_region 5 with fail
      rw [← unhide HW1]
      clear HW1
      go_wp2_with fail
      refine (unhide HCx).mono ?_
      rintro e w2 ⟨rfl, b2⟩
      have bb := (unhide HAl).trans (b2.mono (unhide HAl).size)
      have s2 := bb.size
      have X4 := (unhide h4).below bb
      have X5 := (unhide h5).below bb
      have X6 := (unhide h6).below bb
      have X7 := (unhide h7).below bb
      have o1 := (unhide h1).below bb
      have o2 := (unhide h2).below bb
      have Y2 := (unhide Y1).below b2
      have y2 := Y2.cv
      have y2l := Y2.lt
      have B2 := (unhide hB).trans (bb.mono (unhide hB).size)
      have hDj := unhide hdj
      clear b2 HCx Y1 Y2 B1 y1 y1l c0 c1 c2 h1 h2 h4 h5 h6 h7 hB hdj HAl
      cases hb : p ⟨x0, x1, x2⟩ with
      | true =>
        have HP := hide (putGSent (w.heap.size + 1 + 1) (w.heap.size + 4) v1 Ak ⟨x0, x1, x2⟩ w2 (by omega) (by omega) X6 o1 (fun e => by have := (q1 _ e).1; omega))
        have HF := hide (And.intro X4 (And.intro X5 (And.intro X7 (And.intro o1 (And.intro o2 B2)))))
        have HQ := hide (And.intro q1 (And.intro q2 hDj))
        clear X4 X5 X6 X7 o1 o2 B2 q1 q2 hDj bb
        go_wp2_with fail
        refine (unhide HP).mono ?_
        rintro e w3 ⟨rfl, v3, x6, o3, hob, kq⟩
        obtain ⟨X4, X5, X7, o1, o2, B2⟩ := unhide HF
        obtain ⟨q1, q2, hDj⟩ := unhide HQ
        have nP : ∀ q, q < w.heap.size + 4 → q ≠ w.heap.size + 1 + 1 → ¬ (q = w.heap.size + 1 + 1 ∨ v1.ownBlock = some q) := fun q h1 h2 e => by
          rcases e with e | e
          · exact h2 e
          · have := (q1 q e).1; omega
        have G4 : Hid (Bx w3 w.heap.size [.slice none 0 0]) := X4.kept kq.size (kq.block _ X4.lt (nP _ (by omega) (by omega)))
        have G5 : Hid (Bx w3 (w.heap.size + 1) [.slice none 0 0]) := X5.kept kq.size (kq.block _ X5.lt (nP _ (by omega) (by omega)))
        have G7 : Hid (Bx w3 (w.heap.size + 1 + 1 + 1) [v2]) := X7.kept kq.size (kq.block _ X7.lt (nP _ (by omega) (by omega)))
        have G6 := hide x6
        have G1 : Hid (Ro sentK 37 (w.heap.size + 4) w3 v3 ((M.take (k + 1)).filter p)) := by
          show Ro _ _ _ _ _ _
          rw [PA1 hb]
          exact o3
        have G2 : Hid (Ro sentK 37 (w.heap.size + 4) w3 v2 ((M.take (k + 1)).filter fun x => !p x)) := by
          show Ro _ _ _ _ _ _
          rw [PL0 hb]
          refine o2.ko kq (fun q hq e => ?_)
          rcases e with e | e
          · have := (q2 q hq).1; omega
          · exact hDj q e hq
        have GD : Hid (Dj v3 v2) := hDj.grow hob (fun q hq => (o2.ob q hq).2)
        have GB : Hid (Below w.heap.size w w3) := B2.trans (kq.below (base := w.heap.size) (by omega) (fun q hq => by
          rcases hq with e | e
          · omega
          · have := (q1 q e).1; omega))
        clear HF HQ HP x6 o3 hob kq X4 X5 X7 o1 o2 B2 q1 q2 hDj nP PA0 PA1 PL0 PL1
        go_wp2
        exact ⟨⟨k + 1, v3, v2, by omega, by go_num, G6, G7, G1, G2, GD, G4, G5, GB⟩, by simp [intOf]; omega⟩
      | false =>
        have HP := hide (putGSent (w.heap.size + 1 + 1 + 1) (w.heap.size + 4) v2 Lk ⟨x0, x1, x2⟩ w2 (by omega) (by omega) X7 o2 (fun e => by have := (q2 _ e).1; omega))
        have HF := hide (And.intro X4 (And.intro X5 (And.intro X6 (And.intro o1 (And.intro o2 B2)))))
        have HQ := hide (And.intro q1 (And.intro q2 hDj))
        clear X4 X5 X6 X7 o1 o2 B2 q1 q2 hDj bb
        go_wp2_with fail
        refine (unhide HP).mono ?_
        rintro e w3 ⟨rfl, v3, x7, o3, hob, kq⟩
        obtain ⟨X4, X5, X6, o1, o2, B2⟩ := unhide HF
        obtain ⟨q1, q2, hDj⟩ := unhide HQ
        have nP : ∀ q, q < w.heap.size + 4 → q ≠ w.heap.size + 1 + 1 + 1 → ¬ (q = w.heap.size + 1 + 1 + 1 ∨ v2.ownBlock = some q) := fun q h1 h2 e => by
          rcases e with e | e
          · exact h2 e
          · have := (q2 q e).1; omega
        have G4 : Hid (Bx w3 w.heap.size [.slice none 0 0]) := X4.kept kq.size (kq.block _ X4.lt (nP _ (by omega) (by omega)))
        have G5 : Hid (Bx w3 (w.heap.size + 1) [.slice none 0 0]) := X5.kept kq.size (kq.block _ X5.lt (nP _ (by omega) (by omega)))
        have G6 : Hid (Bx w3 (w.heap.size + 1 + 1) [v1]) := X6.kept kq.size (kq.block _ X6.lt (nP _ (by omega) (by omega)))
        have G7 := hide x7
        have G2 : Hid (Ro sentK 37 (w.heap.size + 4) w3 v3 ((M.take (k + 1)).filter fun x => !p x)) := by
          show Ro _ _ _ _ _ _
          rw [PL1 hb]
          exact o3
        have G1 : Hid (Ro sentK 37 (w.heap.size + 4) w3 v1 ((M.take (k + 1)).filter p)) := by
          show Ro _ _ _ _ _ _
          rw [PA0 hb]
          refine o1.ko kq (fun q hq e => ?_)
          rcases e with e | e
          · have := (q1 q hq).1; omega
          · exact hDj q hq e
        have GD : Hid (Dj v1 v3) := (hDj.symm.grow hob (fun q hq => (o1.ob q hq).2)).symm
        have GB : Hid (Below w.heap.size w w3) := B2.trans (kq.below (base := w.heap.size) (by omega) (fun q hq => by
          rcases hq with e | e
          · omega
          · have := (q2 q e).1; omega))
        clear HF HQ HP x7 o3 hob kq X4 X5 X6 o1 o2 B2 q1 q2 hDj nP PA0 PA1 PL0 PL1
        go_wp2
        exact ⟨⟨k + 1, v1, v3, by omega, by go_num, G6, G7, G1, G2, GD, G4, G5, GB⟩, by simp [intOf]; omega⟩
    · obtain rfl : k = M.length := by omega
      rw [List.take_length] at h1 h2
      have x6 := (unhide h6).cv
      have x7 := (unhide h7).cv
      have x4 := (unhide h4).cv
      have x4f := (unhide h4).fz
      have x4l := (unhide h4).lt
      have x5 := (unhide h5).cv
      have x5f := (unhide h5).fz
      have x5l := (unhide h5).lt
      have x6l := (unhide h6).lt
      obtain ⟨a1, c1, e1⟩ := (unhide h1).opens
      obtain ⟨a2, c2, e2⟩ := (unhide h2).opens
      have FIN : Hid (∀ U, Kq (fun q => q = w.heap.size ∨ q = w.heap.size + 1) wr U → PTP p M w (.returned (.tuple #[.agg #[v1], .agg #[v2]])) U) := fun U k => ⟨v1, v2, rfl, ((unhide h1).kq k (fun q hq => by omega)).mono (by omega), ((unhide h2).kq k (fun q hq => by omega)).mono (by omega), unhide hdj, (unhide hB).trans (k.below (base := w.heap.size) (by omega) (fun q hq => by omega))⟩
      subst e1
      subst e2
      have hd : wr.drew.heap.size = wr.heap.size := World.size_drew _
      clear h1 h2 h4 h5 h6 h7 hdj hB HHC HR HX
      go_upto_region 9 with fail
      go_region
      all_goals
        go_wp2
        refine bodyPost_ret (v := .tuple #[.agg #[.slice a1 (M.filter p).length c1], .agg #[.slice a2 (M.filter fun x => !p x).length c2]]) (by simp [results, Try.results17, go_sem, x4, x5]) rfl (unhide FIN _ ?_)
        first
        | exact (((Kq.of (Below.refl wr.heap.size wr).drew).set (Or.inl rfl)).set (Or.inr rfl))
        | exact (((Kq.of (Below.refl wr.heap.size wr).drew).set (Or.inr rfl)).set (Or.inl rfl))
set_option maxHeartbeats 8000000 in
theorem parted2 (p : SentD → Bool) (g : Nat) (a : Option Addr) (c : Nat) (M : List SentD) (w : World) (pl ql : Nat) (hn : M.length ≤ 1000) (hx : Bx w g [.slice a M.length c]) (h : Rd sentK w a M)
    (HC : ∀ V, Below w.heap.size w V → ∀ x, Calls Try.prog 21 #[sentV x, .pointer (some ⟨pl, 0, none⟩), .pointer (some ⟨ql, 0, none⟩)] V fun e w' => e = .returned (.bool (p x)) ∧ Below V.heap.size V w') :
    Calls Try.prog 17 #[.pointer (some ⟨g, 0, none⟩), .func (.func 21) #[] #[.pointer (some ⟨pl, 0, none⟩), .pointer (some ⟨ql, 0, none⟩)]] w (PTP p M w) := by
  obtain ⟨V0, hV0⟩ : ∃ V, V = (((w.alloc (.cells #[.slice none 0 0] 55)).alloc (.cells #[.slice none 0 0] 55)).alloc (.cells #[.slice none 0 0] 55)).alloc (.cells #[.slice none 0 0] 55) := ⟨_, rfl⟩
  have P4 := hide (show Bx V0 w.heap.size [.slice none 0 0] by rw [hV0]; exact (((Bx.new w _ _).alloc _).alloc _).alloc _)
  have P5 := hide (show Bx V0 (w.heap.size + 1) [.slice none 0 0] by rw [hV0]; exact ((Bx.newAt (w.alloc _) _ _ _ (by simp)).alloc _).alloc _)
  have P6 := hide (show Bx V0 (w.heap.size + 1 + 1) [.slice none 0 0] by rw [hV0]; exact (Bx.newAt ((w.alloc _).alloc _) _ _ _ (by simp)).alloc _)
  have P7 := hide (show Bx V0 (w.heap.size + 1 + 1 + 1) [.slice none 0 0] by rw [hV0]; exact Bx.newAt (((w.alloc _).alloc _).alloc _) _ _ _ (by simp))
  have B0 := hide (show Below w.heap.size w V0 by rw [hV0]; exact ((((Below.refl w.heap.size w).alloc (Nat.le_refl _) _).alloc (by simp) _).alloc (by simp; omega) _).alloc (by simp; omega) _)
  have HX := hide hx
  have HR := hide h
  have HHC := hide HC
  have gx := (hx.below (unhide B0)).cv
  have gl := (hx.below (unhide B0)).lt
  have HV0 := hide hV0
  have O1 := hide (Ro.nil sentK 37 (w.heap.size + 4) V0)
  have O2 := hide (Ro.nil sentK 37 (w.heap.size + 4) V0)
  clear hx h HC hV0
  go_enter Try.func17, Try.ntmps17
  go_upto_region 2 with fail
  rw [← unhide HV0]
  clear HV0
  go_wp2_with fail
  go_loopw [15] (fun iv wr => ∃ (k : Nat) (v1 v2 : Value), k ≤ M.length ∧ iv = .int .i64 k ∧ Hid (Bx wr (w.heap.size + 1 + 1) [v1]) ∧ Hid (Bx wr (w.heap.size + 1 + 1 + 1) [v2]) ∧ Hid (Ro sentK 37 (w.heap.size + 4) wr v1 ((M.take k).filter p)) ∧ Hid (Ro sentK 37 (w.heap.size + 4) wr v2 ((M.take k).filter fun x => !p x)) ∧ Hid (Dj v1 v2) ∧ Hid (Bx wr w.heap.size [.slice none 0 0]) ∧ Hid (Bx wr (w.heap.size + 1) [.slice none 0 0]) ∧ Hid (Below w.heap.size w wr)) (fun iv _ => M.length - (intOf iv).toNat)
  case atStart => exact ⟨0, _, _, Nat.zero_le _, rfl, P6, P7, O1, O2, Dj.nil _, P4, P5, B0⟩
  case round =>
    obtain ⟨k, v1, v2, hk, rfl, h6, h7, h1, h2, hdj, h4, h5, hB⟩ := hrel
    clear P4 P5 P6 P7 O1 O2 B0 gx gl
    have s7 : w.heap.size + 1 + 1 + 1 < wr.heap.size := (unhide h7).lt
    by_cases hlt : k < M.length
    · rcases (unhide HR).below (unhide hB) with h9 | ⟨b, o, rfl, _, hel⟩
      · rw [h9] at hlt; exact absurd hlt (Nat.not_lt_zero _)
      have c0 := sent_r0 hel hlt
      have c1 := sent_r1 hel hlt
      have c2 := sent_r2 hel hlt
      have PA1 : p (gt sentK M k) = true → (M.take (k + 1)).filter p = (M.take k).filter p ++ [gt sentK M k] := fun h => fil_yes hlt h
      have PA0 : p (gt sentK M k) = false → (M.take (k + 1)).filter p = (M.take k).filter p := fun h => fil_no hlt h
      have PL1 : p (gt sentK M k) = false → (M.take (k + 1)).filter (fun x => !p x) = (M.take k).filter (fun x => !p x) ++ [gt sentK M k] := fun h => fil_yes (p := fun x => !p x) hlt (by show (!p (gt sentK M k)) = true; rw [h]; rfl)
      have PL0 : p (gt sentK M k) = true → (M.take (k + 1)).filter (fun x => !p x) = (M.take k).filter (fun x => !p x) := fun h => fil_no (p := fun x => !p x) hlt (by show (!p (gt sentK M k)) = false; rw [h]; rfl)
      have nA : ((M.take k).filter p).length ≤ 1000 := by
        have h1 := List.length_filter_le p (M.take k)
        have h2 := List.length_take_le k M
        omega
      have nL : ((M.take k).filter (fun x => !p x)).length ≤ 1000 := by
        have h1 := List.length_filter_le (fun x : SentD => !p x) (M.take k)
        have h2 := List.length_take_le k M
        omega
      generalize (M.take k).filter p = Ak at *
      generalize (M.take k).filter (fun x => !p x) = Lk at *
      generalize gt sentK M k = x at *
      obtain ⟨x0, x1, x2⟩ := x
      obtain ⟨W1, hW1⟩ : ∃ V, V = wr.alloc (.cells #[.int .i64 x0, .int .i64 x1, .int .i64 x2] 37) := ⟨_, rfl⟩
      have hAl : Below wr.heap.size wr W1 := by rw [hW1]; exact (Below.refl _ _).alloc (Nat.le_refl _) _
      have Y1 := hide (show Bx W1 wr.heap.size (sentC ⟨x0, x1, x2⟩) by rw [hW1]; exact Bx.new wr _ _)
      have B1 := hide ((unhide hB).trans (hAl.mono (unhide hB).size))
      have HCx := hide (unhide HHC W1 (unhide B1) ⟨x0, x1, x2⟩)
      have y1 := (unhide Y1).cv
      have y1l := (unhide Y1).lt
      have q1 := fun q hq => (unhide h1).ob q hq
      have q2 := fun q hq => (unhide h2).ob q hq
      have HAl := hide hAl
      have HW1 := hide hW1
      have hnk : (k : Int) < (M.length : Int) := by omega
      have hk0 : (0 : Int) ≤ (k : Int) := by omega
      clear hAl hW1 hel
      go_upto_region 5 with fail
      rw [← unhide HW1]
      clear HW1
      go_wp2_with fail
      refine (unhide HCx).mono ?_
      rintro e w2 ⟨rfl, b2⟩
      have bb := (unhide HAl).trans (b2.mono (unhide HAl).size)
      have s2 := bb.size
      have X4 := (unhide h4).below bb
      have X5 := (unhide h5).below bb
      have X6 := (unhide h6).below bb
      have X7 := (unhide h7).below bb
      have o1 := (unhide h1).below bb
      have o2 := (unhide h2).below bb
      have Y2 := (unhide Y1).below b2
      have y2 := Y2.cv
      have y2l := Y2.lt
      have B2 := (unhide hB).trans (bb.mono (unhide hB).size)
      have hDj := unhide hdj
      clear b2 HCx Y1 Y2 B1 y1 y1l c0 c1 c2 h1 h2 h4 h5 h6 h7 hB hdj HAl
      cases hb : p ⟨x0, x1, x2⟩ with
      | true =>
        have HP := hide (putGSent (w.heap.size + 1 + 1) (w.heap.size + 4) v1 Ak ⟨x0, x1, x2⟩ w2 (by omega) (by omega) X6 o1 (fun e => by have := (q1 _ e).1; omega))
        have HF := hide (And.intro X4 (And.intro X5 (And.intro X7 (And.intro o1 (And.intro o2 B2)))))
        have HQ := hide (And.intro q1 (And.intro q2 hDj))
        clear X4 X5 X6 X7 o1 o2 B2 q1 q2 hDj bb
        go_wp2_with fail
        refine (unhide HP).mono ?_
        rintro e w3 ⟨rfl, v3, x6, o3, hob, kq⟩
        obtain ⟨X4, X5, X7, o1, o2, B2⟩ := unhide HF
        obtain ⟨q1, q2, hDj⟩ := unhide HQ
        have nP : ∀ q, q < w.heap.size + 4 → q ≠ w.heap.size + 1 + 1 → ¬ (q = w.heap.size + 1 + 1 ∨ v1.ownBlock = some q) := fun q h1 h2 e => by
          rcases e with e | e
          · exact h2 e
          · have := (q1 q e).1; omega
        have G4 : Hid (Bx w3 w.heap.size [.slice none 0 0]) := X4.kept kq.size (kq.block _ X4.lt (nP _ (by omega) (by omega)))
        have G5 : Hid (Bx w3 (w.heap.size + 1) [.slice none 0 0]) := X5.kept kq.size (kq.block _ X5.lt (nP _ (by omega) (by omega)))
        have G7 : Hid (Bx w3 (w.heap.size + 1 + 1 + 1) [v2]) := X7.kept kq.size (kq.block _ X7.lt (nP _ (by omega) (by omega)))
        have G6 := hide x6
        have G1 : Hid (Ro sentK 37 (w.heap.size + 4) w3 v3 ((M.take (k + 1)).filter p)) := by
          show Ro _ _ _ _ _ _
          rw [PA1 hb]
          exact o3
        have G2 : Hid (Ro sentK 37 (w.heap.size + 4) w3 v2 ((M.take (k + 1)).filter fun x => !p x)) := by
          show Ro _ _ _ _ _ _
          rw [PL0 hb]
          refine o2.ko kq (fun q hq e => ?_)
          rcases e with e | e
          · have := (q2 q hq).1; omega
          · exact hDj q e hq
        have GD : Hid (Dj v3 v2) := hDj.grow hob (fun q hq => (o2.ob q hq).2)
        have GB : Hid (Below w.heap.size w w3) := B2.trans (kq.below (base := w.heap.size) (by omega) (fun q hq => by
          rcases hq with e | e
          · omega
          · have := (q1 q e).1; omega))
        clear HF HQ HP x6 o3 hob kq X4 X5 X7 o1 o2 B2 q1 q2 hDj nP PA0 PA1 PL0 PL1
        go_wp2
        exact ⟨⟨k + 1, v3, v2, by omega, by go_num, G6, G7, G1, G2, GD, G4, G5, GB⟩, by simp [intOf]; omega⟩
      | false =>
        have HP := hide (putGSent (w.heap.size + 1 + 1 + 1) (w.heap.size + 4) v2 Lk ⟨x0, x1, x2⟩ w2 (by omega) (by omega) X7 o2 (fun e => by have := (q2 _ e).1; omega))
        have HF := hide (And.intro X4 (And.intro X5 (And.intro X6 (And.intro o1 (And.intro o2 B2)))))
        have HQ := hide (And.intro q1 (And.intro q2 hDj))
        clear X4 X5 X6 X7 o1 o2 B2 q1 q2 hDj bb
        go_wp2_with fail
        refine (unhide HP).mono ?_
        rintro e w3 ⟨rfl, v3, x7, o3, hob, kq⟩
        obtain ⟨X4, X5, X6, o1, o2, B2⟩ := unhide HF
        obtain ⟨q1, q2, hDj⟩ := unhide HQ
        have nP : ∀ q, q < w.heap.size + 4 → q ≠ w.heap.size + 1 + 1 + 1 → ¬ (q = w.heap.size + 1 + 1 + 1 ∨ v2.ownBlock = some q) := fun q h1 h2 e => by
          rcases e with e | e
          · exact h2 e
          · have := (q2 q e).1; omega
        have G4 : Hid (Bx w3 w.heap.size [.slice none 0 0]) := X4.kept kq.size (kq.block _ X4.lt (nP _ (by omega) (by omega)))
        have G5 : Hid (Bx w3 (w.heap.size + 1) [.slice none 0 0]) := X5.kept kq.size (kq.block _ X5.lt (nP _ (by omega) (by omega)))
        have G6 : Hid (Bx w3 (w.heap.size + 1 + 1) [v1]) := X6.kept kq.size (kq.block _ X6.lt (nP _ (by omega) (by omega)))
        have G7 := hide x7
        have G2 : Hid (Ro sentK 37 (w.heap.size + 4) w3 v3 ((M.take (k + 1)).filter fun x => !p x)) := by
          show Ro _ _ _ _ _ _
          rw [PL1 hb]
          exact o3
        have G1 : Hid (Ro sentK 37 (w.heap.size + 4) w3 v1 ((M.take (k + 1)).filter p)) := by
          show Ro _ _ _ _ _ _
          rw [PA0 hb]
          refine o1.ko kq (fun q hq e => ?_)
          rcases e with e | e
          · have := (q1 q hq).1; omega
          · exact hDj q hq e
        have GD : Hid (Dj v1 v3) := (hDj.symm.grow hob (fun q hq => (o1.ob q hq).2)).symm
        have GB : Hid (Below w.heap.size w w3) := B2.trans (kq.below (base := w.heap.size) (by omega) (fun q hq => by
          rcases hq with e | e
          · omega
          · have := (q2 q e).1; omega))
        clear HF HQ HP x7 o3 hob kq X4 X5 X6 o1 o2 B2 q1 q2 hDj nP PA0 PA1 PL0 PL1
        go_wp2
        exact ⟨⟨k + 1, v1, v3, by omega, by go_num, G6, G7, G1, G2, GD, G4, G5, GB⟩, by simp [intOf]; omega⟩
    · obtain rfl : k = M.length := by omega
      rw [List.take_length] at h1 h2
      have x6 := (unhide h6).cv
      have x7 := (unhide h7).cv
      have x4 := (unhide h4).cv
      have x4f := (unhide h4).fz
      have x4l := (unhide h4).lt
      have x5 := (unhide h5).cv
      have x5f := (unhide h5).fz
      have x5l := (unhide h5).lt
      have x6l := (unhide h6).lt
      obtain ⟨a1, c1, e1⟩ := (unhide h1).opens
      obtain ⟨a2, c2, e2⟩ := (unhide h2).opens
      have FIN : Hid (∀ U, Kq (fun q => q = w.heap.size ∨ q = w.heap.size + 1) wr U → PTP p M w (.returned (.tuple #[.agg #[v1], .agg #[v2]])) U) := fun U k => ⟨v1, v2, rfl, ((unhide h1).kq k (fun q hq => by omega)).mono (by omega), ((unhide h2).kq k (fun q hq => by omega)).mono (by omega), unhide hdj, (unhide hB).trans (k.below (base := w.heap.size) (by omega) (fun q hq => by omega))⟩
      subst e1
      subst e2
      have hd : wr.drew.heap.size = wr.heap.size := World.size_drew _
      clear h1 h2 h4 h5 h6 h7 hdj hB HHC HR HX
      go_upto_region 9 with fail
      go_region
      all_goals
        go_wp2
        refine bodyPost_ret (v := .tuple #[.agg #[.slice a1 (M.filter p).length c1], .agg #[.slice a2 (M.filter fun x => !p x).length c2]]) (by simp [results, Try.results17, go_sem, x4, x5]) rfl (unhide FIN _ ?_)
        first
        | exact (((Kq.of (Below.refl wr.heap.size wr).drew).set (Or.inl rfl)).set (Or.inr rfl))
        | exact (((Kq.of (Below.refl wr.heap.size wr).drew).set (Or.inr rfl)).set (Or.inl rfl))
end Go.Proofs.Ytccfbkpelehldaa.Rc
