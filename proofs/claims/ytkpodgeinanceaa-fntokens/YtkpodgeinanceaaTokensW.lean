/-
  The law on tokens, at drawn keys and addresses, walked.
-/
import Derived.Test.YtkpodgeinanceaaCurX
import Derived.Test.YtkpodgeinanceaaMtkX
import Derived.Test.YtkpodgeinanceaaBxsX
import Derived.Deep.DeepCutAuto
namespace Go.Proofs.Ytkpodgeinanceaa.fnTokens
open Go.ChangeShapes Go.WideShapes Go.ChangeAt Go.RowKit
set_option linter.unusedVariables false
set_option maxRecDepth 100000

theorem checked (a : Option Addr) (m cap : Nat) (F : Nat → ByteArray) (ad tk : ByteArray) (now life : Int) (d : ByteArray) (t : Int) (b : Bool) (c : Int) (hm : m ≤ 2) (hz : ∀ i, i < m → (F i).size ≤ 1048576) (hl : tk.size ≤ 1048576) (had : ad.size ≤ 1048576) (hc : ckW F m ad tk now life d t b c) (w : World) (h : Sa w a m F) :
    Calls Try.prog 8 #[.slice a m cap, .string ad, .string tk, .int .i64 now, .int .i64 life] w fun e w' => e = .returned (.tuple #[mnV d t b, .int .i64 c]) ∧ Below w.heap.size w w' := by
  refine (implCT a m cap F ad tk now life w (by omega) hz hl had h (fun W hc ht hS => fnExactCheckToken.otk a m cap F ad tk W hc.1 hc.2.2.2.2 hc.2.1 ht hS)).mono ?_
  rintro e w' ⟨d', t', b', c', rfl, hc', hb⟩
  obtain ⟨rfl, rfl, rfl, rfl⟩ := ckW_uniq hc hc'
  exact ⟨rfl, hb⟩
theorem one_sa (w : World) (k : ByteArray) (ty : TypeId) : Sa (w.alloc (.cells #[.string k] ty)) (some ⟨w.heap.size, 0, none⟩) 1 (fun _ => k) :=
  Or.inr ⟨w.heap.size, 0, rfl, by simp, fun i hi => by rw [show i = 0 by omega]; simp⟩
theorem two_sa (w : World) (k k2 : ByteArray) (ty : TypeId) : Sa (w.alloc (.cells #[.string k, .string k2] ty)) (some ⟨w.heap.size, 0, none⟩) 2 (fun i => if i = 0 then k else k2) :=
  Or.inr ⟨w.heap.size, 0, rfl, by simp, fun i hi => by
    by_cases h : i = 0
    · rw [h]; simp
    · rw [show i = 1 by omega]; simp⟩
set_option maxHeartbeats 4000000 in
theorem walk_in (a : Option Addr) (N cap : Nat) (b' : Option Addr) (M cap2 : Nat) (w : World) (hN : N + M ≤ 1048576) (hC : Cd w a N) (hC2 : Cd w b' M) :
    Calls Try.prog 4 #[.slice a N cap, .slice b' M cap2] w fun e w' => e = .returned (.bool true) ∧ Below w.heap.size w w' := by
  have HCD := hide hC
  have HCE := hide hC2
  clear hC hC2
  go_enter Try.func4, Try.ntmps4
  go_wp2_with fail
  refine (drawMT_any a N cap _ (by omega) (unhide HCD)).mono ?_
  rintro e w1 ⟨k, n, ad, d, t, bb, rfl, hk, hn, had, hd, ht0, ht1, b1⟩
  have al1 := (Below.refl w1.heap.size w1).alloc (Nat.le_refl _) (.cells #[.string d, .int .i64 t, .bool bb] 25)
  have M1 : Hid (Bx (w1.alloc (.cells #[.string d, .int .i64 t, .bool bb] 25)) w1.heap.size [.string d, .int .i64 t, .bool bb]) := Bx.new w1 _ _
  have B1 := hide (b1.trans (al1.mono b1.size))
  have C1 := hide (((unhide HCE).below b1).below al1)
  clear b1 al1 HCD HCE
  by_cases hok : mtB k.size n.size ad.size d.size t
  case neg =>
    have HI := hide (fun W => implMT_no k n ad d t bb hok (by omega) (by omega) (by omega) (by omega) W)
    have HS := hide (fun W => specMT_no k n ad d t bb hok (by omega) (by omega) (by omega) (by omega) W)
    clear hok
    go_wp2_with fail
    generalize w1.alloc (.cells #[.string d, .int .i64 t, .bool bb] 25) = W1 at *
    generalize w1.heap.size = g at *
    refine (unhide HI _).mono ?_
    rintro e w2 ⟨rfl, b2⟩
    have M2 := hide ((unhide M1).below b2)
    have B2 := hide ((unhide B1).trans (b2.mono (unhide B1).size))
    clear b2 B1 C1 HI M1
    have m0 := (unhide M2).cv
    go_wp2_with fail
    refine (unhide HS _).mono ?_
    rintro e w3 ⟨rfl, b3⟩
    have B3 := hide ((unhide B2).trans (b3.mono (unhide B2).size))
    clear b3 B2 HS m0 M2
    go_wp2
    go_ret
    exact ⟨rfl, unhide B3⟩
  obtain ⟨q, rfl⟩ : ∃ m : Nat, t = (m : Int) := ⟨t.toNat, by have := hok.2.2.2.2.1; omega⟩
  have hq : (q : Int) ≤ 1000000000 := hok.2.2.2.2.2
  have HI := hide (fun W => implMT_ok k n ad d q bb hok W)
  have HS := hide (fun W => specMT_ok k n ad d q bb hok W)
  have hsz := mt_size k n ad d q bb hok.2.1
  have k16 : k.size = 16 := hok.1
  have ad1 : 1 ≤ ad.size ∧ ad.size ≤ 18 := hok.2.2.1
  -- one key, its own
  have HR : Hid (∀ (now life : Int), 0 ≤ now → now ≤ 1000000000 → 0 ≤ life → life ≤ 1000000 → (q : Int) ≤ now → now - q ≤ life → ∀ W x, Sa W (some ⟨x, 0, none⟩) 1 (fun _ => k) → Calls Try.prog 8 #[.slice (some ⟨x, 0, none⟩) 1 1, .string ad, .string (mtW k n ad d q bb), .int .i64 now, .int .i64 life] W fun e w' => e = .returned (.tuple #[mnV d q bb, .int .i64 0]) ∧ Below W.heap.size W w') :=
    fun now life n0 n1 l0 l1 h0 h1 W x hS => checked _ 1 1 (fun _ => k) ad _ now life d q bb 0 (by omega) (fun _ _ => by omega) (by omega) (by omega) (ck_right (fun _ => k) 1 0 k n ad d q bb now life hok (cbP_mk (by omega) ad1 ⟨n0, n1⟩ ⟨l0, l1⟩ (by simp [Go.Proofs.Ytkpodgeinanceaa.k16, k16])) (by omega) rfl (fun j hj => by omega) h0 h1) W hS
  have HL : Hid (∀ (now life : Int), 0 ≤ now → now ≤ 1000000000 → 0 ≤ life → life ≤ 1000000 → ¬ ((q : Int) ≤ now ∧ now - q ≤ life) → ∀ W x, Sa W (some ⟨x, 0, none⟩) 1 (fun _ => k) → Calls Try.prog 8 #[.slice (some ⟨x, 0, none⟩) 1 1, .string ad, .string (mtW k n ad d q bb), .int .i64 now, .int .i64 life] W fun e w' => e = .returned (.tuple #[mnV ⟨#[]⟩ 0 false, .int .i64 4]) ∧ Below W.heap.size W w') :=
    fun now life n0 n1 l0 l1 h0 W x hS => checked _ 1 1 (fun _ => k) ad _ now life ⟨#[]⟩ 0 false 4 (by omega) (fun _ _ => by omega) (by omega) (by omega) (ck_time k n ad d q bb now life (fun _ => k) rfl hok (cbP_mk (by omega) ad1 ⟨n0, n1⟩ ⟨l0, l1⟩ (by simp [Go.Proofs.Ytkpodgeinanceaa.k16, k16])) h0) W hS
  have HA : Hid (∀ now : Int, (q : Int) ≤ now → now ≤ 1000000000 → ∀ W, Calls Try.prog 15 #[mnV d q bb, .int .i64 now] W fun e w' => e = .returned (.tuple #[.int .i64 (now - q), .bool true]) ∧ Below W.heap.size W w') :=
    fun now h0 h1 W => implAg_ok d q bb now hok.2.2.2.1 ⟨⟨by omega, hq⟩, ⟨by omega, h1⟩, h0⟩ W
  -- another key, by the model
  have HO : Hid (∀ (o : ByteArray) (now life : Int), o.size = 16 → ∀ W x, Sa W (some ⟨x, 0, none⟩) 1 (fun _ => o) → Calls Try.prog 6 #[.slice (some ⟨x, 0, none⟩) 1 1, .string ad, .string (mtW k n ad d q bb), .int .i64 now, .int .i64 life] W (CTP (fun _ => o) 1 ad (mtW k n ad d q bb) now life W)) :=
    fun o now life ho W x hS => specCT _ 1 1 (fun _ => o) ad _ now life W (by omega) (fun _ _ => by omega) (by omega) (by omega) hS
  have HT : Hid (∀ (o : ByteArray) (now life : Int), o.size = 16 → ¬ opK o (mtW k n ad d q bb) ad → 0 ≤ now → now ≤ 1000000000 → 0 ≤ life → life ≤ 1000000 → (q : Int) ≤ now → now - q ≤ life → ∀ W x, Sa W (some ⟨x, 0, none⟩) 2 (fun i => if i = 0 then o else k) → Calls Try.prog 8 #[.slice (some ⟨x, 0, none⟩) 2 2, .string ad, .string (mtW k n ad d q bb), .int .i64 now, .int .i64 life] W fun e w' => e = .returned (.tuple #[mnV d q bb, .int .i64 0]) ∧ Below W.heap.size W w') :=
    fun o now life ho hno n0 n1 l0 l1 h0 h1 W x hS => checked _ 2 2 (fun i => if i = 0 then o else k) ad _ now life d q bb 0 (by omega) (fun i _ => by split <;> omega) (by omega) (by omega) (ck_right (fun i => if i = 0 then o else k) 2 1 k n ad d q bb now life hok (cbP_mk (by omega) ad1 ⟨n0, n1⟩ ⟨l0, l1⟩ (by simp [Go.Proofs.Ytkpodgeinanceaa.k16, k16, ho])) (by omega) rfl (fun j hj => by rw [show j = 0 by omega]; exact hno) h0 h1) W hS
  have HTA : Hid (∀ (o : ByteArray) (now life : Int), o.size = 16 → ∀ W x, Sa W (some ⟨x, 0, none⟩) 2 (fun i => if i = 0 then o else k) → Calls Try.prog 8 #[.slice (some ⟨x, 0, none⟩) 2 2, .string ad, .string (mtW k n ad d q bb), .int .i64 now, .int .i64 life] W (CTP (fun i => if i = 0 then o else k) 2 ad (mtW k n ad d q bb) now life W)) :=
    fun o now life ho W x hS => implCT _ 2 2 (fun i => if i = 0 then o else k) ad _ now life W (by omega) (fun i _ => by split <;> omega) (by omega) (by omega) hS (fun W hc ht hS => fnExactCheckToken.otk _ 2 2 _ ad _ W hc.1 hc.2.2.2.2 hc.2.1 ht hS)
  have HTU := hide (fun r (hr : r < 1000003) W => turnedN k (by omega) (by omega) r hr W)
  have HK := hide k16
  have HQ := hide hq
  clear hok hsz k16 ad1 hq hk hn had hd ht0 ht1
  generalize hS : mtW k n ad d q bb = s at *
  clear hS
  go_wp2_with fail
  generalize w1.alloc (.cells #[.string d, .int .i64 q, .bool bb] 25) = W1 at *
  generalize w1.heap.size = g at *
  refine (unhide HI _).mono ?_
  rintro e w2 ⟨rfl, b2⟩
  have M2 := hide ((unhide M1).below b2)
  have B2 := hide ((unhide B1).trans (b2.mono (unhide B1).size))
  have C2 := hide ((unhide C1).below b2)
  clear b2 B1 C1 HI M1
  have m0 := (unhide M2).cv
  go_wp2_with fail
  refine (unhide HS _).mono ?_
  rintro e w3 ⟨rfl, b3⟩
  have M3 := hide ((unhide M2).below b3)
  have B3 := hide ((unhide B2).trans (b3.mono (unhide B2).size))
  have C3 := hide ((unhide C2).below b3)
  clear b3 B2 HS m0 M2 C2
  go_wp2_with fail
  refine (numberOf_any b' M cap2 _ (by omega) (unhide C3)).mono ?_
  rintro e w4 ⟨r, rfl, hr, b4⟩
  have M4 := hide ((unhide M3).below b4)
  have B4 := hide ((unhide B3).trans (b4.mono (unhide B3).size))
  have C4 := hide ((unhide C3).below b4)
  clear b4 B3 M3 C3
  have m0 := (unhide M4).cv
  obtain ⟨lf, hlf, l0, l1⟩ : ∃ lf : Int, (r : Int) % 1000 = lf ∧ 0 ≤ lf ∧ lf < 1000 := ⟨_, rfl, by omega, by omega⟩
  have hq := unhide HQ
  by_cases h9 : (1000000000 : Int) < (q : Int) + lf + 1
  · go_wp2
    go_ret
    exact ⟨rfl, unhide B4⟩
  have HR := hide (unhide HR ((q : Int) + lf) lf (by omega) (by omega) l0 (by omega) (by omega) (by omega))
  have HL1 := hide (unhide HL ((q : Int) + lf + 1) lf (by omega) (by omega) l0 (by omega) (by omega))
  have HA := hide (unhide HA ((q : Int) + lf) (by omega) (by omega))
  rw [show (q : Int) + lf - (q : Int) = lf by omega] at HA
  have S5 := hide (one_sa w4 k 9)
  have al5 := (Below.refl w4.heap.size w4).alloc (Nat.le_refl _) (.cells #[.string k] 9)
  have M5 := hide ((unhide M4).below al5)
  have B5 := hide ((unhide B4).trans (al5.mono (unhide B4).size))
  have C5 := hide ((unhide C4).below al5)
  clear al5
  go_wp2_with fail
  generalize w4.alloc (.cells #[.string k] 9) = W5 at *
  generalize w4.heap.size = g5 at *
  refine (unhide HR _ _ (unhide S5)).mono ?_
  rintro e w6 ⟨rfl, b6⟩
  have al6 := (Below.refl w6.heap.size w6).alloc (Nat.le_refl _) (.cells #[.string d, .int .i64 q, .bool bb] 25)
  have ll6 : w6.heap.size < (w6.alloc (.cells #[.string d, .int .i64 q, .bool bb] 25)).heap.size := by simp
  have R6 : Hid (Bx (w6.alloc (.cells #[.string d, .int .i64 q, .bool bb] 25)) w6.heap.size [.string d, .int .i64 q, .bool bb]) := Bx.new w6 _ _
  have M6 := hide (((unhide M5).below b6).below al6)
  have B6 := hide (((unhide B5).trans (b6.mono (unhide B5).size)).trans (al6.mono (Nat.le_trans (unhide B5).size b6.size)))
  have C6 := hide (((unhide C5).below b6).below al6)
  clear al6 b6 B5 C5 M5 S5 m0 M4 B4 C4 HR
  have m0 := (unhide M6).cv
  go_wp2_with fail
  generalize w6.alloc (.cells #[.string d, .int .i64 q, .bool bb] 25) = W6 at *
  generalize w6.heap.size = g6 at *
  refine (unhide HA _).mono ?_
  rintro e w7 ⟨rfl, b7⟩
  have M7 := hide ((unhide M6).below b7)
  have R7 := hide ((unhide R6).below b7)
  have B7 := hide ((unhide B6).trans (b7.mono (unhide B6).size))
  have C7 := hide ((unhide C6).below b7)
  clear b7 B6 C6 M6 R6 m0
  have m0 := (unhide M7).cv
  have r0 := (unhide R7).cv
  have S8 := hide (one_sa w7 k 9)
  have al8 := (Below.refl w7.heap.size w7).alloc (Nat.le_refl _) (.cells #[.string k] 9)
  have M8 := hide ((unhide M7).below al8)
  have B8 := hide ((unhide B7).trans (al8.mono (unhide B7).size))
  have C8 := hide ((unhide C7).below al8)
  clear al8
  go_wp2_with fail
  generalize w7.alloc (.cells #[.string k] 9) = W8 at *
  generalize w7.heap.size = g8 at *
  refine (unhide HL1 _ _ (unhide S8)).mono ?_
  rintro e w9 ⟨rfl, b9⟩
  have al9 := (Below.refl w9.heap.size w9).alloc (Nat.le_refl _) (.cells #[.string ⟨#[]⟩, .int .i64 0, .bool false] 25)
  have M9 := hide (((unhide M8).below b9).below al9)
  have B9 := hide (((unhide B8).trans (b9.mono (unhide B8).size)).trans (al9.mono (Nat.le_trans (unhide B8).size b9.size)))
  have C9 := hide (((unhide C8).below b9).below al9)
  clear al9 b9 B8 C8 M8 S8 m0 M7 B7 C7 r0 R7 HL1
  have HN : ∀ x : World, Cd x b' M → Calls Try.prog 14 #[.slice b' M cap2] x fun e w' => ∃ r : Nat, e = .returned (.int .i64 r) ∧ r < 1000003 ∧ Below x.heap.size x w' := fun x hx => numberOf_any b' M cap2 x (by omega) hx
  have HN := hide HN
  have m0 := (unhide M9).cv
  go_upto_if 126 with fail
  generalize w9.alloc (.cells #[.string ⟨#[]⟩, .int .i64 0, .bool false] 25) = W9 at *
  generalize w9.heap.size = g9 at *
  go_cut [] (fun wx => Bx wx g [.string d, .int .i64 q, .bool bb] ∧ Below w.heap.size w wx ∧ Cd wx b' M)
  case first =>
    by_cases hq0 : (0 : Int) < q
    · have HL2 := hide (unhide HL ((q : Int) - 1) lf (by omega) (by omega) l0 (by omega) (by omega))
      have S1 := hide (one_sa W9 k 9)
      have al1 := (Below.refl W9.heap.size W9).alloc (Nat.le_refl _) (.cells #[.string k] 9)
      have M1 := hide ((unhide M9).below al1)
      have B1 := hide ((unhide B9).trans (al1.mono (unhide B9).size))
      have C1 := hide ((unhide C9).below al1)
      clear al1
      have m1 := (unhide M1).cv
      go_wp2_with fail
      generalize W9.alloc (.cells #[.string k] 9) = V1 at *
      generalize W9.heap.size = g1 at *
      refine (unhide HL2 _ _ (unhide S1)).mono ?_
      rintro e v2 ⟨rfl, b2⟩
      have al2 := (Below.refl v2.heap.size v2).alloc (Nat.le_refl _) (.cells #[.string ⟨#[]⟩, .int .i64 0, .bool false] 25)
      have M2 := hide (((unhide M1).below b2).below al2)
      have B2 := hide (((unhide B1).trans (b2.mono (unhide B1).size)).trans (al2.mono (Nat.le_trans (unhide B1).size b2.size)))
      have C2 := hide (((unhide C1).below b2).below al2)
      clear al2 b2 B1 C1 M1 S1 m0 m1 HL2
      go_wp2_with fail
      go_meet
      exact ⟨unhide M2, unhide B2, unhide C2⟩
    · have hq1 : ¬ (0 : Int) < q := hq0
      go_wp2_with fail
      go_meet
      exact ⟨unhide M9, unhide B9, unhide C9⟩
  case rest =>
  obtain ⟨m10, b10, c10⟩ := hcut
  have M10 := hide m10
  have B10 := hide b10
  clear m10 b10 M9 B9 C9 m0
  go_wp2_with fail
  refine (unhide HN _ c10).mono ?_
  rintro e w11 ⟨r2, rfl, hr2, b11⟩
  have M11 := hide ((unhide M10).below b11)
  have B11 := hide ((unhide B10).trans (b11.mono (unhide B10).size))
  clear b11 c10 M10 B10
  go_wp2_with fail
  refine (unhide HTU r2 hr2 _).mono ?_
  rintro e w12 ⟨q', d', hq', hd0, hd', rfl, b12⟩
  have ho : (tuW k q' d').size = 16 := by rw [tuW_size]; exact unhide HK
  generalize tuW k q' d' = o at *
  have M12 := hide ((unhide M11).below b12)
  have B12 := hide ((unhide B11).trans (b12.mono (unhide B11).size))
  clear b12 M11 B11 hq' hd0 hd'
  have HO := hide (unhide HO o ((q : Int) + lf) lf ho)
  have S13 := hide (one_sa w12 o 9)
  have al13 := (Below.refl w12.heap.size w12).alloc (Nat.le_refl _) (.cells #[.string o] 9)
  have M13 := hide ((unhide M12).below al13)
  have B13 := hide ((unhide B12).trans (al13.mono (unhide B12).size))
  clear al13 M12 B12
  go_wp2_with fail
  generalize w12.alloc (.cells #[.string o] 9) = W13 at *
  generalize w12.heap.size = g13 at *
  refine (unhide HO _ _ (unhide S13)).mono ?_
  rintro e w14 ⟨d2, t2, bb2, c2, rfl, hck, b14⟩
  have al14 := (Below.refl w14.heap.size w14).alloc (Nat.le_refl _) (.cells #[.string d2, .int .i64 t2, .bool bb2] 25)
  have M14 := hide (((unhide M13).below b14).below al14)
  have B14 := hide (((unhide B13).trans (b14.mono (unhide B13).size)).trans (al14.mono (Nat.le_trans (unhide B13).size b14.size)))
  clear al14 b14 M13 B13 S13 HO
  by_cases h3 : c2 = 3
  · subst h3
    have hno := ck_wrong _ _ _ _ _ _ _ _ hck
    have HT := hide (unhide HT o ((q : Int) + lf) lf ho hno (by omega) (by omega) l0 (by omega) (by omega) (by omega))
    clear hck hno
    go_upto_region 27 with fail
    generalize w14.alloc (.cells #[.string d2, .int .i64 t2, .bool bb2] 25) = W14 at *
    generalize w14.heap.size = g14 at *
    have S15 := hide (two_sa W14 o k 9)
    have al15 := (Below.refl W14.heap.size W14).alloc (Nat.le_refl _) (.cells #[.string o, .string k] 9)
    have M15 := hide ((unhide M14).below al15)
    have B15 := hide ((unhide B14).trans (al15.mono (unhide B14).size))
    clear al15 M14 B14
    go_wp2_with fail
    generalize W14.alloc (.cells #[.string o, .string k] 9) = W15 at *
    generalize W14.heap.size = g15 at *
    refine (unhide HT _ _ (unhide S15)).mono ?_
    rintro e w16 ⟨rfl, b16⟩
    have al16 := (Below.refl w16.heap.size w16).alloc (Nat.le_refl _) (.cells #[.string d, .int .i64 q, .bool bb] 25)
    have R16 : Hid (Bx (w16.alloc (.cells #[.string d, .int .i64 q, .bool bb] 25)) w16.heap.size [.string d, .int .i64 q, .bool bb]) := Bx.new w16 _ _
    have M16 := hide (((unhide M15).below b16).below al16)
    have B16 := hide (((unhide B15).trans (b16.mono (unhide B15).size)).trans (al16.mono (Nat.le_trans (unhide B15).size b16.size)))
    clear al16 b16 M15 B15 S15 HT
    have m0 := (unhide M16).cv
    have r0 := (unhide R16).cv
    go_wp2
    go_ret
    exact ⟨rfl, unhide B16⟩
  · have HTA := hide (unhide HTA o ((q : Int) + lf) lf ho)
    have h3b : (c2 != 3) = true := by simpa using h3
    have h3c : (c2 == 3) = false := by simpa using h3
    clear hck
    go_upto_region 27 with fail
    generalize w14.alloc (.cells #[.string d2, .int .i64 t2, .bool bb2] 25) = W14 at *
    generalize w14.heap.size = g14 at *
    have S15 := hide (two_sa W14 o k 9)
    have al15 := (Below.refl W14.heap.size W14).alloc (Nat.le_refl _) (.cells #[.string o, .string k] 9)
    have B15 := hide ((unhide B14).trans (al15.mono (unhide B14).size))
    clear al15 M14 B14
    go_wp2_with fail
    generalize W14.alloc (.cells #[.string o, .string k] 9) = W15 at *
    generalize W14.heap.size = g15 at *
    refine (unhide HTA _ _ (unhide S15)).mono ?_
    rintro e w16 ⟨d3, t3, bb3, c3, rfl, _, b16⟩
    have al16 := (Below.refl w16.heap.size w16).alloc (Nat.le_refl _) (.cells #[.string d3, .int .i64 t3, .bool bb3] 25)
    have B16 := hide (((unhide B15).trans (b16.mono (unhide B15).size)).trans (al16.mono (Nat.le_trans (unhide B15).size b16.size)))
    clear al16 b16 B15 S15 HTA
    go_wp2
    go_ret
    exact ⟨rfl, unhide B16⟩
theorem walk (a : Option Addr) (N cap : Nat) (b : Option Addr) (M cap2 : Nat) (w : World) (hN : N ≤ 140737488355328) (hM : M ≤ 140737488355328) (hC : Cd w a N) (hC2 : Cd w b M) :
    Calls Try.prog 4 #[.slice a N cap, .slice b M cap2] w fun e w' => e = .returned (.bool true) ∧ Below w.heap.size w w' := by
  by_cases hl : (1048576 : Int) < (N : Int) + (M : Int)
  · go_enter Try.func4, Try.ntmps4
    go_wp2
    go_ret
    exact ⟨rfl, Below.refl _ _⟩
  · exact walk_in a N cap b M cap2 w (by omega) hC hC2
end Go.Proofs.Ytkpodgeinanceaa.fnTokens
