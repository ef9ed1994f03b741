/-
  Contracts: the greatest of a row of scores, the pick, of the program. Contracts: the pick, of the model. Contracts: MovedKeys, of both sides.
-/
import Derived.Test.YtpjmnnaiegdjmaaDoorFlaX
namespace Go.Proofs.YtpjmnnaiegdjmaaDoor
open Go.ChangeShapes Go.WideShapes Go.ChangeAt Go.RowKit Go.Deep
set_option linter.unusedVariables false
set_option maxRecDepth 100000

theorem cm_gt {x y : Nat} (h : y < x) : cmI (x : Int) (y : Int) = 1 := by unfold cmI; rw [if_neg (by omega), if_pos (by omega)]
theorem cm_ng {x y : Nat} (h : ¬ y < x) : cmI (x : Int) (y : Int) = 0 ∨ cmI (x : Int) (y : Int) = -1 := by
  unfold cmI
  by_cases h1 : (x : Int) < y
  · rw [if_pos h1]; exact Or.inr rfl
  · rw [if_neg h1, if_neg (by omega)]; exact Or.inl rfl
set_option maxHeartbeats 1000000 in
theorem implGr1 (g cap : Nat) (key : ByteArray) (F : Nat → ByteArray) (w : World) (hc : 1 ≤ cap) (h : Sx w g 1 key F) :
    Calls Tryd.prog 65 #[.slice (some ⟨g, 0, none⟩) 1 cap, .func (.func 45) #[] #[]] w fun e w' => e = .returned (sV (F 0) key) ∧ Below w.heap.size w w' := by
  unfold sV
  have c0 := h.c0 0 (by omega)
  have c1 := h.c1 0 (by omega)
  have hg := h.lt
  rw [Nat.zero_mul] at c0 c1
  rw [Nat.zero_add] at c1
  have hg1 : g ≠ w.heap.size := by omega
  have hg2 : g ≠ w.heap.size + 1 := by omega
  have hcI : (1 : Int) ≤ (cap : Int) := by omega
  clear h
  generalize scN (F 0) key = n0 at *
  generalize F 0 = t0 at *
  go_enter Tryd.func65, Tryd.ntmps65
  go_wp2
  all_goals
    refine wp_loop_rounds 1 ?_
    rw [rounds_succ]
    go_wp2
    refine bodyPost_ret (v := .agg #[.string t0, .int .i64 n0]) (by simp [results, Tryd.results65, go_sem]) rfl ⟨rfl, ?_⟩
    repeat first | exact Below.refl _ _ | refine Below.setCell ?_ (by simp) _ | refine Below.alloc ?_ (by simp) _
set_option maxHeartbeats 1000000 in
theorem implGr (g m cap : Nat) (key : ByteArray) (F : Nat → ByteArray) (w : World) (hm : 1 ≤ m) (hN : m ≤ 1000) (hc : m + 1 ≤ cap) (hcm : cap ≤ maxLen) (h : Sx w g (m + 1) key F) :
    Calls Tryd.prog 65 #[.slice (some ⟨g, 0, none⟩) (m + 1) cap, .func (.func 45) #[] #[]] w fun e w' => e = .returned (sV (F (pkI F key m)) key) ∧ Below w.heap.size w w' := by
  unfold maxLen at hcm
  have HX := hide h
  have c0 := h.c0 0 (by omega)
  have c1 := h.c1 0 (by omega)
  have hg := h.lt
  rw [Nat.zero_mul] at c0 c1
  rw [Nat.zero_add] at c1
  have hg1 : g ≠ w.heap.size := by omega
  have hg2 : g ≠ w.heap.size + 1 := by omega
  have hcI : (1 : Int) ≤ (cap : Int) := by omega
  have hc1 : ¬ cap = 1 := by omega
  have R5 : Hid (Bx ((w.alloc (.cells #[.string ⟨#[]⟩, .int .i64 0] 47)).alloc (.cells #[.string (F 0), .int .i64 (scN (F 0) key : Nat)] 47)) (w.heap.size + 1) [.string (F 0), .int .i64 (scN (F 0) key : Nat)]) := Bx.newAt (w.alloc _) _ _ _ (by simp)
  have R4 : Hid (Bx ((w.alloc (.cells #[.string ⟨#[]⟩, .int .i64 0] 47)).alloc (.cells #[.string (F 0), .int .i64 (scN (F 0) key : Nat)] 47)) w.heap.size [.string ⟨#[]⟩, .int .i64 0]) := (Bx.new w _ _).alloc _
  have B0 : Hid (Below w.heap.size w ((w.alloc (.cells #[.string ⟨#[]⟩, .int .i64 0] 47)).alloc (.cells #[.string (F 0), .int .i64 (scN (F 0) key : Nat)] 47))) := ((Below.refl _ _).alloc (Nat.le_refl _) _).alloc (by simp) _
  clear h
  go_enter Tryd.func65, Tryd.ntmps65
  go_wp2
  have Z0 : Hid (scN (F 0) key = scN (F (pkI F key 0)) key) := rfl
  generalize hz0 : scN (F 0) key = z0 at *
  go_loopw [14] (fun i wr => ∃ (k : Nat) (t : ByteArray) (x : Nat), k ≤ m ∧ i = .int .i64 k ∧ Hid (t = F (pkI F key k) ∧ x = scN (F (pkI F key k)) key) ∧ Bx wr (w.heap.size + 1) [.string t, .int .i64 x] ∧ Bx wr w.heap.size [.string ⟨#[]⟩, .int .i64 0] ∧ Below w.heap.size w wr) (fun i _ => m - (intOf i).toNat)
  case atStart => exact ⟨0, F 0, z0, by omega, rfl, ⟨rfl, unhide Z0⟩, unhide R5, unhide R4, unhide B0⟩
  case round =>
    obtain ⟨k, t, x, hk, rfl, hP, X5, X4, hbel⟩ := hrel
    by_cases hlt : k < m
    · have hx := (unhide HX).kept hbel
      have d0 := hx.c0 (k + 1) (by omega)
      have d1 := hx.c1 (k + 1) (by omega)
      rw [show (k + 1) * 2 = 2 + k * 2 by omega] at d0 d1
      have hkm : (k : Int) < (m : Int) := by omega
      have HB := hide (implBs (F (k + 1)) t (scN (F (k + 1)) key : Nat) (x : Nat))
      have HPK : Hid (pkI F key (k + 1) = if scN (F (pkI F key k)) key < scN (F (k + 1)) key then k + 1 else pkI F key k) := rfl
      have hz := X5.lt
      have X7 := Bx.new wr [.string (F (k + 1)), .int .i64 (scN (F (k + 1)) key : Nat)] 47
      have Y5 := X5.alloc (.cells #[.string (F (k + 1)), .int .i64 (scN (F (k + 1)) key : Nat)] 47)
      have y5 := Y5.cv
      have HY5 := hide Y5
      have HX7 := hide X7
      have HX4 := hide (X4.alloc (.cells #[.string (F (k + 1)), .int .i64 (scN (F (k + 1)) key : Nat)] 47))
      have HBL := hide (hbel.alloc hbel.size (.cells #[.string (F (k + 1)), .int .i64 (scN (F (k + 1)) key : Nat)] 47))
      clear hx X5 X4 hbel X7 Y5
      by_cases c : x < scN (F (k + 1)) key
      · have P2 : Hid (F (k + 1) = F (pkI F key (k + 1)) ∧ scN (F (k + 1)) key = scN (F (pkI F key (k + 1))) key) := by
          have e := unhide HPK
          rw [if_pos (by rw [← (unhide hP).2]; exact c)] at e
          show _ ∧ _
          rw [e]
          exact ⟨rfl, rfl⟩
        rw [cm_gt c] at HB
        have HC := hide c
        clear c hP HPK
        generalize scN (F (k + 1)) key = y at *
        generalize F (k + 1) = t1 at *
        go_wp2_with fail
        refine (unhide HB _).mono ?_
        rintro e w1 ⟨rfl, q1⟩
        have Z5 := (unhide HY5).below q1
        have Z7 := (unhide HX7).below q1
        have Z4 := hide ((unhide HX4).below q1)
        have ZB := hide ((unhide HBL).trans (q1.mono (unhide HBL).size))
        have z5 := Z5.cv
        have z5f := Z5.fz
        have z7 := Z7.cv
        have z9 : w.heap.size + 1 < w1.heap.size := Z5.lt
        have H5 := hide Z5
        clear Z5 Z7 q1 y5
        go_wp2
        refine ⟨⟨k + 1, t1, y, by omega, by go_num, P2, ?_, ?_, ?_⟩, by simp [intOf]; omega⟩
        · exact ((unhide H5).set (i := 0) (by simp)).set (i := 1) (by simp)
        · exact ((unhide Z4).other (by omega)).other (by omega)
        · exact ((unhide ZB).setCell (by simp) _).setCell (by simp) _
      · have P2 : Hid (t = F (pkI F key (k + 1)) ∧ x = scN (F (pkI F key (k + 1))) key) := by
          have e := unhide HPK
          rw [if_neg (by rw [← (unhide hP).2]; exact c)] at e
          show _ ∧ _
          rw [e]
          exact unhide hP
        rcases cm_ng c with e9 | e9
        all_goals
          rw [e9] at HB
          clear c hP HPK e9
          generalize scN (F (k + 1)) key = y at *
          generalize F (k + 1) = t1 at *
          go_wp2_with fail
          refine (unhide HB _).mono ?_
          rintro e w1 ⟨rfl, q1⟩
          have Z5 := hide ((unhide HY5).below q1)
          have Z4 := hide ((unhide HX4).below q1)
          have ZB := hide ((unhide HBL).trans (q1.mono (unhide HBL).size))
          clear q1 y5
          go_wp2
          exact ⟨⟨k + 1, t, x, by omega, by go_num, P2, unhide Z5, unhide Z4, unhide ZB⟩, by simp [intOf]; omega⟩
    · obtain rfl : k = m := by omega
      have x5 := X5.cv
      have x4 := X4.cv
      have x4f := X4.fz
      have HB := hide hbel
      clear X5 X4 hbel
      go_wp2
      refine bodyPost_ret (v := .agg #[.string t, .int .i64 x]) (by simp [results, Tryd.results65, go_sem, x4]) rfl ⟨?_, ?_⟩
      · unfold sV
        rw [← (unhide hP).2, ← (unhide hP).1]
      · exact ((unhide HB).setCell (by simp) _).setCell (by simp) _
set_option maxHeartbeats 1000000 in
theorem implPo (a : Option Addr) (cap : Nat) (L : List ByteArray) (key : ByteArray) (w : World) (hN : L.length ≤ 1000) (hn : 0 < L.length) (hz : ∀ i, i < L.length → (tA L i).size ≤ 1000) (hk : key.size ≤ 1000) (h : Ta w a L) (hT : Rt w) :
    Calls Tryd.prog 40 #[.slice a L.length cap, .string key] w fun e w' => e = .returned (sV (pkT (tA L) key L.length) key) ∧ Below w.heap.size w w' := by
  have HS := hide (fun W (q : Below w.heap.size w W) => implSs a cap L key W hN hz hk (h.kept q) (hT.kept q))
  clear hz h hT
  obtain ⟨t, ht⟩ : ∃ t, t = pkT (tA L) key L.length := ⟨_, rfl⟩
  obtain ⟨x, hx⟩ : ∃ x, x = scN t key := ⟨_, rfl⟩
  have HV : Hid (sV (pkT (tA L) key L.length) key = .agg #[.string t, .int .i64 (x : Nat)]) := by
    show _ = _
    unfold sV
    rw [← ht, ← hx]
  rw [unhide HV]
  clear ht hx
  go_enter Tryd.func40, Tryd.ntmps40
  go_wp2_with fail
  refine (unhide HS _ ((Below.refl _ _).alloc (Nat.le_refl _) _)).mono ?_
  rintro e w1 ⟨v, rfl, hO, b1⟩
  have hO := hide hO
  have R1 := hide ((Bx.new w [.string ⟨#[]⟩, .int .i64 0] 47).below b1)
  have B1 := hide (((Below.refl w.heap.size w).alloc (Nat.le_refl _) _).trans (b1.mono (by simp)))
  clear b1
  obtain ⟨a1, cap1, rfl, hc1, hc2, hf⟩ := (unhide hO).form
  rcases hf with hf | ⟨g, rfl, hg, hX, _⟩
  · omega
  have HG : Hid (Calls Tryd.prog 65 #[.slice (some ⟨g, 0, none⟩) L.length cap1, .func (.func 45) #[] #[]] w1 fun e w' => e = .returned (sV (pkT (tA L) key L.length) key) ∧ Below w1.heap.size w1 w') := by
    unfold pkT
    obtain ⟨m, hm⟩ : ∃ m, L.length = m + 1 := ⟨L.length - 1, by omega⟩
    rw [hm] at hX hc1 ⊢
    rw [Nat.add_sub_cancel]
    by_cases h1 : m = 0
    · subst h1
      exact implGr1 g cap1 key (tA L) w1 (by omega) hX
    · exact implGr g m cap1 key (tA L) w1 (by omega) (by omega) hc1 hc2 hX
  clear hX hO hc1 hc2 hg HS
  rw [unhide HV] at HG
  clear HV
  go_wp2_with fail
  refine (unhide HG).mono ?_
  rintro e w2 ⟨rfl, b2⟩
  have R2 := (unhide R1).below b2
  have B2 := hide ((unhide B1).trans (b2.mono (unhide B1).size))
  have r1 := R2.cv
  have r2 := R2.fz
  clear R2 b2
  go_wp2
  refine bodyPost_ret (v := .agg #[.string t, .int .i64 x]) (by simp [results, Tryd.results40, go_sem, r1]) rfl ⟨rfl, ?_⟩
  exact ((unhide B2).setCell (Nat.le_refl _) _).setCell (Nat.le_refl _) _
theorem implPb (a : Option Addr) (n cap : Nat) (F : Nat → ByteArray) (w : World) (hn : n ≤ 1048576) (hs : ∀ i, i < n → (F i).size ≤ 1048576) (h : Sa w a n F) :
    Calls Tryd.prog 38 #[.slice a n cap] w fun e w' => e = .returned (.bool (decide (0 < n) && glB F n)) ∧ w' = w := by
  have HG := hide (implGL a n cap F w hn hs h)
  generalize glB F n = r at *
  by_cases h0 : 0 < n
  · rw [decide_eq_true h0, Bool.true_and]
    have hI : (0 : Int) < (n : Int) := by omega
    go_enter Tryd.func38, Tryd.ntmps38
    go_wp2_with fail
    refine (unhide HG).mono ?_
    rintro e w1 ⟨rfl, e1⟩
    subst w1
    go_wp2
    go_ret
    exact ⟨rfl, rfl⟩
  · rw [decide_eq_false h0, Bool.false_and]
    have hI : ¬ (0 : Int) < (n : Int) := by omega
    go_enter Tryd.func38, Tryd.ntmps38
    go_wp2
    go_ret
    exact ⟨rfl, rfl⟩
/-- what PickBackend answers -/
def pbR (F : Nat → ByteArray) (n : Nat) (key : ByteArray) : Value := if 0 < n ∧ glB F n = true ∧ key.size ≤ 100 then .tuple #[.string (pkT F key n), .bool true] else .tuple #[.string ⟨#[]⟩, .bool false]
theorem pk_size {F : Nat → ByteArray} {n : Nat} (key : ByteArray) (h : glB F n = true) (h0 : 0 < n) : (pkT F key n).size ≤ 12 := by
  have h1 := pkI_le F key (n - 1)
  exact bk_size (gl_bk h (by omega))
set_option maxHeartbeats 1000000 in
theorem implPk (a : Option Addr) (cap : Nat) (L : List ByteArray) (key : ByteArray) (w : World) (hN : L.length ≤ 1048576) (hz : ∀ i, i < L.length → (tA L i).size ≤ 1048576) (hk : key.size ≤ 1048576) (h : Ta w a L) (hT : Rt w) :
    Calls Tryd.prog 14 #[.slice a L.length cap, .string key] w fun e w' => e = .returned (pbR (tA L) L.length key) ∧ Below w.heap.size w w' := by
  have HG := hide (fun W (q : Below w.heap.size w W) => implPb a L.length cap (tA L) W hN hz (h.kept q))
  unfold pbR
  by_cases c : (decide (0 < L.length) && glB (tA L) L.length) = true
  case neg =>
    rw [if_neg (fun z => c (by rw [decide_eq_true z.1, z.2.1]; rfl))]
    rw [Bool.eq_false_iff.2 c] at HG
    go_enter Tryd.func14, Tryd.ntmps14
    go_wp2_with fail
    refine (unhide HG _ (Below.refl _ _)).mono ?_
    rintro e w1 ⟨rfl, e1⟩
    subst w1
    go_wp2
    go_ret2
    exact ⟨rfl, Below.refl _ _⟩
  have c0 := c
  rw [Bool.and_eq_true] at c0
  have hn := of_decide_eq_true c0.1
  have hgl := c0.2
  rw [c] at HG
  have HW := hide (fun W g q hc => within_one key 100 (by omega) hk W g q hc)
  clear c c0
  by_cases h1 : key.size ≤ 100
  case neg =>
    rw [if_neg (fun z => h1 z.2.2)]
    rw [decide_eq_false h1] at HW
    clear hgl h hT hz
    go_enter Tryd.func14, Tryd.ntmps14
    go_wp2_with fail
    refine (unhide HG _ (Below.refl _ _)).mono ?_
    rintro e w1 ⟨rfl, e1⟩
    subst w1
    go_wp2_with fail
    refine (unhide HW _ _ _ (by simp)).mono ?_
    rintro e w2 ⟨rfl, e2⟩
    subst w2
    go_wp2
    go_ret2
    exact ⟨rfl, (Below.refl _ _).alloc (Nat.le_refl _) _⟩
  rw [if_pos ⟨hn, hgl, h1⟩]
  rw [decide_eq_true h1] at HW
  have h12 := gl_12 hgl
  have HP := hide (fun W (q : Below w.heap.size w W) => implPo a cap L key W (by omega) hn (fun i hi => by have := bk_size (gl_bk hgl hi); omega) (by omega) (h.kept q) (hT.kept q))
  have HC := hide (fun W => clnT (pkT (tA L) key L.length) (by have := pk_size key hgl hn; omega) W)
  clear hgl h hT hz
  unfold sV at HP
  have fd := fld0 (pkT (tA L) key L.length) (scN (pkT (tA L) key L.length) key : Nat)
  generalize scN (pkT (tA L) key L.length) key = x at *
  generalize pkT (tA L) key L.length = t at *
  go_enter Tryd.func14, Tryd.ntmps14
  go_wp2_with fail
  refine (unhide HG _ (Below.refl _ _)).mono ?_
  rintro e w1 ⟨rfl, e1⟩
  subst w1
  go_wp2_with fail
  refine (unhide HW _ _ _ (by simp)).mono ?_
  rintro e w2 ⟨rfl, e2⟩
  subst w2
  go_wp2_with fail
  refine (unhide HP _ ((Below.refl _ _).alloc (Nat.le_refl _) _)).mono ?_
  rintro e w3 ⟨rfl, q3⟩
  have B3 := hide (((Below.refl w.heap.size w).alloc (Nat.le_refl _) _).trans (q3.mono (by simp)))
  clear q3
  go_wp2_with fail
  refine (unhide HC _).mono ?_
  rintro e w4 ⟨rfl, q4⟩
  have B4 := hide ((unhide B3).trans (q4.mono (unhide B3).size))
  clear q4
  go_wp2
  go_ret2
  exact ⟨rfl, unhide B4⟩
end Go.Proofs.YtpjmnnaiegdjmaaDoor
namespace Go.Proofs.YtpjmnnaiegdjmaaDoor
open Go.ChangeShapes Go.WideShapes Go.ChangeAt Go.RowKit Go.Deep
set_option linter.unusedVariables false
set_option maxRecDepth 100000

set_option maxHeartbeats 1000000 in
theorem specP9 (a : Option Addr) (n cap : Nat) (F : Nat → ByteArray) (key : ByteArray) (w : World) (hN : n ≤ 1000) (hn : 0 < n) (hz : ∀ i, i < n → (F i).size ≤ 1000) (hk : key.size ≤ 1000) (h : Sa w a n F) :
    Calls Tryd.prog 37 #[.slice a n cap, .string key] w fun e w' => e = .returned (.string (pkT F key n)) ∧ Below w.heap.size w w' := by
  have HR := hide h
  have HZ := hide hz
  have HQ : Hid (∀ W p gw cw gf cf, L4 W p gw cw gf cf → ∀ i, i < n → Calls Tryd.prog 31 #[.pointer (some ⟨p, 0, none⟩), .string (F i), .string key] W fun e w' => e = .returned (.int .i64 (scN (F i) key : Nat)) ∧ Below W.heap.size W w') := fun W p gw cw gf cf h4 i hi => specScore (F i) key (hz i hi) hk W p gw cw gf cf h4
  have HE : Hid (pkT F key n = F (pkI F key (n - 1))) := rfl
  have HP0 : Hid (pkI F key 0 = 0) := rfl
  have HPS : Hid (∀ k, pkI F key (k + 1) = if scN (F (pkI F key k)) key < scN (F (k + 1)) key then k + 1 else pkI F key k) := fun k => rfl
  clear h hz
  go_enter Tryd.func37, Tryd.ntmps37
  go_wp2_with fail
  refine (specNew _).mono ?_
  rintro e w1 ⟨p, gw, cw, gf, cf, rfl, h4, b1⟩
  have H4 := hide h4
  have B1 := hide b1
  clear h4 b1
  go_wp2_with fail
  go_loopw [5, 6, 14] (fun bv mv i wr => ∃ (k : Nat) (t : ByteArray) (x : Int), k ≤ n ∧ i = .int .i64 k ∧ bv = .string t ∧ mv = .int .i64 x ∧ -1 ≤ x ∧ x < 72057594037927936 ∧ Hid (k = 0 ∧ x = -1 ∨ 0 < k ∧ t = F (pkI F key (k - 1)) ∧ x = (scN (F (pkI F key (k - 1))) key : Nat)) ∧ L4 wr p gw cw gf cf ∧ Below w.heap.size w wr) (fun _ _ i _ => n - (intOf i).toNat)
  case atStart => exact ⟨0, _, -1, by omega, rfl, rfl, rfl, by omega, by omega, Or.inl ⟨rfl, rfl⟩, unhide H4, unhide B1⟩
  case round =>
    obtain ⟨k, t, x, hkn, rfl, rfl, rfl, hx0, hx1, hP, h4, hbel⟩ := hrel
    by_cases hlt : k < n
    · rcases (unhide HR).kept hbel with h0 | ⟨b, o, rfl, h1⟩
      · omega
      have hcf := h1.c k hlt
      have hnk : (k : Int) < (n : Int) := by omega
      have HC := hide (unhide HQ wr p gw cw gf cf h4 k hlt)
      have hsl := scN_lt (F k) key
      have G4 := hide h4
      have HB := hide hbel
      clear h1 h4 hbel
      by_cases c : x < (scN (F k) key : Nat)
      · have P2 : Hid (k + 1 = 0 ∧ ((scN (F k) key : Nat) : Int) = -1 ∨ 0 < k + 1 ∧ F k = F (pkI F key (k + 1 - 1)) ∧ ((scN (F k) key : Nat) : Int) = (scN (F (pkI F key (k + 1 - 1))) key : Nat)) := by
          refine Or.inr ⟨by omega, ?_⟩
          rw [Nat.add_sub_cancel]
          rcases unhide hP with ⟨rfl, _⟩ | ⟨h0, h2, h3⟩
          · rw [unhide HP0]; exact ⟨rfl, rfl⟩
          · obtain ⟨m, rfl⟩ : ∃ m, k = m + 1 := ⟨k - 1, by omega⟩
            rw [Nat.add_sub_cancel] at h3
            rw [h3] at c
            rw [unhide HPS m, if_pos (by omega)]
            exact ⟨rfl, rfl⟩
        clear hP
        generalize scN (F k) key = y at *
        generalize F k = t1 at *
        go_wp2_with fail
        refine (unhide HC).mono ?_
        rintro e w2 ⟨rfl, b2⟩
        have G5 := hide ((unhide G4).kept b2)
        have B2 := hide ((unhide HB).trans (b2.mono (unhide HB).size))
        clear b2
        go_wp2
        exact ⟨⟨k + 1, t1, y, by omega, by go_num, rfl, rfl, by omega, by omega, unhide P2, unhide G5, unhide B2⟩, by simp [intOf]; omega⟩
      · have P2 : Hid (k + 1 = 0 ∧ x = -1 ∨ 0 < k + 1 ∧ t = F (pkI F key (k + 1 - 1)) ∧ x = (scN (F (pkI F key (k + 1 - 1))) key : Nat)) := by
          refine Or.inr ⟨by omega, ?_⟩
          rw [Nat.add_sub_cancel]
          rcases unhide hP with ⟨rfl, h2⟩ | ⟨h0, h2, h3⟩
          · exfalso; omega
          · obtain ⟨m, rfl⟩ : ∃ m, k = m + 1 := ⟨k - 1, by omega⟩
            rw [Nat.add_sub_cancel] at h2 h3
            rw [h3] at c
            rw [unhide HPS m, if_neg (by omega)]
            exact ⟨h2, h3⟩
        clear hP
        generalize scN (F k) key = y at *
        generalize F k = t1 at *
        go_wp2_with fail
        refine (unhide HC).mono ?_
        rintro e w2 ⟨rfl, b2⟩
        have G5 := hide ((unhide G4).kept b2)
        have B2 := hide ((unhide HB).trans (b2.mono (unhide HB).size))
        clear b2
        go_wp2
        exact ⟨⟨k + 1, t, x, by omega, by go_num, rfl, rfl, by omega, by omega, unhide P2, unhide G5, unhide B2⟩, by simp [intOf]; omega⟩
    · obtain rfl : k = n := by omega
      have HB := hide hbel
      clear hbel h4
      go_wp2
      go_ret
      refine ⟨?_, unhide HB⟩
      rcases unhide hP with ⟨h2, _⟩ | ⟨h0, h2, h3⟩
      · omega
      · rw [unhide HE, ← h2]
        rfl
set_option maxHeartbeats 1000000 in
theorem specPk (a : Option Addr) (n cap : Nat) (F : Nat → ByteArray) (key : ByteArray) (w : World) (hN : n ≤ 1048576) (hz : ∀ i, i < n → (F i).size ≤ 1048576) (hk : key.size ≤ 1048576) (h : Sa w a n F) :
    Calls Tryd.prog 12 #[.slice a n cap, .string key] w fun e w' => e = .returned (pbR F n key) ∧ Below w.heap.size w w' := by
  have HG := hide (specGL a n cap F w hN hz h)
  unfold pbR
  by_cases c : glB F n = true
  case neg =>
    rw [if_neg (fun z => c z.2.1)]
    rw [Bool.eq_false_iff.2 c] at HG
    go_enter Tryd.func12, Tryd.ntmps12
    go_wp2_with fail
    refine (unhide HG).mono ?_
    rintro e w1 ⟨rfl, e1⟩
    subst w1
    go_wp2
    go_ret2
    exact ⟨rfl, Below.refl _ _⟩
  rw [c] at HG
  have h12 := gl_12 c
  by_cases h0 : n = 0
  · subst h0
    rw [if_neg (fun z => absurd z.1 (Nat.lt_irrefl _))]
    clear c h
    go_enter Tryd.func12, Tryd.ntmps12
    go_wp2_with fail
    refine (unhide HG).mono ?_
    rintro e w1 ⟨rfl, e1⟩
    subst w1
    go_wp2
    go_ret2
    exact ⟨rfl, Below.refl _ _⟩
  have hn0 : ((n : Int) == 0) = false := beq_eq_false_iff_ne.2 (by omega)
  by_cases h1 : key.size ≤ 100
  case neg =>
    rw [if_neg (fun z => h1 z.2.2)]
    clear c h hz
    go_enter Tryd.func12, Tryd.ntmps12
    go_wp2_with fail
    refine (unhide HG).mono ?_
    rintro e w1 ⟨rfl, e1⟩
    subst w1
    go_wp2
    go_ret2
    exact ⟨rfl, Below.refl _ _⟩
  rw [if_pos ⟨by omega, c, h1⟩]
  have HP := hide (specP9 a n cap F key w (by omega) (by omega) (fun i hi => by have := bk_size (gl_bk c hi); omega) (by omega) h)
  have hk1 : ¬ (100 : Int) < (key.size : Int) := by omega
  clear c h hz
  generalize pkT F key n = t at *
  go_enter Tryd.func12, Tryd.ntmps12
  go_wp2_with fail
  refine (unhide HG).mono ?_
  rintro e w1 ⟨rfl, e1⟩
  subst w1
  go_wp2_with fail
  refine (unhide HP).mono ?_
  rintro e w2 ⟨rfl, q2⟩
  have B2 := hide q2
  clear q2
  go_wp2
  go_ret2
  exact ⟨rfl, unhide B2⟩
end Go.Proofs.YtpjmnnaiegdjmaaDoor
namespace Go.Proofs.YtpjmnnaiegdjmaaDoor
open Go.ChangeShapes Go.WideShapes Go.ChangeAt Go.RowKit Go.Deep
set_option linter.unusedVariables false
set_option maxRecDepth 100000

/-- the first k texts have at most so many bytes -/
def szA (F : Nat → ByteArray) (m : Nat) : Nat → Bool
  | 0 => true
  | k + 1 => szA F m k && decide ((F k).size ≤ m)
theorem szA_no (F : Nat → ByteArray) (m : Nat) : ∀ {k n : Nat}, k < n → ¬ (F k).size ≤ m → szA F m n = false
  | k, 0, h, _ => absurd h (by omega)
  | k, n + 1, h, e => by
    unfold szA
    by_cases hk : k = n
    · subst hk; rw [decide_eq_false e, Bool.and_false]
    · rw [szA_no F m (show k < n by omega) e, Bool.false_and]
theorem szA_at (F : Nat → ByteArray) (m : Nat) : ∀ {k n : Nat}, k < n → szA F m n = true → (F k).size ≤ m
  | k, 0, h, _ => absurd h (by omega)
  | k, n + 1, h, e => by
    unfold szA at e
    rw [Bool.and_eq_true] at e
    by_cases hk : k = n
    · subst hk; exact of_decide_eq_true e.2
    · exact szA_at F m (show k < n by omega) e.1
theorem within_any (a : Option Addr) (n cap most : Nat) (F : Nat → ByteArray) (w : World) (hm : most ≤ 100000) (hn : n ≤ 1048576) (hs : ∀ i, i < n → (F i).size ≤ 1048576) (h : Sa w a n F) :
    Calls Tryd.prog 34 #[.int .i64 most, .slice a n cap] w fun e w' => e = .returned (.bool (szA F most n)) ∧ w' = w := by
  have HR := hide h
  have HS := hide hs
  clear h hs
  go_enter Tryd.func34, Tryd.ntmps34
  go_wp2
  go_loopw [9] (fun i wr => ∃ k : Nat, k ≤ n ∧ i = .int .i64 k ∧ szA F most k = true ∧ wr = w) (fun i _ => n - (intOf i).toNat)
  case atStart => exact ⟨0, Nat.zero_le _, rfl, rfl, rfl⟩
  case round =>
    obtain ⟨k, hk, rfl, hA, rfl⟩ := hrel
    by_cases hlt : k < n
    · rcases unhide HR with h0 | ⟨b, o, e, h1⟩
      · omega
      subst e
      have hcf := h1.c k hlt
      have hsz := unhide HS k hlt
      have hnk : (k : Int) < (n : Int) := by omega
      by_cases c : (F k).size ≤ most
      · have hA2 : Hid (szA F most (k + 1) = true) := by show _ = _; rw [szA, hA, decide_eq_true c]; rfl
        clear h1 hA
        generalize F k = t at *
        have c2 : ¬ (most : Int) < (t.size : Int) := by omega
        go_wp2
        exact ⟨⟨k + 1, by omega, by go_num, unhide hA2, by trivial⟩, by simp [intOf]; omega⟩
      · have hE := hide (szA_no F most hlt c)
        clear h1 hA
        generalize F k = t at *
        have c2 : (most : Int) < (t.size : Int) := by omega
        go_wp2
        go_ret
        exact ⟨by rw [unhide hE]; rfl, rfl⟩
    · obtain rfl : k = n := by omega
      have HA := hide hA
      clear hA
      go_wp2
      go_ret
      exact ⟨by rw [unhide HA]; rfl, rfl⟩
/-- a key moves -/
def mvP (A B : List ByteArray) (k : ByteArray) : Bool := !decide (pkT (tA A) k A.length = pkT (tA B) k B.length)
/-- whether MovedKeys says yes -/
def mvB (A B K : List ByteArray) : Bool := (decide (0 < A.length) && glB (tA A) A.length) && (decide (0 < B.length) && glB (tA B) B.length) && decide (K.length ≤ 60) && szA (tA K) 100 K.length
/-- what it answers -/
def mvM (A B K : List ByteArray) : List ByteArray := if mvB A B K = true then K.filter (mvP A B) else []
theorem mv_step (p : ByteArray → Bool) (K : List ByteArray) (k : Nat) (h : k < K.length) : (K.take (k + 1)).filter p = (K.take k).filter p ++ if p (tA K k) = true then [tA K k] else [] := by
  rw [← take_tA K k h, List.filter_append]
  congr 1
  by_cases c : p (tA K k) = true
  · rw [if_pos c, List.filter_cons_of_pos c]; rfl
  · rw [if_neg c, List.filter_cons_of_neg c]; rfl
set_option maxHeartbeats 2000000 in
theorem implMv (aa ab ak : Option Addr) (ca cb ck : Nat) (A B K : List ByteArray) (w : World) (hA : A.length ≤ 1048576) (zA : ∀ i, i < A.length → (tA A i).size ≤ 1048576) (hB : B.length ≤ 1048576) (zB : ∀ i, i < B.length → (tA B i).size ≤ 1048576) (hK : K.length ≤ 1048576) (zK : ∀ i, i < K.length → (tA K i).size ≤ 1048576)
    (TA : Ta w aa A) (TB : Ta w ab B) (TK : Ta w ak K) (hT : Rt w) (hy : mvB A B K = true) :
    Calls Tryd.prog 21 #[.slice aa A.length ca, .slice ab B.length cb, .slice ak K.length ck] w fun e w' => ∃ v, e = .returned (.tuple #[v, .bool true]) ∧ Ost w.heap.size w' v (K.filter (mvP A B)) ∧ Below w.heap.size w w' := by
  have HA := hide (implPb aa A.length ca (tA A) w hA zA TA)
  have HB := hide (implPb ab B.length cb (tA B) w hB zB TB)
  have HW := hide (within_any ak K.length ck 100 (tA K) w (by omega) hK zK TK)
  unfold mvB at hy
  rw [Bool.and_eq_true, Bool.and_eq_true, Bool.and_eq_true] at hy
  obtain ⟨⟨⟨yA, yB⟩, y60⟩, yK⟩ := hy
  rw [yA] at HA
  rw [yB] at HB
  rw [yK] at HW
  rw [Bool.and_eq_true] at yA yB
  have gA := yA.2
  have gB := yB.2
  have nA := of_decide_eq_true yA.1
  have nB := of_decide_eq_true yB.1
  have h60 := of_decide_eq_true y60
  have l60 : ¬ (60 : Int) < (K.length : Int) := by omega
  have HPA := hide (fun k (hk : k < K.length) W (q : Below w.heap.size w W) => implPo aa ca A (tA K k) W (by have := gl_12 gA; omega) nA (fun i hi => by have := bk_size (gl_bk gA hi); omega) (by have := szA_at (tA K) 100 hk yK; omega) (TA.kept q) (hT.kept q))
  have HPB := hide (fun k (hk : k < K.length) W (q : Below w.heap.size w W) => implPo ab cb B (tA K k) W (by have := gl_12 gB; omega) nB (fun i hi => by have := bk_size (gl_bk gB hi); omega) (by have := szA_at (tA K) 100 hk yK; omega) (TB.kept q) (hT.kept q))
  have HKc := hide (fun k (hk : k < K.length) => clnT (tA K k) (by have := szA_at (tA K) 100 hk yK; omega))
  have HR := hide TK
  have HST := hide (fun k hk => mv_step (mvP A B) K k hk)
  have HMP : Hid (∀ k, mvP A B k = !decide (pkT (tA A) k A.length = pkT (tA B) k B.length)) := fun k => rfl
  generalize mvP A B = p at *
  clear yA yB yK gA gB y60 zA zB zK TA TB TK hT
  go_enter Tryd.func21, Tryd.ntmps21
  go_wp2_with fail
  refine (unhide HA).mono ?_
  rintro e w1 ⟨rfl, e1⟩
  subst w1
  go_wp2_with fail
  refine (unhide HB).mono ?_
  rintro e w1 ⟨rfl, e1⟩
  subst w1
  go_wp2_with fail
  refine (unhide HW).mono ?_
  rintro e w1 ⟨rfl, e1⟩
  subst w1
  go_wp2_with fail
  go_loopw [8, 31] (fun v i wr => ∃ k : Nat, k ≤ K.length ∧ i = .int .i64 k ∧ Ost w.heap.size wr v ((K.take k).filter p) ∧ Below w.heap.size w wr) (fun _ i _ => K.length - (intOf i).toNat)
  case atStart => exact ⟨0, Nat.zero_le _, rfl, Ost.nil _ _, Below.refl _ _⟩
  case round =>
    obtain ⟨k, hkl, rfl, hO, hbel⟩ := hrel
    by_cases hlt : k < K.length
    · rcases (unhide HR).kept hbel with h0 | ⟨b, off, rfl, hel⟩
      · omega
      have c0 := hel.c k hlt
      have hnk : (k : Int) < (K.length : Int) := by omega
      have PA := hide (unhide HPA k hlt)
      have PB := hide (unhide HPB k hlt)
      have PC := hide (unhide HKc k hlt)
      have PS := hide (unhide HST k hlt)
      have PP := hide (unhide HMP (tA K k))
      have HO := hide hO
      have HBl := hide hbel
      have hln : Hid (((K.take k).filter p).length ≤ k) := by
        show _ ≤ _
        have := List.length_filter_le p (K.take k)
        rw [List.length_take] at this
        omega
      clear hel hO hbel
      unfold sV at PA PB
      have SCX : Hid (pkT (tA A) (tA K k) A.length = pkT (tA B) (tA K k) B.length → scN (pkT (tA A) (tA K k) A.length) (tA K k) = scN (pkT (tA B) (tA K k) B.length) (tA K k)) := fun e => by rw [e]
      generalize scN (pkT (tA A) (tA K k) A.length) (tA K k) = x1 at *
      generalize scN (pkT (tA B) (tA K k) B.length) (tA K k) = x2 at *
      generalize pkT (tA A) (tA K k) A.length = t1 at *
      generalize pkT (tA B) (tA K k) B.length = t2 at *
      generalize tA K k = D at *
      go_wp2_with fail
      refine (unhide PA _ (unhide HBl)).mono ?_
      rintro e w2 ⟨rfl, b2⟩
      have B2 := hide ((unhide HBl).trans (b2.mono (unhide HBl).size))
      have HO2 := hide ((unhide HO).kept b2)
      clear b2 HO HBl
      go_wp2_with fail
      refine (unhide PB _ (unhide B2)).mono ?_
      rintro e w3 ⟨rfl, b3⟩
      have B3 := hide ((unhide B2).trans (b3.mono (unhide B2).size))
      have HO3 := hide ((unhide HO2).kept b3)
      clear b3 HO2 B2
      by_cases e : t1 = t2
      · have e3 := unhide SCX e
        subst e
        subst e3
        have PS' : Hid ((K.take (k + 1)).filter p = (K.take k).filter p) := by
          show _ = _
          rw [unhide PS, unhide PP, decide_eq_true rfl]
          simp
        clear PS PP SCX
        go_wp2
        exact ⟨⟨k + 1, by omega, by go_num, by rw [unhide PS']; exact unhide HO3, unhide B3⟩, by simp [intOf]; omega⟩
      · have PS' : Hid ((K.take (k + 1)).filter p = (K.take k).filter p ++ [D]) := by
          show _ = _
          rw [unhide PS, unhide PP, decide_eq_false e]
          rfl
        have en : (t1.toList == t2.toList) = false := by rw [beq_txt]; exact decide_eq_false e
        clear PS PP SCX e
        go_wp2_with fail
        refine (unhide PC _).mono ?_
        rintro e w4 ⟨rfl, b4⟩
        have B4 := hide ((unhide B3).trans (b4.mono (unhide B3).size))
        obtain ⟨v', w', hrun, hO', hg, _⟩ := appS (w4.alloc (.cells #[.string D] 9)) 25 w.heap.size u8 ((K.take k).filter p) (((unhide HO3).kept b4).kept ((Below.refl _ _).alloc (Nat.le_refl _) _)) (some ⟨w4.heap.size, 0, none⟩) 1 [D] (sc_txt w4 D _) (by have := unhide hln; show _ + 1 ≤ _; omega) (by have := (unhide B4).size; simp; omega)
        have hrun' : (Builtin.append_ #[25, 25] 25 #[u8, .slice (some ⟨w4.heap.size, 0, none⟩) 1 1]).run Tryd.prog (w4.alloc (.cells #[.string D] 9)) = .ok v' w' := hrun
        rw [← unhide PS'] at hO'
        have HO5 := hide hO'
        have HB5 := hide (((unhide B4).alloc (unhide B4).size (.cells #[.string D] 9)).trans hg)
        have RUN := hide hrun'
        clear hrun hrun' hO' hg b4 PS'
        go_wp2_with (at_builtin; refine wpl_app rfl _ _ 25 rfl _ _ _ _ rfl rfl (unhide RUN) ?_)
        exact ⟨⟨k + 1, by omega, by go_num, unhide HO5, unhide HB5⟩, by simp [intOf]; omega⟩
    · obtain rfl : k = K.length := by omega
      rw [List.take_length] at hO
      have HO := hide hO
      have HB := hide hbel
      clear hO hbel
      go_wp2
      go_ret2
      exact ⟨_, rfl, unhide HO, unhide HB⟩
end Go.Proofs.YtpjmnnaiegdjmaaDoor
