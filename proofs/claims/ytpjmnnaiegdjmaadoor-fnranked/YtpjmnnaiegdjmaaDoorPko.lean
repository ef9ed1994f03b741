/-
  Contracts: the greatest of a row of scores, the pick, of the program.
-/
import Derived.Test.YtpjmnnaiegdjmaaDoorFlaX
namespace Go.Proofs.YtpjmnnaiegdjmaaDoor
open Go.ChangeShapes Go.WideShapes Go.ChangeAt Go.RowKit Go.Deep
set_option linter.unusedVariables false
set_option maxRecDepth 100000

theorem cm_gt {x y : Nat} (h : y < x) : cmI (x : Int) (y : Int) = 1 := by unfold cmI; rw [if_neg (by omega), if_pos (by omega)]
theorem cm_ng {x y : Nat} (h : ¬ y < x) : cmI (x : Int) (y : Int) = 0 ∨ cmI (x : Int) (y : Int) = -1 := by
  unfold cmI
  by_cases h1 : (x : Int) < y
  · rw [if_pos h1]; exact Or.inr rfl
  · rw [if_neg h1, if_neg (by omega)]; exact Or.inl rfl
set_option maxHeartbeats 1000000 in
theorem implGr1 (g cap : Nat) (key : ByteArray) (F : Nat → ByteArray) (w : World) (hc : 1 ≤ cap) (h : Sx w g 1 key F) :
    Calls Tryd.prog 65 #[.slice (some ⟨g, 0, none⟩) 1 cap, .func (.func 45) #[] #[]] w fun e w' => e = .returned (sV (F 0) key) ∧ Below w.heap.size w w' := by
  unfold sV
  have c0 := h.c0 0 (by omega)
  have c1 := h.c1 0 (by omega)
  have hg := h.lt
  rw [Nat.zero_mul] at c0 c1
  rw [Nat.zero_add] at c1
  have hg1 : g ≠ w.heap.size := by omega
  have hg2 : g ≠ w.heap.size + 1 := by omega
  have hcI : (1 : Int) ≤ (cap : Int) := by omega
  clear h
  generalize scN (F 0) key = n0 at *
  generalize F 0 = t0 at *
  go_enter Tryd.func65, Tryd.ntmps65
  go_wp2
  all_goals
    refine wp_loop_rounds 1 ?_
    rw [rounds_succ]
    go_wp2
    refine bodyPost_ret (v := .agg #[.string t0, .int .i64 n0]) (by simp [results, Tryd.results65, go_sem]) rfl ⟨rfl, ?_⟩
    repeat first | exact Below.refl _ _ | refine Below.setCell ?_ (by simp) _ | refine Below.alloc ?_ (by simp) _
set_option maxHeartbeats 1000000 in
theorem implGr (g m cap : Nat) (key : ByteArray) (F : Nat → ByteArray) (w : World) (hm : 1 ≤ m) (hN : m ≤ 1000) (hc : m + 1 ≤ cap) (hcm : cap ≤ maxLen) (h : Sx w g (m + 1) key F) :
    Calls Tryd.prog 65 #[.slice (some ⟨g, 0, none⟩) (m + 1) cap, .func (.func 45) #[] #[]] w fun e w' => e = .returned (sV (F (pkI F key m)) key) ∧ Below w.heap.size w w' := by
  unfold maxLen at hcm
  have HX := hide h
  have c0 := h.c0 0 (by omega)
  have c1 := h.c1 0 (by omega)
  have hg := h.lt
  rw [Nat.zero_mul] at c0 c1
  rw [Nat.zero_add] at c1
  have hg1 : g ≠ w.heap.size := by omega
  have hg2 : g ≠ w.heap.size + 1 := by omega
  have hcI : (1 : Int) ≤ (cap : Int) := by omega
  have hc1 : ¬ cap = 1 := by omega
  have R5 : Hid (Bx ((w.alloc (.cells #[.string ⟨#[]⟩, .int .i64 0] 47)).alloc (.cells #[.string (F 0), .int .i64 (scN (F 0) key : Nat)] 47)) (w.heap.size + 1) [.string (F 0), .int .i64 (scN (F 0) key : Nat)]) := Bx.newAt (w.alloc _) _ _ _ (by simp)
  have R4 : Hid (Bx ((w.alloc (.cells #[.string ⟨#[]⟩, .int .i64 0] 47)).alloc (.cells #[.string (F 0), .int .i64 (scN (F 0) key : Nat)] 47)) w.heap.size [.string ⟨#[]⟩, .int .i64 0]) := (Bx.new w _ _).alloc _
  have B0 : Hid (Below w.heap.size w ((w.alloc (.cells #[.string ⟨#[]⟩, .int .i64 0] 47)).alloc (.cells #[.string (F 0), .int .i64 (scN (F 0) key : Nat)] 47))) := ((Below.refl _ _).alloc (Nat.le_refl _) _).alloc (by simp) _
  clear h
  go_enter Tryd.func65, Tryd.ntmps65
  go_wp2
  have Z0 : Hid (scN (F 0) key = scN (F (pkI F key 0)) key) := rfl
  generalize hz0 : scN (F 0) key = z0 at *
  go_loopw [14] (fun i wr => ∃ (k : Nat) (t : ByteArray) (x : Nat), k ≤ m ∧ i = .int .i64 k ∧ Hid (t = F (pkI F key k) ∧ x = scN (F (pkI F key k)) key) ∧ Bx wr (w.heap.size + 1) [.string t, .int .i64 x] ∧ Bx wr w.heap.size [.string ⟨#[]⟩, .int .i64 0] ∧ Below w.heap.size w wr) (fun i _ => m - (intOf i).toNat)
  case atStart => exact ⟨0, F 0, z0, by omega, rfl, ⟨rfl, unhide Z0⟩, unhide R5, unhide R4, unhide B0⟩
  case round =>
    obtain ⟨k, t, x, hk, rfl, hP, X5, X4, hbel⟩ := hrel
    by_cases hlt : k < m
    · have hx := (unhide HX).kept hbel
      have d0 := hx.c0 (k + 1) (by omega)
      have d1 := hx.c1 (k + 1) (by omega)
      rw [show (k + 1) * 2 = 2 + k * 2 by omega] at d0 d1
      have hkm : (k : Int) < (m : Int) := by omega
      have HB := hide (implBs (F (k + 1)) t (scN (F (k + 1)) key : Nat) (x : Nat))
      have HPK : Hid (pkI F key (k + 1) = if scN (F (pkI F key k)) key < scN (F (k + 1)) key then k + 1 else pkI F key k) := rfl
      have hz := X5.lt
      have X7 := Bx.new wr [.string (F (k + 1)), .int .i64 (scN (F (k + 1)) key : Nat)] 47
      have Y5 := X5.alloc (.cells #[.string (F (k + 1)), .int .i64 (scN (F (k + 1)) key : Nat)] 47)
      have y5 := Y5.cv
      have HY5 := hide Y5
      have HX7 := hide X7
      have HX4 := hide (X4.alloc (.cells #[.string (F (k + 1)), .int .i64 (scN (F (k + 1)) key : Nat)] 47))
      have HBL := hide (hbel.alloc hbel.size (.cells #[.string (F (k + 1)), .int .i64 (scN (F (k + 1)) key : Nat)] 47))
      clear hx X5 X4 hbel X7 Y5
      by_cases c : x < scN (F (k + 1)) key
      · have P2 : Hid (F (k + 1) = F (pkI F key (k + 1)) ∧ scN (F (k + 1)) key = scN (F (pkI F key (k + 1))) key) := by
          have e := unhide HPK
          rw [if_pos (by rw [← (unhide hP).2]; exact c)] at e
          show _ ∧ _
          rw [e]
          exact ⟨rfl, rfl⟩
        rw [cm_gt c] at HB
        have HC := hide c
        clear c hP HPK
        generalize scN (F (k + 1)) key = y at *
        generalize F (k + 1) = t1 at *
        go_wp2_with fail
        refine (unhide HB _).mono ?_
        rintro e w1 ⟨rfl, q1⟩
        have Z5 := (unhide HY5).below q1
        have Z7 := (unhide HX7).below q1
        have Z4 := hide ((unhide HX4).below q1)
        have ZB := hide ((unhide HBL).trans (q1.mono (unhide HBL).size))
        have z5 := Z5.cv
        have z5f := Z5.fz
        have z7 := Z7.cv
        have z9 : w.heap.size + 1 < w1.heap.size := Z5.lt
        have H5 := hide Z5
        clear Z5 Z7 q1 y5
        go_wp2
        refine ⟨⟨k + 1, t1, y, by omega, by go_num, P2, ?_, ?_, ?_⟩, by simp [intOf]; omega⟩
        · exact ((unhide H5).set (i := 0) (by simp)).set (i := 1) (by simp)
        · exact ((unhide Z4).other (by omega)).other (by omega)
        · exact ((unhide ZB).setCell (by simp) _).setCell (by simp) _
      · have P2 : Hid (t = F (pkI F key (k + 1)) ∧ x = scN (F (pkI F key (k + 1))) key) := by
          have e := unhide HPK
          rw [if_neg (by rw [← (unhide hP).2]; exact c)] at e
          show _ ∧ _
          rw [e]
          exact unhide hP
        rcases cm_ng c with e9 | e9
        all_goals
          rw [e9] at HB
          clear c hP HPK e9
          generalize scN (F (k + 1)) key = y at *
          generalize F (k + 1) = t1 at *
          go_wp2_with fail
          refine (unhide HB _).mono ?_
          rintro e w1 ⟨rfl, q1⟩
          have Z5 := hide ((unhide HY5).below q1)
          have Z4 := hide ((unhide HX4).below q1)
          have ZB := hide ((unhide HBL).trans (q1.mono (unhide HBL).size))
          clear q1 y5
          go_wp2
          exact ⟨⟨k + 1, t, x, by omega, by go_num, P2, unhide Z5, unhide Z4, unhide ZB⟩, by simp [intOf]; omega⟩
    · obtain rfl : k = m := by omega
      have x5 := X5.cv
      have x4 := X4.cv
      have x4f := X4.fz
      have HB := hide hbel
      clear X5 X4 hbel
      go_wp2
      refine bodyPost_ret (v := .agg #[.string t, .int .i64 x]) (by simp [results, Tryd.results65, go_sem, x4]) rfl ⟨?_, ?_⟩
      · unfold sV
        rw [← (unhide hP).2, ← (unhide hP).1]
      · exact ((unhide HB).setCell (by simp) _).setCell (by simp) _
set_option maxHeartbeats 1000000 in
theorem implPo (a : Option Addr) (cap : Nat) (L : List ByteArray) (key : ByteArray) (w : World) (hN : L.length ≤ 1000) (hn : 0 < L.length) (hz : ∀ i, i < L.length → (tA L i).size ≤ 1000) (hk : key.size ≤ 1000) (h : Ta w a L) (hT : Rt w) :
    Calls Tryd.prog 40 #[.slice a L.length cap, .string key] w fun e w' => e = .returned (sV (pkT (tA L) key L.length) key) ∧ Below w.heap.size w w' := by
  have HS := hide (fun W (q : Below w.heap.size w W) => implSs a cap L key W hN hz hk (h.kept q) (hT.kept q))
  clear hz h hT
  obtain ⟨t, ht⟩ : ∃ t, t = pkT (tA L) key L.length := ⟨_, rfl⟩
  obtain ⟨x, hx⟩ : ∃ x, x = scN t key := ⟨_, rfl⟩
  have HV : Hid (sV (pkT (tA L) key L.length) key = .agg #[.string t, .int .i64 (x : Nat)]) := by
    show _ = _
    unfold sV
    rw [← ht, ← hx]
  rw [unhide HV]
  clear ht hx
  go_enter Tryd.func40, Tryd.ntmps40
  go_wp2_with fail
  refine (unhide HS _ ((Below.refl _ _).alloc (Nat.le_refl _) _)).mono ?_
  rintro e w1 ⟨v, rfl, hO, b1⟩
  have hO := hide hO
  have R1 := hide ((Bx.new w [.string ⟨#[]⟩, .int .i64 0] 47).below b1)
  have B1 := hide (((Below.refl w.heap.size w).alloc (Nat.le_refl _) _).trans (b1.mono (by simp)))
  clear b1
  obtain ⟨a1, cap1, rfl, hc1, hc2, hf⟩ := (unhide hO).form
  rcases hf with hf | ⟨g, rfl, hg, hX, _⟩
  · omega
  have HG : Hid (Calls Tryd.prog 65 #[.slice (some ⟨g, 0, none⟩) L.length cap1, .func (.func 45) #[] #[]] w1 fun e w' => e = .returned (sV (pkT (tA L) key L.length) key) ∧ Below w1.heap.size w1 w') := by
    unfold pkT
    obtain ⟨m, hm⟩ : ∃ m, L.length = m + 1 := ⟨L.length - 1, by omega⟩
    rw [hm] at hX hc1 ⊢
    rw [Nat.add_sub_cancel]
    by_cases h1 : m = 0
    · subst h1
      exact implGr1 g cap1 key (tA L) w1 (by omega) hX
    · exact implGr g m cap1 key (tA L) w1 (by omega) (by omega) hc1 hc2 hX
  clear hX hO hc1 hc2 hg HS
  rw [unhide HV] at HG
  clear HV
  go_wp2_with fail
  refine (unhide HG).mono ?_
  rintro e w2 ⟨rfl, b2⟩
  have R2 := (unhide R1).below b2
  have B2 := hide ((unhide B1).trans (b2.mono (unhide B1).size))
  have r1 := R2.cv
  have r2 := R2.fz
  clear R2 b2
  go_wp2
  refine bodyPost_ret (v := .agg #[.string t, .int .i64 x]) (by simp [results, Tryd.results40, go_sem, r1]) rfl ⟨rfl, ?_⟩
  exact ((unhide B2).setCell (Nat.le_refl _) _).setCell (Nat.le_refl _) _
theorem implPb (a : Option Addr) (n cap : Nat) (F : Nat → ByteArray) (w : World) (hn : n ≤ 1048576) (hs : ∀ i, i < n → (F i).size ≤ 1048576) (h : Sa w a n F) :
    Calls Tryd.prog 38 #[.slice a n cap] w fun e w' => e = .returned (.bool (decide (0 < n) && glB F n)) ∧ w' = w := by
  have HG := hide (implGL a n cap F w hn hs h)
  generalize glB F n = r at *
  by_cases h0 : 0 < n
  · rw [decide_eq_true h0, Bool.true_and]
    have hI : (0 : Int) < (n : Int) := by omega
    go_enter Tryd.func38, Tryd.ntmps38
    go_wp2_with fail
    refine (unhide HG).mono ?_
    rintro e w1 ⟨rfl, e1⟩
    subst w1
    go_wp2
    go_ret
    exact ⟨rfl, rfl⟩
  · rw [decide_eq_false h0, Bool.false_and]
    have hI : ¬ (0 : Int) < (n : Int) := by omega
    go_enter Tryd.func38, Tryd.ntmps38
    go_wp2
    go_ret
    exact ⟨rfl, rfl⟩
/-- what PickBackend answers -/
def pbR (F : Nat → ByteArray) (n : Nat) (key : ByteArray) : Value := if 0 < n ∧ glB F n = true ∧ key.size ≤ 100 then .tuple #[.string (pkT F key n), .bool true] else .tuple #[.string ⟨#[]⟩, .bool false]
theorem pk_size {F : Nat → ByteArray} {n : Nat} (key : ByteArray) (h : glB F n = true) (h0 : 0 < n) : (pkT F key n).size ≤ 12 := by
  have h1 := pkI_le F key (n - 1)
  exact bk_size (gl_bk h (by omega))
set_option maxHeartbeats 1000000 in
theorem implPk (a : Option Addr) (cap : Nat) (L : List ByteArray) (key : ByteArray) (w : World) (hN : L.length ≤ 1048576) (hz : ∀ i, i < L.length → (tA L i).size ≤ 1048576) (hk : key.size ≤ 1048576) (h : Ta w a L) (hT : Rt w) :
    Calls Tryd.prog 14 #[.slice a L.length cap, .string key] w fun e w' => e = .returned (pbR (tA L) L.length key) ∧ Below w.heap.size w w' := by
  have HG := hide (fun W (q : Below w.heap.size w W) => implPb a L.length cap (tA L) W hN hz (h.kept q))
  unfold pbR
  by_cases c : (decide (0 < L.length) && glB (tA L) L.length) = true
  case neg =>
    rw [if_neg (fun z => c (by rw [decide_eq_true z.1, z.2.1]; rfl))]
    rw [Bool.eq_false_iff.2 c] at HG
    go_enter Tryd.func14, Tryd.ntmps14
    go_wp2_with fail
    refine (unhide HG _ (Below.refl _ _)).mono ?_
    rintro e w1 ⟨rfl, e1⟩
    subst w1
    go_wp2
    go_ret2
    exact ⟨rfl, Below.refl _ _⟩
  have c0 := c
  rw [Bool.and_eq_true] at c0
  have hn := of_decide_eq_true c0.1
  have hgl := c0.2
  rw [c] at HG
  have HW := hide (fun W g q hc => within_one key 100 (by omega) hk W g q hc)
  clear c c0
  by_cases h1 : key.size ≤ 100
  case neg =>
    rw [if_neg (fun z => h1 z.2.2)]
    rw [decide_eq_false h1] at HW
    clear hgl h hT hz
    go_enter Tryd.func14, Tryd.ntmps14
    go_wp2_with fail
    refine (unhide HG _ (Below.refl _ _)).mono ?_
    rintro e w1 ⟨rfl, e1⟩
    subst w1
    go_wp2_with fail
    refine (unhide HW _ _ _ (by simp)).mono ?_
    rintro e w2 ⟨rfl, e2⟩
    subst w2
    go_wp2
    go_ret2
    exact ⟨rfl, (Below.refl _ _).alloc (Nat.le_refl _) _⟩
  rw [if_pos ⟨hn, hgl, h1⟩]
  rw [decide_eq_true h1] at HW
  have h12 := gl_12 hgl
  have HP := hide (fun W (q : Below w.heap.size w W) => implPo a cap L key W (by omega) hn (fun i hi => by have := bk_size (gl_bk hgl hi); omega) (by omega) (h.kept q) (hT.kept q))
  have HC := hide (fun W => clnT (pkT (tA L) key L.length) (by have := pk_size key hgl hn; omega) W)
  clear hgl h hT hz
  unfold sV at HP
  have fd := fld0 (pkT (tA L) key L.length) (scN (pkT (tA L) key L.length) key : Nat)
  generalize scN (pkT (tA L) key L.length) key = x at *
  generalize pkT (tA L) key L.length = t at *
  go_enter Tryd.func14, Tryd.ntmps14
  go_wp2_with fail
  refine (unhide HG _ (Below.refl _ _)).mono ?_
  rintro e w1 ⟨rfl, e1⟩
  subst w1
  go_wp2_with fail
  refine (unhide HW _ _ _ (by simp)).mono ?_
  rintro e w2 ⟨rfl, e2⟩
  subst w2
  go_wp2_with fail
  refine (unhide HP _ ((Below.refl _ _).alloc (Nat.le_refl _) _)).mono ?_
  rintro e w3 ⟨rfl, q3⟩
  have B3 := hide (((Below.refl w.heap.size w).alloc (Nat.le_refl _) _).trans (q3.mono (by simp)))
  clear q3
  go_wp2_with fail
  refine (unhide HC _).mono ?_
  rintro e w4 ⟨rfl, q4⟩
  have B4 := hide ((unhide B3).trans (q4.mono (unhide B3).size))
  clear q4
  go_wp2
  go_ret2
  exact ⟨rfl, unhide B4⟩
end Go.Proofs.YtpjmnnaiegdjmaaDoor
