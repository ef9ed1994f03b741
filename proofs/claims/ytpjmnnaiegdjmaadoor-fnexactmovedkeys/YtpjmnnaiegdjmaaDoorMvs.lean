/-
  Contracts: MovedKeys where it says no; the model's MovedKeys.
-/
import Derived.Test.YtpjmnnaiegdjmaaDoorMvk
namespace Go.Proofs.YtpjmnnaiegdjmaaDoor
open Go.ChangeShapes Go.WideShapes Go.ChangeAt Go.RowKit Go.Deep
set_option linter.unusedVariables false
set_option maxRecDepth 100000

set_option maxHeartbeats 2000000 in
theorem implMvN (aa ab ak : Option Addr) (ca cb ck : Nat) (A B K : List ByteArray) (w : World) (hA : A.length ≤ 1048576) (zA : ∀ i, i < A.length → (tA A i).size ≤ 1048576) (hB : B.length ≤ 1048576) (zB : ∀ i, i < B.length → (tA B i).size ≤ 1048576) (hK : K.length ≤ 1048576) (zK : ∀ i, i < K.length → (tA K i).size ≤ 1048576)
    (TA : Ta w aa A) (TB : Ta w ab B) (TK : Ta w ak K) (hy : mvB A B K = false) :
    Calls Tryd.prog 21 #[.slice aa A.length ca, .slice ab B.length cb, .slice ak K.length ck] w fun e w' => e = .returned (.tuple #[.slice none 0 0, .bool false]) ∧ Below w.heap.size w w' := by
  have HA := hide (implPb aa A.length ca (tA A) w hA zA TA)
  have HB := hide (implPb ab B.length cb (tA B) w hB zB TB)
  have HW := hide (within_any ak K.length ck 100 (tA K) w (by omega) hK zK TK)
  unfold mvB at hy
  clear zA zB zK TA TB TK
  generalize (decide (0 < A.length) && glB (tA A) A.length) = p1 at *
  generalize (decide (0 < B.length) && glB (tA B) B.length) = p2 at *
  generalize szA (tA K) 100 K.length = p4 at *
  cases p1 with
  | false =>
    clear hy
    go_enter Tryd.func21, Tryd.ntmps21
    go_wp2_with fail
    refine (unhide HA).mono ?_
    rintro e w1 ⟨rfl, e1⟩
    subst w1
    go_wp2
    go_ret2
    exact ⟨rfl, Below.refl _ _⟩
  | true =>
  cases p2 with
  | false =>
    clear hy
    go_enter Tryd.func21, Tryd.ntmps21
    go_wp2_with fail
    refine (unhide HA).mono ?_
    rintro e w1 ⟨rfl, e1⟩
    subst w1
    go_wp2_with fail
    refine (unhide HB).mono ?_
    rintro e w1 ⟨rfl, e1⟩
    subst w1
    go_wp2
    go_ret2
    exact ⟨rfl, Below.refl _ _⟩
  | true =>
  by_cases h60 : K.length ≤ 60
  case neg =>
    clear hy
    have l60 : (60 : Int) < (K.length : Int) := by omega
    go_enter Tryd.func21, Tryd.ntmps21
    go_wp2_with fail
    refine (unhide HA).mono ?_
    rintro e w1 ⟨rfl, e1⟩
    subst w1
    go_wp2_with fail
    refine (unhide HB).mono ?_
    rintro e w1 ⟨rfl, e1⟩
    subst w1
    go_wp2
    go_ret2
    exact ⟨rfl, Below.refl _ _⟩
  have l60 : ¬ (60 : Int) < (K.length : Int) := by omega
  cases p4 with
  | false =>
    clear hy
    go_enter Tryd.func21, Tryd.ntmps21
    go_wp2_with fail
    refine (unhide HA).mono ?_
    rintro e w1 ⟨rfl, e1⟩
    subst w1
    go_wp2_with fail
    refine (unhide HB).mono ?_
    rintro e w1 ⟨rfl, e1⟩
    subst w1
    go_wp2_with fail
    refine (unhide HW).mono ?_
    rintro e w1 ⟨rfl, e1⟩
    subst w1
    go_wp2
    go_ret2
    exact ⟨rfl, Below.refl _ _⟩
  | true =>
    rw [decide_eq_true h60] at hy
    exact absurd hy (by decide)
set_option maxHeartbeats 2000000 in
theorem specMv (aa ab ak : Option Addr) (ca cb ck : Nat) (A B K : List ByteArray) (w : World) (hA : A.length ≤ 1048576) (zA : ∀ i, i < A.length → (tA A i).size ≤ 1048576) (hB : B.length ≤ 1048576) (zB : ∀ i, i < B.length → (tA B i).size ≤ 1048576) (hK : K.length ≤ 1048576) (zK : ∀ i, i < K.length → (tA K i).size ≤ 1048576)
    (TA : Ta w aa A) (TB : Ta w ab B) (TK : Ta w ak K) (yA : (decide (0 < A.length) && glB (tA A) A.length) = true) (yB : (decide (0 < B.length) && glB (tA B) B.length) = true) (h60 : K.length ≤ 60) :
    Calls Tryd.prog 20 #[.slice aa A.length ca, .slice ab B.length cb, .slice ak K.length ck] w fun e w' => (szA (tA K) 100 K.length = false ∧ e = .returned (.tuple #[.slice none 0 0, .bool false]) ∨ szA (tA K) 100 K.length = true ∧ ∃ v, e = .returned (.tuple #[v, .bool true]) ∧ Ost w.heap.size w' v (K.filter (mvP A B))) ∧ Below w.heap.size w w' := by
  rw [Bool.and_eq_true] at yA yB
  have gA := yA.2
  have gB := yB.2
  have nA := of_decide_eq_true yA.1
  have nB := of_decide_eq_true yB.1
  have HA := hide (specGL aa A.length ca (tA A) w hA zA TA)
  have HB := hide (specGL ab B.length cb (tA B) w hB zB TB)
  rw [gA] at HA
  rw [gB] at HB
  have l60 : ¬ (60 : Int) < (K.length : Int) := by omega
  have bA : ((A.length : Int) == 0) = false := beq_eq_false_iff_ne.2 (by omega)
  have bB : ((B.length : Int) == 0) = false := beq_eq_false_iff_ne.2 (by omega)
  have HPA := hide (fun k (hk : (tA K k).size ≤ 100) W (q : Below w.heap.size w W) => specP9 aa A.length ca (tA A) (tA K k) W (by have := gl_12 gA; omega) nA (fun i hi => by have := bk_size (gl_bk gA hi); omega) (by omega) (TA.kept q))
  have HPB := hide (fun k (hk : (tA K k).size ≤ 100) W (q : Below w.heap.size w W) => specP9 ab B.length cb (tA B) (tA K k) W (by have := gl_12 gB; omega) nB (fun i hi => by have := bk_size (gl_bk gB hi); omega) (by omega) (TB.kept q))
  have HR := hide TK
  have HZ := hide zK
  have HST := hide (fun k hk => mv_step (mvP A B) K k hk)
  have HMP : Hid (∀ k, mvP A B k = !decide (pkT (tA A) k A.length = pkT (tA B) k B.length)) := fun k => rfl
  generalize mvP A B = p at *
  clear yA yB gA gB zA zB zK TA TB TK
  go_enter Tryd.func20, Tryd.ntmps20
  go_wp2_with fail
  refine (unhide HA).mono ?_
  rintro e w1 ⟨rfl, e1⟩
  subst w1
  go_wp2_with fail
  refine (unhide HB).mono ?_
  rintro e w1 ⟨rfl, e1⟩
  subst w1
  go_wp2_with fail
  go_loopw [8, 36] (fun v i wr => ∃ k : Nat, k ≤ K.length ∧ i = .int .i64 k ∧ Hid (szA (tA K) 100 k = true) ∧ Ost w.heap.size wr v ((K.take k).filter p) ∧ Below w.heap.size w wr) (fun _ i _ => K.length - (intOf i).toNat)
  case atStart => exact ⟨0, Nat.zero_le _, rfl, rfl, Ost.nil _ _, Below.refl _ _⟩
  case round =>
    obtain ⟨k, hkl, rfl, hs, hO, hbel⟩ := hrel
    by_cases hlt : k < K.length
    · rcases (unhide HR).kept hbel with h0 | ⟨b, off, rfl, hel⟩
      · omega
      have c0 := hel.c k hlt
      have hnk : (k : Int) < (K.length : Int) := by omega
      have hzk := unhide HZ k hlt
      have HO := hide hO
      have HBl := hide hbel
      clear hel hO hbel
      by_cases hk1 : (tA K k).size ≤ 100
      case neg =>
        have hE := hide (szA_no (tA K) 100 hlt hk1)
        clear HO
        generalize tA K k = D at *
        have c2 : (100 : Int) < (D.size : Int) := by omega
        go_wp2
        go_ret2
        exact ⟨Or.inl ⟨unhide hE, rfl⟩, unhide HBl⟩
      have hs2 : Hid (szA (tA K) 100 (k + 1) = true) := by show _ = _; rw [szA, unhide hs, decide_eq_true hk1]; rfl
      have PA := hide (unhide HPA k hk1)
      have PB := hide (unhide HPB k hk1)
      have PS := hide (unhide HST k hlt)
      have PP := hide (unhide HMP (tA K k))
      have hln : Hid (((K.take k).filter p).length ≤ k) := by
        show _ ≤ _
        have := List.length_filter_le p (K.take k)
        rw [List.length_take] at this
        omega
      generalize pkT (tA A) (tA K k) A.length = t1 at *
      generalize pkT (tA B) (tA K k) B.length = t2 at *
      generalize tA K k = D at *
      have c2 : ¬ (100 : Int) < (D.size : Int) := by omega
      go_wp2_with fail
      refine (unhide PA _ (unhide HBl)).mono ?_
      rintro e w2 ⟨rfl, b2⟩
      have B2 := hide ((unhide HBl).trans (b2.mono (unhide HBl).size))
      have HO2 := hide ((unhide HO).kept b2)
      clear b2 HO HBl
      go_wp2_with fail
      refine (unhide PB _ (unhide B2)).mono ?_
      rintro e w3 ⟨rfl, b3⟩
      have B3 := hide ((unhide B2).trans (b3.mono (unhide B2).size))
      have HO3 := hide ((unhide HO2).kept b3)
      clear b3 HO2 B2
      by_cases e : t1 = t2
      · subst e
        have PS' : Hid ((K.take (k + 1)).filter p = (K.take k).filter p) := by
          show _ = _
          rw [unhide PS, unhide PP, decide_eq_true rfl]
          simp
        clear PS PP
        go_wp2
        exact ⟨⟨k + 1, by omega, by go_num, hs2, by rw [unhide PS']; exact unhide HO3, unhide B3⟩, by simp [intOf]; omega⟩
      · have PS' : Hid ((K.take (k + 1)).filter p = (K.take k).filter p ++ [D]) := by
          show _ = _
          rw [unhide PS, unhide PP, decide_eq_false e]
          rfl
        have en : (t1.toList == t2.toList) = false := by rw [beq_txt]; exact decide_eq_false e
        obtain ⟨v', w', hrun, hO', hg, _⟩ := appS (w3.alloc (.cells #[.string D] 9)) 25 w.heap.size u8 ((K.take k).filter p) ((unhide HO3).kept ((Below.refl _ _).alloc (Nat.le_refl _) _)) (some ⟨w3.heap.size, 0, none⟩) 1 [D] (sc_txt w3 D _) (by have := unhide hln; show _ + 1 ≤ _; omega) (by have := (unhide B3).size; simp; omega)
        have hrun' : (Builtin.append_ #[25, 25] 25 #[u8, .slice (some ⟨w3.heap.size, 0, none⟩) 1 1]).run Tryd.prog (w3.alloc (.cells #[.string D] 9)) = .ok v' w' := hrun
        rw [← unhide PS'] at hO'
        have HO5 := hide hO'
        have HB5 := hide (((unhide B3).alloc (unhide B3).size (.cells #[.string D] 9)).trans hg)
        have RUN := hide hrun'
        clear hrun hrun' hO' hg PS' PS PP e
        go_wp2_with (at_builtin; refine wpl_app rfl _ _ 25 rfl _ _ _ _ rfl rfl (unhide RUN) ?_)
        exact ⟨⟨k + 1, by omega, by go_num, hs2, unhide HO5, unhide HB5⟩, by simp [intOf]; omega⟩
    · obtain rfl : k = K.length := by omega
      rw [List.take_length] at hO
      have HO := hide hO
      have HB := hide hbel
      clear hO hbel
      go_wp2
      go_ret2
      exact ⟨Or.inr ⟨unhide hs, _, rfl, unhide HO⟩, unhide HB⟩
set_option maxHeartbeats 2000000 in
theorem specMvN (aa ab ak : Option Addr) (ca cb ck : Nat) (A B K : List ByteArray) (w : World) (hA : A.length ≤ 1048576) (zA : ∀ i, i < A.length → (tA A i).size ≤ 1048576) (hB : B.length ≤ 1048576) (zB : ∀ i, i < B.length → (tA B i).size ≤ 1048576) (hK : K.length ≤ 1048576)
    (TA : Ta w aa A) (TB : Ta w ab B) (hy : ((decide (0 < A.length) && glB (tA A) A.length) && (decide (0 < B.length) && glB (tA B) B.length) && decide (K.length ≤ 60)) = false) :
    Calls Tryd.prog 20 #[.slice aa A.length ca, .slice ab B.length cb, .slice ak K.length ck] w fun e w' => e = .returned (.tuple #[.slice none 0 0, .bool false]) ∧ Below w.heap.size w w' := by
  have HA := hide (specGL aa A.length ca (tA A) w hA zA TA)
  have HB := hide (specGL ab B.length cb (tA B) w hB zB TB)
  clear zA zB TA TB
  generalize glB (tA A) A.length = p1 at *
  generalize glB (tA B) B.length = p2 at *
  cases p1 with
  | false =>
    clear hy
    go_enter Tryd.func20, Tryd.ntmps20
    go_wp2_with fail
    refine (unhide HA).mono ?_
    rintro e w1 ⟨rfl, e1⟩
    subst w1
    go_wp2
    go_ret2
    exact ⟨rfl, Below.refl _ _⟩
  | true =>
  cases p2 with
  | false =>
    clear hy
    go_enter Tryd.func20, Tryd.ntmps20
    go_wp2_with fail
    refine (unhide HA).mono ?_
    rintro e w1 ⟨rfl, e1⟩
    subst w1
    go_wp2_with fail
    refine (unhide HB).mono ?_
    rintro e w1 ⟨rfl, e1⟩
    subst w1
    go_wp2
    go_ret2
    exact ⟨rfl, Below.refl _ _⟩
  | true =>
    have hf : Hid (0 < A.length → 0 < B.length → (60 : Int) < (K.length : Int)) := fun h1 h2 => by
      by_cases h3 : K.length ≤ 60
      · rw [decide_eq_true h1, decide_eq_true h2, decide_eq_true h3] at hy
        exact absurd hy (by decide)
      · omega
    clear hy
    go_enter Tryd.func20, Tryd.ntmps20
    go_wp2_with fail
    refine (unhide HA).mono ?_
    rintro e w1 ⟨rfl, e1⟩
    subst w1
    go_wp2_with fail
    refine (unhide HB).mono ?_
    rintro e w1 ⟨rfl, e1⟩
    subst w1
    by_cases h1 : 0 < A.length
    · have b1 : ((A.length : Int) == 0) = false := beq_eq_false_iff_ne.2 (by omega)
      by_cases h2 : 0 < B.length
      · have b2 : ((B.length : Int) == 0) = false := beq_eq_false_iff_ne.2 (by omega)
        have b3 := unhide hf h1 h2
        go_wp2
        go_ret2
        exact ⟨rfl, Below.refl _ _⟩
      · have b2 : ((B.length : Int) == 0) = true := beq_iff_eq.2 (by omega)
        go_wp2
        go_ret2
        exact ⟨rfl, Below.refl _ _⟩
    · have b1 : ((A.length : Int) == 0) = true := beq_iff_eq.2 (by omega)
      go_wp2
      go_ret2
      exact ⟨rfl, Below.refl _ _⟩
end Go.Proofs.YtpjmnnaiegdjmaaDoor
