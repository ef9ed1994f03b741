/-
  Contracts: MovedKeys, of both sides.
-/
import Derived.Test.YtpjmnnaiegdjmaaDoorPks
namespace Go.Proofs.YtpjmnnaiegdjmaaDoor
open Go.ChangeShapes Go.WideShapes Go.ChangeAt Go.RowKit Go.Deep
set_option linter.unusedVariables false
set_option maxRecDepth 100000

/-- the first k texts have at most so many bytes -/
def szA (F : Nat → ByteArray) (m : Nat) : Nat → Bool
  | 0 => true
  | k + 1 => szA F m k && decide ((F k).size ≤ m)
theorem szA_no (F : Nat → ByteArray) (m : Nat) : ∀ {k n : Nat}, k < n → ¬ (F k).size ≤ m → szA F m n = false
  | k, 0, h, _ => absurd h (by omega)
  | k, n + 1, h, e => by
    unfold szA
    by_cases hk : k = n
    · subst hk; rw [decide_eq_false e, Bool.and_false]
    · rw [szA_no F m (show k < n by omega) e, Bool.false_and]
theorem szA_at (F : Nat → ByteArray) (m : Nat) : ∀ {k n : Nat}, k < n → szA F m n = true → (F k).size ≤ m
  | k, 0, h, _ => absurd h (by omega)
  | k, n + 1, h, e => by
    unfold szA at e
    rw [Bool.and_eq_true] at e
    by_cases hk : k = n
    · subst hk; exact of_decide_eq_true e.2
    · exact szA_at F m (show k < n by omega) e.1
theorem within_any (a : Option Addr) (n cap most : Nat) (F : Nat → ByteArray) (w : World) (hm : most ≤ 100000) (hn : n ≤ 1048576) (hs : ∀ i, i < n → (F i).size ≤ 1048576) (h : Sa w a n F) :
    Calls Tryd.prog 34 #[.int .i64 most, .slice a n cap] w fun e w' => e = .returned (.bool (szA F most n)) ∧ w' = w := by
  have HR := hide h
  have HS := hide hs
  clear h hs
  go_enter Tryd.func34, Tryd.ntmps34
  go_wp2
  go_loopw [9] (fun i wr => ∃ k : Nat, k ≤ n ∧ i = .int .i64 k ∧ szA F most k = true ∧ wr = w) (fun i _ => n - (intOf i).toNat)
  case atStart => exact ⟨0, Nat.zero_le _, rfl, rfl, rfl⟩
  case round =>
    obtain ⟨k, hk, rfl, hA, rfl⟩ := hrel
    by_cases hlt : k < n
    · rcases unhide HR with h0 | ⟨b, o, e, h1⟩
      · omega
      subst e
      have hcf := h1.c k hlt
      have hsz := unhide HS k hlt
      have hnk : (k : Int) < (n : Int) := by omega
      by_cases c : (F k).size ≤ most
      · have hA2 : Hid (szA F most (k + 1) = true) := by show _ = _; rw [szA, hA, decide_eq_true c]; rfl
        clear h1 hA
        generalize F k = t at *
        have c2 : ¬ (most : Int) < (t.size : Int) := by omega
        go_wp2
        exact ⟨⟨k + 1, by omega, by go_num, unhide hA2, by trivial⟩, by simp [intOf]; omega⟩
      · have hE := hide (szA_no F most hlt c)
        clear h1 hA
        generalize F k = t at *
        have c2 : (most : Int) < (t.size : Int) := by omega
        go_wp2
        go_ret
        exact ⟨by rw [unhide hE]; rfl, rfl⟩
    · obtain rfl : k = n := by omega
      have HA := hide hA
      clear hA
      go_wp2
      go_ret
      exact ⟨by rw [unhide HA]; rfl, rfl⟩
/-- a key moves -/
def mvP (A B : List ByteArray) (k : ByteArray) : Bool := !decide (pkT (tA A) k A.length = pkT (tA B) k B.length)
/-- whether MovedKeys says yes -/
def mvB (A B K : List ByteArray) : Bool := (decide (0 < A.length) && glB (tA A) A.length) && (decide (0 < B.length) && glB (tA B) B.length) && decide (K.length ≤ 60) && szA (tA K) 100 K.length
/-- what it answers -/
def mvM (A B K : List ByteArray) : List ByteArray := if mvB A B K = true then K.filter (mvP A B) else []
theorem mv_step (p : ByteArray → Bool) (K : List ByteArray) (k : Nat) (h : k < K.length) : (K.take (k + 1)).filter p = (K.take k).filter p ++ if p (tA K k) = true then [tA K k] else [] := by
  rw [← take_tA K k h, List.filter_append]
  congr 1
  by_cases c : p (tA K k) = true
  · rw [if_pos c, List.filter_cons_of_pos c]; rfl
  · rw [if_neg c, List.filter_cons_of_neg c]; rfl
set_option maxHeartbeats 2000000 in
theorem implMv (aa ab ak : Option Addr) (ca cb ck : Nat) (A B K : List ByteArray) (w : World) (hA : A.length ≤ 1048576) (zA : ∀ i, i < A.length → (tA A i).size ≤ 1048576) (hB : B.length ≤ 1048576) (zB : ∀ i, i < B.length → (tA B i).size ≤ 1048576) (hK : K.length ≤ 1048576) (zK : ∀ i, i < K.length → (tA K i).size ≤ 1048576)
    (TA : Ta w aa A) (TB : Ta w ab B) (TK : Ta w ak K) (hT : Rt w) (hy : mvB A B K = true) :
    Calls Tryd.prog 21 #[.slice aa A.length ca, .slice ab B.length cb, .slice ak K.length ck] w fun e w' => ∃ v, e = .returned (.tuple #[v, .bool true]) ∧ Ost w.heap.size w' v (K.filter (mvP A B)) ∧ Below w.heap.size w w' := by
  have HA := hide (implPb aa A.length ca (tA A) w hA zA TA)
  have HB := hide (implPb ab B.length cb (tA B) w hB zB TB)
  have HW := hide (within_any ak K.length ck 100 (tA K) w (by omega) hK zK TK)
  unfold mvB at hy
  rw [Bool.and_eq_true, Bool.and_eq_true, Bool.and_eq_true] at hy
  obtain ⟨⟨⟨yA, yB⟩, y60⟩, yK⟩ := hy
  rw [yA] at HA
  rw [yB] at HB
  rw [yK] at HW
  rw [Bool.and_eq_true] at yA yB
  have gA := yA.2
  have gB := yB.2
  have nA := of_decide_eq_true yA.1
  have nB := of_decide_eq_true yB.1
  have h60 := of_decide_eq_true y60
  have l60 : ¬ (60 : Int) < (K.length : Int) := by omega
  have HPA := hide (fun k (hk : k < K.length) W (q : Below w.heap.size w W) => implPo aa ca A (tA K k) W (by have := gl_12 gA; omega) nA (fun i hi => by have := bk_size (gl_bk gA hi); omega) (by have := szA_at (tA K) 100 hk yK; omega) (TA.kept q) (hT.kept q))
  have HPB := hide (fun k (hk : k < K.length) W (q : Below w.heap.size w W) => implPo ab cb B (tA K k) W (by have := gl_12 gB; omega) nB (fun i hi => by have := bk_size (gl_bk gB hi); omega) (by have := szA_at (tA K) 100 hk yK; omega) (TB.kept q) (hT.kept q))
  have HKc := hide (fun k (hk : k < K.length) => clnT (tA K k) (by have := szA_at (tA K) 100 hk yK; omega))
  have HR := hide TK
  have HST := hide (fun k hk => mv_step (mvP A B) K k hk)
  have HMP : Hid (∀ k, mvP A B k = !decide (pkT (tA A) k A.length = pkT (tA B) k B.length)) := fun k => rfl
  generalize mvP A B = p at *
  clear yA yB yK gA gB y60 zA zB zK TA TB TK hT
  go_enter Tryd.func21, Tryd.ntmps21
  go_wp2_with fail
  refine (unhide HA).mono ?_
  rintro e w1 ⟨rfl, e1⟩
  subst w1
  go_wp2_with fail
  refine (unhide HB).mono ?_
  rintro e w1 ⟨rfl, e1⟩
  subst w1
  go_wp2_with fail
  refine (unhide HW).mono ?_
  rintro e w1 ⟨rfl, e1⟩
  subst w1
  go_wp2_with fail
  go_loopw [8, 31] (fun v i wr => ∃ k : Nat, k ≤ K.length ∧ i = .int .i64 k ∧ Ost w.heap.size wr v ((K.take k).filter p) ∧ Below w.heap.size w wr) (fun _ i _ => K.length - (intOf i).toNat)
  case atStart => exact ⟨0, Nat.zero_le _, rfl, Ost.nil _ _, Below.refl _ _⟩
  case round =>
    obtain ⟨k, hkl, rfl, hO, hbel⟩ := hrel
    by_cases hlt : k < K.length
    · rcases (unhide HR).kept hbel with h0 | ⟨b, off, rfl, hel⟩
      · omega
      have c0 := hel.c k hlt
      have hnk : (k : Int) < (K.length : Int) := by omega
      have PA := hide (unhide HPA k hlt)
      have PB := hide (unhide HPB k hlt)
      have PC := hide (unhide HKc k hlt)
      have PS := hide (unhide HST k hlt)
      have PP := hide (unhide HMP (tA K k))
      have HO := hide hO
      have HBl := hide hbel
      have hln : Hid (((K.take k).filter p).length ≤ k) := by
        show _ ≤ _
        have := List.length_filter_le p (K.take k)
        rw [List.length_take] at this
        omega
      clear hel hO hbel
      unfold sV at PA PB
      have SCX : Hid (pkT (tA A) (tA K k) A.length = pkT (tA B) (tA K k) B.length → scN (pkT (tA A) (tA K k) A.length) (tA K k) = scN (pkT (tA B) (tA K k) B.length) (tA K k)) := fun e => by rw [e]
      generalize scN (pkT (tA A) (tA K k) A.length) (tA K k) = x1 at *
      generalize scN (pkT (tA B) (tA K k) B.length) (tA K k) = x2 at *
      generalize pkT (tA A) (tA K k) A.length = t1 at *
      generalize pkT (tA B) (tA K k) B.length = t2 at *
      generalize tA K k = D at *
      go_wp2_with fail
      refine (unhide PA _ (unhide HBl)).mono ?_
      rintro e w2 ⟨rfl, b2⟩
      have B2 := hide ((unhide HBl).trans (b2.mono (unhide HBl).size))
      have HO2 := hide ((unhide HO).kept b2)
      clear b2 HO HBl
      go_wp2_with fail
      refine (unhide PB _ (unhide B2)).mono ?_
      rintro e w3 ⟨rfl, b3⟩
      have B3 := hide ((unhide B2).trans (b3.mono (unhide B2).size))
      have HO3 := hide ((unhide HO2).kept b3)
      clear b3 HO2 B2
      by_cases e : t1 = t2
      · have e3 := unhide SCX e
        subst e
        subst e3
        have PS' : Hid ((K.take (k + 1)).filter p = (K.take k).filter p) := by
          show _ = _
          rw [unhide PS, unhide PP, decide_eq_true rfl]
          simp
        clear PS PP SCX
        go_wp2
        exact ⟨⟨k + 1, by omega, by go_num, by rw [unhide PS']; exact unhide HO3, unhide B3⟩, by simp [intOf]; omega⟩
      · have PS' : Hid ((K.take (k + 1)).filter p = (K.take k).filter p ++ [D]) := by
          show _ = _
          rw [unhide PS, unhide PP, decide_eq_false e]
          rfl
        have en : (t1.toList == t2.toList) = false := by rw [beq_txt]; exact decide_eq_false e
        clear PS PP SCX e
        go_wp2_with fail
        refine (unhide PC _).mono ?_
        rintro e w4 ⟨rfl, b4⟩
        have B4 := hide ((unhide B3).trans (b4.mono (unhide B3).size))
        obtain ⟨v', w', hrun, hO', hg, _⟩ := appS (w4.alloc (.cells #[.string D] 9)) 25 w.heap.size u8 ((K.take k).filter p) (((unhide HO3).kept b4).kept ((Below.refl _ _).alloc (Nat.le_refl _) _)) (some ⟨w4.heap.size, 0, none⟩) 1 [D] (sc_txt w4 D _) (by have := unhide hln; show _ + 1 ≤ _; omega) (by have := (unhide B4).size; simp; omega)
        have hrun' : (Builtin.append_ #[25, 25] 25 #[u8, .slice (some ⟨w4.heap.size, 0, none⟩) 1 1]).run Tryd.prog (w4.alloc (.cells #[.string D] 9)) = .ok v' w' := hrun
        rw [← unhide PS'] at hO'
        have HO5 := hide hO'
        have HB5 := hide (((unhide B4).alloc (unhide B4).size (.cells #[.string D] 9)).trans hg)
        have RUN := hide hrun'
        clear hrun hrun' hO' hg b4 PS'
        go_wp2_with (at_builtin; refine wpl_app rfl _ _ 25 rfl _ _ _ _ rfl rfl (unhide RUN) ?_)
        exact ⟨⟨k + 1, by omega, by go_num, unhide HO5, unhide HB5⟩, by simp [intOf]; omega⟩
    · obtain rfl : k = K.length := by omega
      rw [List.take_length] at hO
      have HO := hide hO
      have HB := hide hbel
      clear hO hbel
      go_wp2
      go_ret2
      exact ⟨_, rfl, unhide HO, unhide HB⟩
end Go.Proofs.YtpjmnnaiegdjmaaDoor
