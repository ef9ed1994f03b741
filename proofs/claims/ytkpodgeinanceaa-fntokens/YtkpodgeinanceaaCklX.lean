/-
  Contracts: what CheckToken tells; l10Check of the model. Contracts: CheckToken of the model. Contracts: CheckToken of the program, out of what openToken tells.
-/
import Derived.Test.YtkpodgeinanceaaNinX
import Derived.Test.YtkpodgeinanceaaL5o
namespace Go.Proofs.Ytkpodgeinanceaa
open Go.ChangeShapes Go.WideShapes Go.ChangeAt Go.RowKit
set_option linter.unusedVariables false
set_option maxRecDepth 100000

/-- a token's nonce, what is sealed, what is beside it -/
def noC (tk : ByteArray) : ByteArray := tk.extract 1 13
def seC (tk : ByteArray) : ByteArray := tk.extract 13 tk.size
def beC (tk a : ByteArray) : ByteArray := tk.extract 0 1 ++ a
theorem noC_size {tk : ByteArray} (h : tsB tk = true) : (noC tk).size = 12 := by
  have := of_decide_eq_true h
  unfold noC; rw [ByteArray.size_extract]; omega
theorem seC_size {tk : ByteArray} (h : tsB tk = true) : (seC tk).size = tk.size - 29 + 16 := by
  have := of_decide_eq_true h
  unfold seC; rw [ByteArray.size_extract]; omega
theorem beC_size {tk : ByteArray} (a : ByteArray) (h : tsB tk = true) : (beC tk a).size = 1 + a.size := by
  have := of_decide_eq_true h
  unfold beC; rw [ByteArray.size_append, ByteArray.size_extract]; omega
/-- a key opens a token -/
def opK (k tk a : ByteArray) : Prop := (seC tk).extract (tk.size - 29) (tk.size - 29 + 16) = tgW k (noC tk) (beC tk a) ((seC tk).extract 0 (tk.size - 29))
/-- what it opens, and what that tells -/
def teC (k tk : ByteArray) : ByteArray := cnW k (noC tk) ((seC tk).extract 0 (tk.size - 29))
theorem teC_size {k tk : ByteArray} (h : tsB tk = true) : (teC k tk).size = tk.size - 29 := by
  have := of_decide_eq_true h
  have h2 := seC_size h
  unfold teC; rw [cnW_size, ByteArray.size_extract]; omega
def tiC (k tk : ByteArray) : Int := IntKind.i64.wrap (nbW ((teC k tk).extract 0 8) 8 : Nat)
def idC (k tk : ByteArray) : ByteArray := (teC k tk).extract 8 (teC k tk).size
/-- CheckToken's answer, the keys, the address, now and life being as said -/
def ckR (F : Nat → ByteArray) (n : Nat) (a tk : ByteArray) (now life : Int) (d : ByteArray) (t : Int) (b : Bool) (c : Int) : Prop :=
  if tsB tk = false then d = ⟨#[]⟩ ∧ t = 0 ∧ b = false ∧ c = 2
  else ((∀ i, i < n → ¬ opK (F i) tk a) ∧ d = ⟨#[]⟩ ∧ t = 0 ∧ b = false ∧ c = 3) ∨
    ∃ i, i < n ∧ (∀ j, j < i → ¬ opK (F j) tk a) ∧ opK (F i) tk a ∧
      ((¬ (0 ≤ tiC (F i) tk ∧ tiC (F i) tk ≤ now ∧ now - tiC (F i) tk ≤ life) ∧ d = ⟨#[]⟩ ∧ t = 0 ∧ b = false ∧ c = 4) ∨
       ((0 ≤ tiC (F i) tk ∧ tiC (F i) tk ≤ now ∧ now - tiC (F i) tk ≤ life) ∧ d = idC (F i) tk ∧ t = tiC (F i) tk ∧ b = decide (at8 tk 0 = 1) ∧ c = 0))
theorem ckR_uniq {F : Nat → ByteArray} {n : Nat} {a tk : ByteArray} {now life : Int} {d d' : ByteArray} {t t' : Int} {b b' : Bool} {c c' : Int}
    (h : ckR F n a tk now life d t b c) (h' : ckR F n a tk now life d' t' b' c') : d = d' ∧ t = t' ∧ b = b' ∧ c = c' := by
  unfold ckR at h h'
  split at h
  · rename_i e
    rw [if_pos e] at h'
    obtain ⟨rfl, rfl, rfl, rfl⟩ := h
    obtain ⟨rfl, rfl, rfl, rfl⟩ := h'
    exact ⟨rfl, rfl, rfl, rfl⟩
  · rename_i e
    rw [if_neg e] at h'
    rcases h with ⟨h0, rfl, rfl, rfl, rfl⟩ | ⟨i, hi, hj, ho, hr⟩
    · rcases h' with ⟨_, rfl, rfl, rfl, rfl⟩ | ⟨i, hi, _, ho, _⟩
      · exact ⟨rfl, rfl, rfl, rfl⟩
      · exact absurd ho (h0 i hi)
    · rcases h' with ⟨h0, _⟩ | ⟨i', hi', hj', ho', hr'⟩
      · exact absurd ho (h0 i hi)
      · have hii : i = i' := by
          rcases Nat.lt_trichotomy i i' with h1 | h1 | h1
          · exact absurd ho (hj' i h1)
          · exact h1
          · exact absurd ho' (hj i' h1)
        subst hii
        rcases hr with ⟨g, e1, e2, e3, e4⟩ | ⟨g, e1, e2, e3, e4⟩
        · rcases hr' with ⟨g', f1, f2, f3, f4⟩ | ⟨g', f1, f2, f3, f4⟩
          · exact ⟨e1.trans f1.symm, e2.trans f2.symm, e3.trans f3.symm, e4.trans f4.symm⟩
          · exact absurd g' g
        · rcases hr' with ⟨g', f1, f2, f3, f4⟩ | ⟨g', f1, f2, f3, f4⟩
          · exact absurd g g'
          · exact ⟨e1.trans f1.symm, e2.trans f2.symm, e3.trans f3.symm, e4.trans f4.symm⟩
/-- what a call that tells CheckToken's answer leaves -/
def LCP (F : Nat → ByteArray) (n : Nat) (a tk : ByteArray) (now life : Int) (w : World) (e : Ending) (w' : World) : Prop := ∃ d t b c, e = .returned (.tuple #[mnV d t b, .int .i64 c]) ∧ ckR F n a tk now life d t b c ∧ Below w.heap.size w w'
theorem LCP.mk {F : Nat → ByteArray} {n : Nat} {a tk : ByteArray} {now life : Int} {w w' : World} {d : ByteArray} {t : Int} {b : Bool} {c : Int} (h : ckR F n a tk now life d t b c) (hb : Below w.heap.size w w') : LCP F n a tk now life w (.returned (.tuple #[mnV d t b, .int .i64 c])) w' := ⟨d, t, b, c, rfl, h, hb⟩
set_option maxHeartbeats 2000000 in
theorem specLC (a : Option Addr) (n cap : Nat) (F : Nat → ByteArray) (ad tk : ByteArray) (now life : Int) (w : World) (hn : n ≤ 2) (hk : k16 F n = true) (hl : tk.size ≤ 1048576) (had : ad.size ≤ 18) (hnow : 0 ≤ now ∧ now ≤ 1000000000) (hlife : 0 ≤ life ∧ life ≤ 1000000) (h : Sa w a n F) :
    Calls Try.prog 19 #[.slice a n cap, .string ad, .string tk, .int .i64 now, .int .i64 life] w (LCP F n ad tk now life w) := by
  have A0 : Hid (Below w.heap.size w (w.alloc (.cells #[.string ⟨#[]⟩, .int .i64 0, .bool false] 25))) := (Below.refl _ _).alloc (Nat.le_refl _) _
  have HI := hide (inB (tk.size : Int) 37 57)
  by_cases hT : tsB tk = true
  case neg =>
    have hT0 : tsB tk = false := by simpa using hT
    have HR : Hid (ckR F n ad tk now life ⟨#[]⟩ 0 false 2) := by show ckR F n ad tk now life ⟨#[]⟩ 0 false 2; unfold ckR; rw [if_pos hT0]; exact ⟨rfl, rfl, rfl, rfl⟩
    have hts := of_decide_eq_false hT0
    by_cases hsz : 37 ≤ tk.size ∧ tk.size ≤ 57
    case neg =>
      rw [show (decide ((37 : Int) ≤ tk.size) && decide ((tk.size : Int) ≤ 57)) = false by rw [← Bool.decide_and]; exact decide_eq_false (by omega)] at HI
      clear hts hT hT0 h hk
      go_enter Try.func19, Try.ntmps19
      go_wp2_with fail
      refine (unhide HI _).mono ?_
      rintro e w2 ⟨rfl, h9⟩
      rw [h9]
      clear h9 w2
      go_wp2
      refine bodyPost_ret (v := .tuple #[mnV ⟨#[]⟩ 0 false, .int .i64 2]) (by simp [results, Try.results19, go_sem]) rfl (LCP.mk (unhide HR) ?_)
      exact unhide A0
    rw [show (decide ((37 : Int) ≤ tk.size) && decide ((tk.size : Int) ≤ 57)) = true by rw [← Bool.decide_and]; exact decide_eq_true (by omega)] at HI
    have h0 : 0 < tk.size := by omega
    have hb : 1 < at8 tk 0 := by omega
    rw [at8_in tk 0 h0] at hb
    have hb2 : (1 : Int) < ((tk[0].toNat : Nat) : Int) := by omega
    clear hts hT hT0 h hk hb
    go_enter Try.func19, Try.ntmps19
    go_wp2_with fail
    refine (unhide HI _).mono ?_
    rintro e w2 ⟨rfl, h9⟩
    rw [h9]
    clear h9 w2
    go_wp2
    refine bodyPost_ret (v := .tuple #[mnV ⟨#[]⟩ 0 false, .int .i64 2]) (by simp [results, Try.results19, go_sem]) rfl (LCP.mk (unhide HR) ?_)
    exact unhide A0
  have hts := of_decide_eq_true hT
  rw [show (decide ((37 : Int) ≤ tk.size) && decide ((tk.size : Int) ≤ 57)) = true by rw [← Bool.decide_and]; exact decide_eq_true (by omega)] at HI
  have h0 : 0 < tk.size := by omega
  have hb : at8 tk 0 ≤ 1 := hts.2.2
  rw [at8_in tk 0 h0] at hb
  have hb2 : ¬ (1 : Int) < ((tk[0].toNat : Nat) : Int) := by omega
  have HK := hide (fun (i : Nat) (hi : i < n) => k16_at F hi hk)
  have HS := hide h
  have HT := hide hT
  clear h hk hT hb hts
  go_enter Try.func19, Try.ntmps19
  go_wp2_with fail
  refine (unhide HI _).mono ?_
  rintro e w2 ⟨rfl, h9⟩
  rw [h9]
  clear h9 w2
  go_wp2_with fail
  have hc0 : w.heap.size < (w.alloc (.cells #[.string ⟨#[]⟩, .int .i64 0, .bool false] 25)).heap.size := by simp
  have z0 : ∀ o, (w.alloc (.cells #[.string ⟨#[]⟩, .int .i64 0, .bool false] 25)).cell? ⟨w.heap.size, o, none⟩ = (#[.string ⟨#[]⟩, .int .i64 0, .bool false] : Array Value)[o]? := fun o => by simp
  have f0 : ∀ o, (w.alloc (.cells #[.string ⟨#[]⟩, .int .i64 0, .bool false] 25)).frozen? ⟨w.heap.size, o, none⟩ = false := fun o => by simp
  generalize w.alloc (.cells #[.string ⟨#[]⟩, .int .i64 0, .bool false] 25) = W0 at *
  have ZC : Hid (∀ V, Below W0.heap.size W0 V → (∀ o, V.cell? ⟨w.heap.size, o, none⟩ = (#[.string ⟨#[]⟩, .int .i64 0, .bool false] : Array Value)[o]?) ∧ (∀ o, V.frozen? ⟨w.heap.size, o, none⟩ = false)) := fun V hV => ⟨fun o => ((bcell hV).1 _ o hc0).trans (z0 o), fun o => ((bcell hV).2 _ o hc0).trans (f0 o)⟩
  clear z0 f0
  go_loopw [29] (fun i wr => ∃ k : Nat, k ≤ n ∧ i = .int .i64 k ∧ (∀ j, j < k → ¬ opK (F j) tk ad) ∧ Below W0.heap.size W0 wr) (fun i _ => n - (intOf i).toNat)
  case atStart => exact ⟨0, Nat.zero_le _, rfl, fun j hj => absurd hj (by omega), Below.refl _ _⟩
  case round =>
    obtain ⟨k, hk, rfl, hJ, hB⟩ := hrel
    have HJ := hide hJ
    have HB := hide hB
    clear hJ
    have HBw := hide ((unhide A0).trans (hB.mono (unhide A0).size))
    by_cases hlt : k < n
    · rcases (unhide HS).kept (unhide HBw) with h9 | ⟨b, o, rfl, hel⟩
      · omega
      have c0 := hel.c k hlt
      have hnk : (k : Int) < (n : Int) := by omega
      have k16 := unhide HK k hlt
      clear hel hB
      have H1 := hide (fun W => specKey5 (F k) k16 W)
      have H2 := hide (fun kb gk ok ck gt W (hM : SM W kb gk ok ck gt (F k)) => specOpen kb gk ok ck gt (F k) (noC tk) (beC tk ad) (seC tk) (tk.size - 29) (noC_size (unhide HT)) (by rw [beC_size ad (unhide HT)]; omega) (seC_size (unhide HT)) (by have := of_decide_eq_true (unhide HT); omega) W hM)
      have hts := of_decide_eq_true (unhide HT)
      have E1 : Hid (tk.extract 1 13 = noC tk) := rfl
      have E2 : Hid (tk.extract 13 tk.size = seC tk) := rfl
      have E3 : Hid (tk.extract 0 1 ++ ad = beC tk ad) := rfl
      have hz1 : (tk.extract 0 1).size = 1 := by rw [ByteArray.size_extract]; omega
      have adq := fun W : World => run_string_add_sum (P := Try.prog) (w := W) (tk.extract 0 1) ad (by omega)
      have q1 : (1 : Int) ≤ (tk.size : Int) := by omega
      have q13 : (13 : Int) ≤ (tk.size : Int) := by omega
      have r1 : 1 ≤ tk.size := by omega
      have r13 : 13 ≤ tk.size := by omega
      generalize hF : F k = key at *
      have HF := hide hF
      clear hF
      by_cases hO : opK key tk ad
      · have H3 : Hid (∀ kb gk ok ck gt W, SM W kb gk ok ck gt key → Calls Try.prog 37 #[.pointer (some ⟨kb, 0, none⟩), .string (tk.extract 1 13), .string (tk.extract 0 1 ++ ad), .string (tk.extract 13 tk.size)] W fun e w' => e = .returned (.tuple #[.string (teC key tk), .bool true]) ∧ Below W.heap.size W w') := fun kb gk ok ck gt W hM => (unhide H2 kb gk ok ck gt W hM).mono (fun e w' h => ⟨h.1 hO, h.2.2⟩)
        clear H2
        go_wp2_with fail
        refine wp_region_noPanic ?_
        refine wp_region_held_drew (S := fun V => Below W0.heap.size W0 V) (by kernel_rfl) ((unhide HB).drew) (fun hHeld => ?_)
        refine wpAnyH_take (i := 0) (v := ?_) rfl (by kernel_rfl) (by kernel_rfl) (by kernel_rfl) (fun _ _ _ h => h) (Or.inl ⟨by rfl, ?_⟩) hHeld ?_
        rotate_left
        · intro V hSw; go_simp; rfl
        try simp only [Act.put, List.getElem_toArray, List.getElem_cons_zero, List.setIfInBounds_toArray, List.set_cons_zero, List.set_cons_succ]
        refine wpAnyH_take (i := 2) (v := ?_) rfl (by kernel_rfl) (by kernel_rfl) (by kernel_rfl) (fun _ _ _ h => h) (Or.inl ⟨by rfl, ?_⟩) hHeld ?_
        rotate_left
        · intro V hSw; go_simp; rfl
        try simp only [Act.put, List.getElem_toArray, List.getElem_cons_succ, List.getElem_cons_zero, List.setIfInBounds_toArray, List.set_cons_zero, List.set_cons_succ]
        refine wpAnyH_take (i := 3) (v := ?_) rfl (by kernel_rfl) (by kernel_rfl) (by kernel_rfl) (fun _ _ _ h => h) (Or.inl ⟨by rfl, ?_⟩) hHeld ?_
        rotate_left
        · intro V hSw; go_simp; rfl
        try simp only [Act.put, List.getElem_toArray, List.getElem_cons_succ, List.getElem_cons_zero, List.setIfInBounds_toArray, List.set_cons_zero, List.set_cons_succ]
        refine wpAnyH_take (i := 4) (v := ?_) rfl (by kernel_rfl) (by kernel_rfl) (by kernel_rfl) (fun _ _ _ h => h) (Or.inl ⟨by rfl, ?_⟩) hHeld ?_
        rotate_left
        · intro V hSw; go_simp; rfl
        try simp only [Act.put, List.getElem_toArray, List.getElem_cons_succ, List.getElem_cons_zero, List.setIfInBounds_toArray, List.set_cons_zero, List.set_cons_succ]
        refine wpAnyH_take (i := 5) (v := ?_) rfl (by kernel_rfl) (by kernel_rfl) (by kernel_rfl) (fun _ _ _ h => h) (Or.inl ⟨by rfl, ?_⟩) hHeld ?_
        rotate_left
        · intro V hSw; go_simp; rfl
        try simp only [Act.put, List.getElem_toArray, List.getElem_cons_succ, List.getElem_cons_zero, List.setIfInBounds_toArray, List.set_cons_zero, List.set_cons_succ]
        refine wpAnyH_take (i := 6) (v := ?_) rfl (by kernel_rfl) (by kernel_rfl) (by kernel_rfl) (fun _ _ _ h => h) (Or.inl ⟨by rfl, ?_⟩) hHeld ?_
        rotate_left
        · intro V hSw; go_simp; rfl
        try simp only [Act.put, List.getElem_toArray, List.getElem_cons_succ, List.getElem_cons_zero, List.setIfInBounds_toArray, List.set_cons_zero, List.set_cons_succ]
        refine wpAnyH_take (i := 7) (v := ?_) rfl (by kernel_rfl) (by kernel_rfl) (by kernel_rfl) (fun _ _ _ h => h) (Or.inl ⟨by rfl, ?_⟩) hHeld ?_
        rotate_left
        · intro V hSw; go_simp; rfl
        try simp only [Act.put, List.getElem_toArray, List.getElem_cons_succ, List.getElem_cons_zero, List.setIfInBounds_toArray, List.set_cons_zero, List.set_cons_succ]
        refine wpAnyH_take (i := 8) (v := ?_) rfl (by kernel_rfl) (by kernel_rfl) (by kernel_rfl) (fun _ _ _ h => h) (Or.inl ⟨by rfl, ?_⟩) hHeld ?_
        rotate_left
        · intro V hSw; go_simp; rfl
        try simp only [Act.put, List.getElem_toArray, List.getElem_cons_succ, List.getElem_cons_zero, List.setIfInBounds_toArray, List.set_cons_zero, List.set_cons_succ]
        refine wpAnyH_take (i := 9) (v := ?_) rfl (by kernel_rfl) (by kernel_rfl) (by kernel_rfl) (fun _ _ _ h => h) (Or.inl ⟨by rfl, ?_⟩) hHeld ?_
        rotate_left
        · intro V hSw; go_simp; rfl
        try simp only [Act.put, List.getElem_toArray, List.getElem_cons_succ, List.getElem_cons_zero, List.setIfInBounds_toArray, List.set_cons_zero, List.set_cons_succ]
        refine wpAnyH_ready (rs := [1]) (by kernel_rfl) (by simp) ?_
        refine (AllReadyH.cons rfl (fun K hK => ?_) AllReadyH.nil)
        go_simp
        go_at_call 36
        with_reducible refine (unhide H1 _).mono ?_
        rintro e w4 ⟨kb, gk, ok, ck, gt, rfl, m4, b4⟩
        refine hK.out _ _ (hHeld.trans (b4.mono hHeld.size)) (fun hHeld => ?_)
        clear hK K
        try simp only [Act.put, List.getElem_toArray, List.getElem_cons_succ, List.getElem_cons_zero, List.setIfInBounds_toArray, List.set_cons_zero, List.set_cons_succ]
        refine wpAnyH_ready (rs := [10]) (by kernel_rfl) (by simp) ?_
        refine (AllReadyH.cons rfl (fun K hK => ?_) AllReadyH.nil)
        go_simp
        go_at_call 37
        with_reducible refine (unhide H3 _ _ _ _ _ _ m4).mono ?_
        rintro e w5 ⟨rfl, b5⟩
        refine hK.out _ _ (hHeld.trans (b5.mono hHeld.size)) (fun hHeld => ?_)
        clear hK K
        try simp only [Act.put, List.getElem_toArray, List.getElem_cons_succ, List.getElem_cons_zero, List.setIfInBounds_toArray, List.set_cons_zero, List.set_cons_succ]
        refine wpAnyH_take (i := 11) (v := ?_) rfl (by kernel_rfl) (by kernel_rfl) (by kernel_rfl) (fun _ _ _ h => h) (Or.inl ⟨by rfl, ?_⟩) hHeld ?_
        rotate_left
        · intro V hSw; go_simp; rfl
        try simp only [Act.put, List.getElem_toArray, List.getElem_cons_succ, List.getElem_cons_zero, List.setIfInBounds_toArray, List.set_cons_zero, List.set_cons_succ]
        refine wpAnyH_take (i := 12) (v := ?_) rfl (by kernel_rfl) (by kernel_rfl) (by kernel_rfl) (fun _ _ _ h => h) (Or.inl ⟨by rfl, ?_⟩) hHeld ?_
        rotate_left
        · intro V hSw; go_simp; rfl
        try simp only [Act.put, List.getElem_toArray, List.getElem_cons_succ, List.getElem_cons_zero, List.setIfInBounds_toArray, List.set_cons_zero, List.set_cons_succ]
        refine wpAnyH_take (i := 13) (v := ?_) rfl (by kernel_rfl) (by kernel_rfl) (by kernel_rfl) (fun _ _ _ h => h) (Or.inl ⟨by rfl, ?_⟩) hHeld ?_
        rotate_left
        · intro V hSw; go_simp; rfl
        try simp only [Act.put, List.getElem_toArray, List.getElem_cons_succ, List.getElem_cons_zero, List.setIfInBounds_toArray, List.set_cons_zero, List.set_cons_succ]
        refine wpAnyH_take (i := 14) (v := ?_) rfl (by kernel_rfl) (by kernel_rfl) (by kernel_rfl) (fun _ _ _ h => h) (Or.inl ⟨by rfl, ?_⟩) hHeld ?_
        rotate_left
        · intro V hSw; go_simp; rfl
        try simp only [Act.put, List.getElem_toArray, List.getElem_cons_succ, List.getElem_cons_zero, List.setIfInBounds_toArray, List.set_cons_zero, List.set_cons_succ]
        refine wpAnyH_take (i := 15) (v := ?_) rfl (by kernel_rfl) (by kernel_rfl) (by kernel_rfl) (fun _ _ _ h => h) (Or.inl ⟨by rfl, ?_⟩) hHeld ?_
        rotate_left
        · intro V hSw; go_simp; rfl
        try simp only [Act.put, List.getElem_toArray, List.getElem_cons_succ, List.getElem_cons_zero, List.setIfInBounds_toArray, List.set_cons_zero, List.set_cons_succ]
        refine wpAnyH_done (by kernel_rfl) ?_ _
        refine NoPanic.normal ?_
        have HB5 := hide hHeld
        clear hHeld m4 b4 b5 H1 H3 HB
        have hte := teC_size (k := key) (unhide HT)
        have hnw : Hid (tk[0].toNat = at8 tk 0) := (at8_in tk 0 h0).symm
        have hex : ((teC key tk).extract 0 8).size = 8 := by rw [ByteArray.size_extract]; omega
        have HN := hide (specBig8 ((teC key tk).extract 0 8) hex)
        have ET : Hid (IntKind.i64.wrap (nbW ((teC key tk).extract 0 8) 8 : Nat) = tiC key tk) := rfl
        rw [unhide ET] at HN
        have ED : Hid ((teC key tk).extract 8 (teC key tk).size = idC key tk) := rfl
        have bT : -9223372036854775808 ≤ tiC key tk ∧ tiC key tk ≤ 9223372036854775807 := by unfold tiC; rw [IntKind.wrap_i64]; omega
        have t8 : (8 : Int) ≤ ((teC key tk).size : Int) := by omega
        have t8n : 8 ≤ (teC key tk).size := by omega
        have HR4 : Hid (¬ (0 ≤ tiC key tk ∧ tiC key tk ≤ now ∧ now - tiC key tk ≤ life) → ckR F n ad tk now life ⟨#[]⟩ 0 false 4) := fun hg => by unfold ckR; rw [if_neg (by rw [unhide HT]; decide)]; refine Or.inr ⟨k, hlt, unhide HJ, by rw [unhide HF]; exact hO, Or.inl ⟨by rw [unhide HF]; exact hg, rfl, rfl, rfl, rfl⟩⟩
        have HR0 : Hid ((0 ≤ tiC key tk ∧ tiC key tk ≤ now ∧ now - tiC key tk ≤ life) → ckR F n ad tk now life (idC key tk) (tiC key tk) (decide (at8 tk 0 = 1)) 0) := fun hg => by unfold ckR; rw [if_neg (by rw [unhide HT]; decide)]; refine Or.inr ⟨k, hlt, unhide HJ, by rw [unhide HF]; exact hO, Or.inr ⟨by rw [unhide HF]; exact hg, by rw [unhide HF], by rw [unhide HF], rfl, rfl⟩⟩
        generalize tiC key tk = ti at *
        generalize idC key tk = di at *
        generalize teC key tk = te at *
        clear hO hte hex
        go_upto_region 8 with fail
        refine wp_region_noPanic ?_
        refine wp_region_held_drew (S := fun V => Below W0.heap.size W0 V) (by kernel_rfl) ((unhide HB5).drew) (fun hHeld => ?_)
        refine wpAnyH_take (i := 0) (v := ?_) rfl (by kernel_rfl) (by kernel_rfl) (by kernel_rfl) (fun _ _ _ h => h) (Or.inl ⟨by rfl, ?_⟩) hHeld ?_
        rotate_left
        · intro V hSw; go_simp; rfl
        try simp only [Act.put, List.getElem_toArray, List.getElem_cons_zero, List.setIfInBounds_toArray, List.set_cons_zero, List.set_cons_succ]
        refine wpAnyH_take (i := 1) (v := ?_) rfl (by kernel_rfl) (by kernel_rfl) (by kernel_rfl) (fun _ _ _ h => h) (Or.inl ⟨by rfl, ?_⟩) hHeld ?_
        rotate_left
        · intro V hSw; go_simp; rfl
        try simp only [Act.put, List.getElem_toArray, List.getElem_cons_succ, List.getElem_cons_zero, List.setIfInBounds_toArray, List.set_cons_zero, List.set_cons_succ]
        refine wpAnyH_take (i := 2) (v := ?_) rfl (by kernel_rfl) (by kernel_rfl) (by kernel_rfl) (fun _ _ _ h => h) (Or.inl ⟨by rfl, ?_⟩) hHeld ?_
        rotate_left
        · intro V hSw; go_simp; rfl
        try simp only [Act.put, List.getElem_toArray, List.getElem_cons_succ, List.getElem_cons_zero, List.setIfInBounds_toArray, List.set_cons_zero, List.set_cons_succ]
        refine wpAnyH_take (i := 3) (v := ?_) rfl (by kernel_rfl) (by kernel_rfl) (by kernel_rfl) (fun _ _ _ h => h) (Or.inl ⟨by rfl, ?_⟩) hHeld ?_
        rotate_left
        · intro V hSw; go_simp; rfl
        try simp only [Act.put, List.getElem_toArray, List.getElem_cons_succ, List.getElem_cons_zero, List.setIfInBounds_toArray, List.set_cons_zero, List.set_cons_succ]
        refine wpAnyH_take (i := 4) (v := ?_) rfl (by kernel_rfl) (by kernel_rfl) (by kernel_rfl) (fun _ _ _ h => h) (Or.inl ⟨by rfl, ?_⟩) hHeld ?_
        rotate_left
        · intro V hSw; go_simp; rfl
        try simp only [Act.put, List.getElem_toArray, List.getElem_cons_succ, List.getElem_cons_zero, List.setIfInBounds_toArray, List.set_cons_zero, List.set_cons_succ]
        refine wpAnyH_take (i := 6) (v := ?_) rfl (by kernel_rfl) (by kernel_rfl) (by kernel_rfl) (fun _ _ _ h => h) (Or.inl ⟨by rfl, ?_⟩) hHeld ?_
        rotate_left
        · intro V hSw; go_simp; rfl
        try simp only [Act.put, List.getElem_toArray, List.getElem_cons_succ, List.getElem_cons_zero, List.setIfInBounds_toArray, List.set_cons_zero, List.set_cons_succ]
        refine wpAnyH_take (i := 7) (v := ?_) rfl (by kernel_rfl) (by kernel_rfl) (by kernel_rfl) (fun _ _ _ h => h) (Or.inl ⟨by rfl, ?_⟩) hHeld ?_
        rotate_left
        · intro V hSw; go_simp; rfl
        try simp only [Act.put, List.getElem_toArray, List.getElem_cons_succ, List.getElem_cons_zero, List.setIfInBounds_toArray, List.set_cons_zero, List.set_cons_succ]
        refine wpAnyH_ready (rs := [5, 9]) (by kernel_rfl) (by simp) ?_
        refine (AllReadyH.cons rfl (fun K hK => ?_) (AllReadyH.cons rfl (fun K hK => ?_) AllReadyH.nil))
        · go_simp
          go_at_call 38
          with_reducible refine (unhide HN _).mono ?_
          rintro e w6 ⟨rfl, h9⟩
          rw [h9]
          clear h9 w6
          refine hK.out _ _ hHeld (fun hHeld => ?_)
          clear hK K
          try simp only [Act.put, List.getElem_toArray, List.getElem_cons_succ, List.getElem_cons_zero, List.setIfInBounds_toArray, List.set_cons_zero, List.set_cons_succ]
          refine wpAnyH_take (i := 8) (v := ?_) rfl (by kernel_rfl) (by kernel_rfl) (by kernel_rfl) (fun _ _ _ h => h) (Or.inl ⟨by rfl, ?_⟩) hHeld ?_
          rotate_left
          · intro V hSw; go_simp; rfl
          try simp only [Act.put, List.getElem_toArray, List.getElem_cons_succ, List.getElem_cons_zero, List.setIfInBounds_toArray, List.set_cons_zero, List.set_cons_succ]
          refine wpAnyH_ready (rs := [9]) (by kernel_rfl) (by simp) ?_
          refine (AllReadyH.cons rfl (fun K hK => ?_) AllReadyH.nil)
          go_simp
          refine hK.out _ _ (by first | exact hHeld.alloc hHeld.size _ | exact (hHeld.alloc hHeld.size _).drew) (fun hHeld => ?_)
          clear hK K
          try simp only [Act.put, List.getElem_toArray, List.getElem_cons_succ, List.getElem_cons_zero, List.setIfInBounds_toArray, List.set_cons_zero, List.set_cons_succ]
          refine wpAnyH_ready (rs := [10]) (by kernel_rfl) (by simp) ?_
          refine (AllReadyH.cons rfl (fun K hK => ?_) AllReadyH.nil)
          go_simp
          refine hK.out _ _ (((unhide HB5).alloc (unhide HB5).size _).drew) (fun hHeld => ?_)
          clear hK K
          try simp only [Act.put, List.getElem_toArray, List.getElem_cons_succ, List.getElem_cons_zero, List.setIfInBounds_toArray, List.set_cons_zero, List.set_cons_succ]
          refine wpAnyH_done (by kernel_rfl) ?_ _
          refine NoPanic.normal ?_
          obtain ⟨zc, zf⟩ := unhide ZC _ hHeld
          have HW6 := hide ((unhide A0).trans (hHeld.mono (unhide A0).size))
          have lw : w.heap.size ≠ w5.heap.size := by have := (unhide HB5).size; omega
          have lw2 : w5.heap.size ≠ w.heap.size := by omega
          have y0 : ((w5.alloc (.cells #[.string (te.extract 8 te.size), .int .i64 ti, .bool (((tk[0].toNat : Nat) : Int) == 1)] 25)).drew).cell? ⟨w5.heap.size, 0, none⟩ = some (.string (te.extract 8 te.size)) := by simp
          have y1 : ((w5.alloc (.cells #[.string (te.extract 8 te.size), .int .i64 ti, .bool (((tk[0].toNat : Nat) : Int) == 1)] 25)).drew).cell? ⟨w5.heap.size, 1, none⟩ = some (.int .i64 ti) := by simp
          have y2 : ((w5.alloc (.cells #[.string (te.extract 8 te.size), .int .i64 ti, .bool (((tk[0].toNat : Nat) : Int) == 1)] 25)).drew).cell? ⟨w5.heap.size, 2, none⟩ = some (.bool (((tk[0].toNat : Nat) : Int) == 1)) := by simp
          have EB : Hid ((((tk[0].toNat : Nat) : Int) == 1) = decide (at8 tk 0 = 1)) := by show _ = _; rw [at8_in tk 0 h0, Bool.eq_iff_iff]; simp; omega
          clear hHeld
          generalize (w5.alloc (.cells #[.string (te.extract 8 te.size), .int .i64 ti, .bool (((tk[0].toNat : Nat) : Int) == 1)] 25)).drew = W6 at *
          generalize (((tk[0].toNat : Nat) : Int) == 1) = bw at *
          generalize hdd : te.extract 8 te.size = dd at *
          have HDD := hide hdd
          clear hdd HB5
          by_cases g1 : now < ti
          · go_wp2
            refine bodyPost_ret (v := .tuple #[mnV ⟨#[]⟩ 0 false, .int .i64 4]) (by simp [results, Try.results19, go_sem, zc]) rfl (LCP.mk (unhide HR4 (by omega)) ?_)
            iterate 3 refine Below.setCell ?_ (by simp) _
            exact unhide HW6
          by_cases g2 : ti < 0
          · go_wp2
            refine bodyPost_ret (v := .tuple #[mnV ⟨#[]⟩ 0 false, .int .i64 4]) (by simp [results, Try.results19, go_sem, zc]) rfl (LCP.mk (unhide HR4 (by omega)) ?_)
            iterate 3 refine Below.setCell ?_ (by simp) _
            exact unhide HW6
          by_cases g3 : life < now - ti
          · go_wp2
            refine bodyPost_ret (v := .tuple #[mnV ⟨#[]⟩ 0 false, .int .i64 4]) (by simp [results, Try.results19, go_sem, zc]) rfl (LCP.mk (unhide HR4 (by omega)) ?_)
            iterate 3 refine Below.setCell ?_ (by simp) _
            exact unhide HW6
          have HRR : Hid (ckR F n ad tk now life dd ti bw 0) := by show ckR F n ad tk now life dd ti bw 0; rw [unhide EB, unhide ED]; exact unhide HR0 ⟨by omega, by omega, by omega⟩
          go_wp2
          refine bodyPost_ret (v := .tuple #[mnV dd ti bw, .int .i64 0]) (by simp [results, Try.results19, go_sem, zc]) rfl (LCP.mk (unhide HRR) ?_)
          iterate 3 refine Below.setCell ?_ (by simp) _
          exact unhide HW6
        · go_simp
          refine hK.out _ _ (by first | exact hHeld.alloc hHeld.size _ | exact (hHeld.alloc hHeld.size _).drew) (fun hHeld => ?_)
          clear hK K
          try simp only [Act.put, List.getElem_toArray, List.getElem_cons_succ, List.getElem_cons_zero, List.setIfInBounds_toArray, List.set_cons_zero, List.set_cons_succ]
          refine wpAnyH_ready (rs := [5]) (by kernel_rfl) (by simp) ?_
          refine (AllReadyH.cons rfl (fun K hK => ?_) AllReadyH.nil)
          go_simp
          go_at_call 38
          with_reducible refine (unhide HN _).mono ?_
          rintro e w6 ⟨rfl, h9⟩
          rw [h9]
          clear h9 w6
          refine hK.out _ _ hHeld (fun hHeld => ?_)
          clear hK K
          try simp only [Act.put, List.getElem_toArray, List.getElem_cons_succ, List.getElem_cons_zero, List.setIfInBounds_toArray, List.set_cons_zero, List.set_cons_succ]
          refine wpAnyH_take (i := 8) (v := ?_) rfl (by kernel_rfl) (by kernel_rfl) (by kernel_rfl) (fun _ _ _ h => h) (Or.inl ⟨by rfl, ?_⟩) hHeld ?_
          rotate_left
          · intro V hSw; go_simp; rfl
          try simp only [Act.put, List.getElem_toArray, List.getElem_cons_succ, List.getElem_cons_zero, List.setIfInBounds_toArray, List.set_cons_zero, List.set_cons_succ]
          refine wpAnyH_ready (rs := [10]) (by kernel_rfl) (by simp) ?_
          refine (AllReadyH.cons rfl (fun K hK => ?_) AllReadyH.nil)
          go_simp
          refine hK.out _ _ (((unhide HB5).alloc (unhide HB5).size _).drew) (fun hHeld => ?_)
          clear hK K
          try simp only [Act.put, List.getElem_toArray, List.getElem_cons_succ, List.getElem_cons_zero, List.setIfInBounds_toArray, List.set_cons_zero, List.set_cons_succ]
          refine wpAnyH_done (by kernel_rfl) ?_ _
          refine NoPanic.normal ?_
          obtain ⟨zc, zf⟩ := unhide ZC _ hHeld
          have HW6 := hide ((unhide A0).trans (hHeld.mono (unhide A0).size))
          have lw : w.heap.size ≠ w5.heap.size := by have := (unhide HB5).size; omega
          have lw2 : w5.heap.size ≠ w.heap.size := by omega
          have y0 : ((w5.alloc (.cells #[.string (te.extract 8 te.size), .int .i64 ti, .bool (((tk[0].toNat : Nat) : Int) == 1)] 25)).drew).cell? ⟨w5.heap.size, 0, none⟩ = some (.string (te.extract 8 te.size)) := by simp
          have y1 : ((w5.alloc (.cells #[.string (te.extract 8 te.size), .int .i64 ti, .bool (((tk[0].toNat : Nat) : Int) == 1)] 25)).drew).cell? ⟨w5.heap.size, 1, none⟩ = some (.int .i64 ti) := by simp
          have y2 : ((w5.alloc (.cells #[.string (te.extract 8 te.size), .int .i64 ti, .bool (((tk[0].toNat : Nat) : Int) == 1)] 25)).drew).cell? ⟨w5.heap.size, 2, none⟩ = some (.bool (((tk[0].toNat : Nat) : Int) == 1)) := by simp
          have EB : Hid ((((tk[0].toNat : Nat) : Int) == 1) = decide (at8 tk 0 = 1)) := by show _ = _; rw [at8_in tk 0 h0, Bool.eq_iff_iff]; simp; omega
          clear hHeld
          generalize (w5.alloc (.cells #[.string (te.extract 8 te.size), .int .i64 ti, .bool (((tk[0].toNat : Nat) : Int) == 1)] 25)).drew = W6 at *
          generalize (((tk[0].toNat : Nat) : Int) == 1) = bw at *
          generalize hdd : te.extract 8 te.size = dd at *
          have HDD := hide hdd
          clear hdd HB5
          by_cases g1 : now < ti
          · go_wp2
            refine bodyPost_ret (v := .tuple #[mnV ⟨#[]⟩ 0 false, .int .i64 4]) (by simp [results, Try.results19, go_sem, zc]) rfl (LCP.mk (unhide HR4 (by omega)) ?_)
            iterate 3 refine Below.setCell ?_ (by simp) _
            exact unhide HW6
          by_cases g2 : ti < 0
          · go_wp2
            refine bodyPost_ret (v := .tuple #[mnV ⟨#[]⟩ 0 false, .int .i64 4]) (by simp [results, Try.results19, go_sem, zc]) rfl (LCP.mk (unhide HR4 (by omega)) ?_)
            iterate 3 refine Below.setCell ?_ (by simp) _
            exact unhide HW6
          by_cases g3 : life < now - ti
          · go_wp2
            refine bodyPost_ret (v := .tuple #[mnV ⟨#[]⟩ 0 false, .int .i64 4]) (by simp [results, Try.results19, go_sem, zc]) rfl (LCP.mk (unhide HR4 (by omega)) ?_)
            iterate 3 refine Below.setCell ?_ (by simp) _
            exact unhide HW6
          have HRR : Hid (ckR F n ad tk now life dd ti bw 0) := by show ckR F n ad tk now life dd ti bw 0; rw [unhide EB, unhide ED]; exact unhide HR0 ⟨by omega, by omega, by omega⟩
          go_wp2
          refine bodyPost_ret (v := .tuple #[mnV dd ti bw, .int .i64 0]) (by simp [results, Try.results19, go_sem, zc]) rfl (LCP.mk (unhide HRR) ?_)
          iterate 3 refine Below.setCell ?_ (by simp) _
          exact unhide HW6
      · have H3 : Hid (∀ kb gk ok ck gt W, SM W kb gk ok ck gt key → Calls Try.prog 37 #[.pointer (some ⟨kb, 0, none⟩), .string (tk.extract 1 13), .string (tk.extract 0 1 ++ ad), .string (tk.extract 13 tk.size)] W fun e w' => e = .returned (.tuple #[.string ⟨#[]⟩, .bool false]) ∧ Below W.heap.size W w') := fun kb gk ok ck gt W hM => (unhide H2 kb gk ok ck gt W hM).mono (fun e w' h => ⟨h.2.1 hO, h.2.2⟩)
        clear H2
        go_wp2_with fail
        refine wp_region_noPanic ?_
        refine wp_region_held_drew (S := fun V => Below W0.heap.size W0 V) (by kernel_rfl) ((unhide HB).drew) (fun hHeld => ?_)
        refine wpAnyH_take (i := 0) (v := ?_) rfl (by kernel_rfl) (by kernel_rfl) (by kernel_rfl) (fun _ _ _ h => h) (Or.inl ⟨by rfl, ?_⟩) hHeld ?_
        rotate_left
        · intro V hSw; go_simp; rfl
        try simp only [Act.put, List.getElem_toArray, List.getElem_cons_zero, List.setIfInBounds_toArray, List.set_cons_zero, List.set_cons_succ]
        refine wpAnyH_take (i := 2) (v := ?_) rfl (by kernel_rfl) (by kernel_rfl) (by kernel_rfl) (fun _ _ _ h => h) (Or.inl ⟨by rfl, ?_⟩) hHeld ?_
        rotate_left
        · intro V hSw; go_simp; rfl
        try simp only [Act.put, List.getElem_toArray, List.getElem_cons_succ, List.getElem_cons_zero, List.setIfInBounds_toArray, List.set_cons_zero, List.set_cons_succ]
        refine wpAnyH_take (i := 3) (v := ?_) rfl (by kernel_rfl) (by kernel_rfl) (by kernel_rfl) (fun _ _ _ h => h) (Or.inl ⟨by rfl, ?_⟩) hHeld ?_
        rotate_left
        · intro V hSw; go_simp; rfl
        try simp only [Act.put, List.getElem_toArray, List.getElem_cons_succ, List.getElem_cons_zero, List.setIfInBounds_toArray, List.set_cons_zero, List.set_cons_succ]
        refine wpAnyH_take (i := 4) (v := ?_) rfl (by kernel_rfl) (by kernel_rfl) (by kernel_rfl) (fun _ _ _ h => h) (Or.inl ⟨by rfl, ?_⟩) hHeld ?_
        rotate_left
        · intro V hSw; go_simp; rfl
        try simp only [Act.put, List.getElem_toArray, List.getElem_cons_succ, List.getElem_cons_zero, List.setIfInBounds_toArray, List.set_cons_zero, List.set_cons_succ]
        refine wpAnyH_take (i := 5) (v := ?_) rfl (by kernel_rfl) (by kernel_rfl) (by kernel_rfl) (fun _ _ _ h => h) (Or.inl ⟨by rfl, ?_⟩) hHeld ?_
        rotate_left
        · intro V hSw; go_simp; rfl
        try simp only [Act.put, List.getElem_toArray, List.getElem_cons_succ, List.getElem_cons_zero, List.setIfInBounds_toArray, List.set_cons_zero, List.set_cons_succ]
        refine wpAnyH_take (i := 6) (v := ?_) rfl (by kernel_rfl) (by kernel_rfl) (by kernel_rfl) (fun _ _ _ h => h) (Or.inl ⟨by rfl, ?_⟩) hHeld ?_
        rotate_left
        · intro V hSw; go_simp; rfl
        try simp only [Act.put, List.getElem_toArray, List.getElem_cons_succ, List.getElem_cons_zero, List.setIfInBounds_toArray, List.set_cons_zero, List.set_cons_succ]
        refine wpAnyH_take (i := 7) (v := ?_) rfl (by kernel_rfl) (by kernel_rfl) (by kernel_rfl) (fun _ _ _ h => h) (Or.inl ⟨by rfl, ?_⟩) hHeld ?_
        rotate_left
        · intro V hSw; go_simp; rfl
        try simp only [Act.put, List.getElem_toArray, List.getElem_cons_succ, List.getElem_cons_zero, List.setIfInBounds_toArray, List.set_cons_zero, List.set_cons_succ]
        refine wpAnyH_take (i := 8) (v := ?_) rfl (by kernel_rfl) (by kernel_rfl) (by kernel_rfl) (fun _ _ _ h => h) (Or.inl ⟨by rfl, ?_⟩) hHeld ?_
        rotate_left
        · intro V hSw; go_simp; rfl
        try simp only [Act.put, List.getElem_toArray, List.getElem_cons_succ, List.getElem_cons_zero, List.setIfInBounds_toArray, List.set_cons_zero, List.set_cons_succ]
        refine wpAnyH_take (i := 9) (v := ?_) rfl (by kernel_rfl) (by kernel_rfl) (by kernel_rfl) (fun _ _ _ h => h) (Or.inl ⟨by rfl, ?_⟩) hHeld ?_
        rotate_left
        · intro V hSw; go_simp; rfl
        try simp only [Act.put, List.getElem_toArray, List.getElem_cons_succ, List.getElem_cons_zero, List.setIfInBounds_toArray, List.set_cons_zero, List.set_cons_succ]
        refine wpAnyH_ready (rs := [1]) (by kernel_rfl) (by simp) ?_
        refine (AllReadyH.cons rfl (fun K hK => ?_) AllReadyH.nil)
        go_simp
        go_at_call 36
        with_reducible refine (unhide H1 _).mono ?_
        rintro e w4 ⟨kb, gk, ok, ck, gt, rfl, m4, b4⟩
        refine hK.out _ _ (hHeld.trans (b4.mono hHeld.size)) (fun hHeld => ?_)
        clear hK K
        try simp only [Act.put, List.getElem_toArray, List.getElem_cons_succ, List.getElem_cons_zero, List.setIfInBounds_toArray, List.set_cons_zero, List.set_cons_succ]
        refine wpAnyH_ready (rs := [10]) (by kernel_rfl) (by simp) ?_
        refine (AllReadyH.cons rfl (fun K hK => ?_) AllReadyH.nil)
        go_simp
        go_at_call 37
        with_reducible refine (unhide H3 _ _ _ _ _ _ m4).mono ?_
        rintro e w5 ⟨rfl, b5⟩
        refine hK.out _ _ (hHeld.trans (b5.mono hHeld.size)) (fun hHeld => ?_)
        clear hK K
        try simp only [Act.put, List.getElem_toArray, List.getElem_cons_succ, List.getElem_cons_zero, List.setIfInBounds_toArray, List.set_cons_zero, List.set_cons_succ]
        refine wpAnyH_take (i := 11) (v := ?_) rfl (by kernel_rfl) (by kernel_rfl) (by kernel_rfl) (fun _ _ _ h => h) (Or.inl ⟨by rfl, ?_⟩) hHeld ?_
        rotate_left
        · intro V hSw; go_simp; rfl
        try simp only [Act.put, List.getElem_toArray, List.getElem_cons_succ, List.getElem_cons_zero, List.setIfInBounds_toArray, List.set_cons_zero, List.set_cons_succ]
        refine wpAnyH_take (i := 12) (v := ?_) rfl (by kernel_rfl) (by kernel_rfl) (by kernel_rfl) (fun _ _ _ h => h) (Or.inl ⟨by rfl, ?_⟩) hHeld ?_
        rotate_left
        · intro V hSw; go_simp; rfl
        try simp only [Act.put, List.getElem_toArray, List.getElem_cons_succ, List.getElem_cons_zero, List.setIfInBounds_toArray, List.set_cons_zero, List.set_cons_succ]
        refine wpAnyH_take (i := 13) (v := ?_) rfl (by kernel_rfl) (by kernel_rfl) (by kernel_rfl) (fun _ _ _ h => h) (Or.inl ⟨by rfl, ?_⟩) hHeld ?_
        rotate_left
        · intro V hSw; go_simp; rfl
        try simp only [Act.put, List.getElem_toArray, List.getElem_cons_succ, List.getElem_cons_zero, List.setIfInBounds_toArray, List.set_cons_zero, List.set_cons_succ]
        refine wpAnyH_take (i := 14) (v := ?_) rfl (by kernel_rfl) (by kernel_rfl) (by kernel_rfl) (fun _ _ _ h => h) (Or.inl ⟨by rfl, ?_⟩) hHeld ?_
        rotate_left
        · intro V hSw; go_simp; rfl
        try simp only [Act.put, List.getElem_toArray, List.getElem_cons_succ, List.getElem_cons_zero, List.setIfInBounds_toArray, List.set_cons_zero, List.set_cons_succ]
        refine wpAnyH_take (i := 15) (v := ?_) rfl (by kernel_rfl) (by kernel_rfl) (by kernel_rfl) (fun _ _ _ h => h) (Or.inl ⟨by rfl, ?_⟩) hHeld ?_
        rotate_left
        · intro V hSw; go_simp; rfl
        try simp only [Act.put, List.getElem_toArray, List.getElem_cons_succ, List.getElem_cons_zero, List.setIfInBounds_toArray, List.set_cons_zero, List.set_cons_succ]
        refine wpAnyH_done (by kernel_rfl) ?_ _
        refine NoPanic.normal ?_
        have HB5 := hide hHeld
        clear hHeld m4 b4 b5 H1 H3 HB
        have HJ2 : Hid (∀ j, j < k + 1 → ¬ opK (F j) tk ad) := fun j hj => by
          by_cases hjk : j = k
          · subst hjk; rw [unhide HF]; exact hO
          · exact unhide HJ j (by omega)
        clear hO
        go_wp2
        exact ⟨⟨k + 1, by omega, by go_num, unhide HJ2, unhide HB5⟩, by simp [intOf]; omega⟩
    · obtain rfl : k = n := by omega
      obtain ⟨zc, zf⟩ := unhide ZC _ hB
      have HR : Hid (ckR F k ad tk now life ⟨#[]⟩ 0 false 3) := by show ckR F k ad tk now life ⟨#[]⟩ 0 false 3; unfold ckR; rw [if_neg (by rw [unhide HT]; decide)]; exact Or.inl ⟨unhide HJ, rfl, rfl, rfl, rfl⟩
      clear hB
      go_wp2
      refine bodyPost_ret (v := .tuple #[mnV ⟨#[]⟩ 0 false, .int .i64 3]) (by simp [results, Try.results19, go_sem, zc]) rfl (LCP.mk (unhide HR) ?_)
      iterate 3 refine Below.setCell ?_ (by simp) _
      exact unhide HBw
end Go.Proofs.Ytkpodgeinanceaa
namespace Go.Proofs.Ytkpodgeinanceaa
open Go.ChangeShapes Go.WideShapes Go.ChangeAt Go.RowKit
set_option linter.unusedVariables false
set_option maxRecDepth 100000

/-- what CheckToken takes -/
def cbP (F : Nat → ByteArray) (n a : Nat) (now life : Int) : Prop := (1 ≤ n ∧ n ≤ 2) ∧ (1 ≤ a ∧ a ≤ 18) ∧ (0 ≤ now ∧ now ≤ 1000000000) ∧ (0 ≤ life ∧ life ≤ 1000000) ∧ k16 F n = true
/-- CheckToken's answer -/
def ckW (F : Nat → ByteArray) (n : Nat) (a tk : ByteArray) (now life : Int) (d : ByteArray) (t : Int) (b : Bool) (c : Int) : Prop :=
  (cbP F n a.size now life ∧ ckR F n a tk now life d t b c) ∨ (¬ cbP F n a.size now life ∧ d = ⟨#[]⟩ ∧ t = 0 ∧ b = false ∧ c = 1)
theorem ckW_uniq {F : Nat → ByteArray} {n : Nat} {a tk : ByteArray} {now life : Int} {d d' : ByteArray} {t t' : Int} {b b' : Bool} {c c' : Int}
    (h : ckW F n a tk now life d t b c) (h' : ckW F n a tk now life d' t' b' c') : d = d' ∧ t = t' ∧ b = b' ∧ c = c' := by
  rcases h with ⟨g, h⟩ | ⟨g, e1, e2, e3, e4⟩
  · rcases h' with ⟨_, h'⟩ | ⟨g', _⟩
    · exact ckR_uniq h h'
    · exact absurd g g'
  · rcases h' with ⟨g', _⟩ | ⟨_, f1, f2, f3, f4⟩
    · exact absurd g' g
    · exact ⟨e1.trans f1.symm, e2.trans f2.symm, e3.trans f3.symm, e4.trans f4.symm⟩
theorem cbP_mk {F : Nat → ByteArray} {n a : Nat} {now life : Int} (c1 : 1 ≤ n ∧ n ≤ 2) (c2 : 1 ≤ a ∧ a ≤ 18) (c3 : 0 ≤ now ∧ now ≤ 1000000000) (c4 : 0 ≤ life ∧ life ≤ 1000000) (h : k16 F n = true) : cbP F n a now life := ⟨c1, c2, c3, c4, h⟩
/-- what CheckToken leaves -/
def CTP (F : Nat → ByteArray) (n : Nat) (a tk : ByteArray) (now life : Int) (w : World) (e : Ending) (w' : World) : Prop := ∃ d t b c, e = .returned (.tuple #[mnV d t b, .int .i64 c]) ∧ ckW F n a tk now life d t b c ∧ Below w.heap.size w w'
theorem CTP.mk {F : Nat → ByteArray} {n : Nat} {a tk : ByteArray} {now life : Int} {w w' : World} {d : ByteArray} {t : Int} {b : Bool} {c : Int} (h : ckW F n a tk now life d t b c) (hb : Below w.heap.size w w') : CTP F n a tk now life w (.returned (.tuple #[mnV d t b, .int .i64 c])) w' := ⟨d, t, b, c, rfl, h, hb⟩
theorem ckW_bad {F : Nat → ByteArray} {n : Nat} {a tk : ByteArray} {now life : Int} (h : ¬ cbP F n a.size now life) : ckW F n a tk now life ⟨#[]⟩ 0 false 1 := Or.inr ⟨h, rfl, rfl, rfl, rfl⟩
theorem dec2 (x lo hi : Int) (h : lo ≤ x ∧ x ≤ hi) : (decide (lo ≤ x) && decide (x ≤ hi)) = true := by rw [← Bool.decide_and]; exact decide_eq_true h
theorem dec2n (x lo hi : Int) (h : ¬ (lo ≤ x ∧ x ≤ hi)) : (decide (lo ≤ x) && decide (x ≤ hi)) = false := by rw [← Bool.decide_and]; exact decide_eq_false h
set_option maxHeartbeats 2000000 in
theorem specCT (a : Option Addr) (n cap : Nat) (F : Nat → ByteArray) (ad tk : ByteArray) (now life : Int) (w : World) (hn : n ≤ 1048576) (hz : ∀ i, i < n → (F i).size ≤ 1048576) (hl : tk.size ≤ 1048576) (had : ad.size ≤ 1048576) (h : Sa w a n F) :
    Calls Try.prog 6 #[.slice a n cap, .string ad, .string tk, .int .i64 now, .int .i64 life] w (CTP F n ad tk now life w) := by
  have A0 : Hid (Below w.heap.size w (w.alloc (.cells #[.string ⟨#[]⟩, .int .i64 0, .bool false] 25))) := (Below.refl _ _).alloc (Nat.le_refl _) _
  have HN := hide (inB (n : Int) 1 2)
  have HA := hide (specAd ad)
  have HW := hide (inB now 0 1000000000)
  have HL := hide (inB life 0 1000000)
  by_cases c1 : 1 ≤ n ∧ n ≤ 2
  case neg =>
    rw [dec2n _ _ _ (by omega)] at HN
    have HR := hide (ckW_bad (tk := tk) (show ¬ cbP F n ad.size now life from fun x => c1 x.1))
    clear c1
    go_enter Try.func6, Try.ntmps6
    go_wp2_with fail
    refine (unhide HN _).mono ?_
    rintro e w2 ⟨rfl, h9⟩
    rw [h9]
    clear h9 w2
    go_wp2
    refine bodyPost_ret (v := .tuple #[mnV ⟨#[]⟩ 0 false, .int .i64 1]) (by simp [results, Try.results6, go_sem]) rfl (CTP.mk (unhide HR) ?_)
    exact unhide A0
  rw [dec2 _ _ _ (by omega)] at HN
  by_cases c2 : 1 ≤ ad.size ∧ ad.size ≤ 18
  case neg =>
    rw [decide_eq_false c2] at HA
    have HR := hide (ckW_bad (tk := tk) (show ¬ cbP F n ad.size now life from fun x => c2 x.2.1))
    clear c2
    go_enter Try.func6, Try.ntmps6
    go_wp2_with fail
    refine (unhide HN _).mono ?_
    rintro e w2 ⟨rfl, h9⟩
    rw [h9]
    clear h9 w2
    go_wp2_with fail
    refine (unhide HA _).mono ?_
    rintro e w2 ⟨rfl, h9⟩
    rw [h9]
    clear h9 w2
    go_wp2
    refine bodyPost_ret (v := .tuple #[mnV ⟨#[]⟩ 0 false, .int .i64 1]) (by simp [results, Try.results6, go_sem]) rfl (CTP.mk (unhide HR) ?_)
    exact unhide A0
  rw [decide_eq_true c2] at HA
  by_cases c3 : 0 ≤ now ∧ now ≤ 1000000000
  case neg =>
    rw [dec2n _ _ _ c3] at HW
    have HR := hide (ckW_bad (tk := tk) (show ¬ cbP F n ad.size now life from fun x => c3 x.2.2.1))
    clear c3
    go_enter Try.func6, Try.ntmps6
    go_wp2_with fail
    refine (unhide HN _).mono ?_
    rintro e w2 ⟨rfl, h9⟩
    rw [h9]
    clear h9 w2
    go_wp2_with fail
    refine (unhide HA _).mono ?_
    rintro e w2 ⟨rfl, h9⟩
    rw [h9]
    clear h9 w2
    go_wp2_with fail
    refine (unhide HW _).mono ?_
    rintro e w2 ⟨rfl, h9⟩
    rw [h9]
    clear h9 w2
    go_wp2
    refine bodyPost_ret (v := .tuple #[mnV ⟨#[]⟩ 0 false, .int .i64 1]) (by simp [results, Try.results6, go_sem]) rfl (CTP.mk (unhide HR) ?_)
    exact unhide A0
  rw [dec2 _ _ _ c3] at HW
  by_cases c4 : 0 ≤ life ∧ life ≤ 1000000
  case neg =>
    rw [dec2n _ _ _ c4] at HL
    have HR := hide (ckW_bad (tk := tk) (show ¬ cbP F n ad.size now life from fun x => c4 x.2.2.2.1))
    clear c4
    go_enter Try.func6, Try.ntmps6
    go_wp2_with fail
    refine (unhide HN _).mono ?_
    rintro e w2 ⟨rfl, h9⟩
    rw [h9]
    clear h9 w2
    go_wp2_with fail
    refine (unhide HA _).mono ?_
    rintro e w2 ⟨rfl, h9⟩
    rw [h9]
    clear h9 w2
    go_wp2_with fail
    refine (unhide HW _).mono ?_
    rintro e w2 ⟨rfl, h9⟩
    rw [h9]
    clear h9 w2
    go_wp2_with fail
    refine (unhide HL _).mono ?_
    rintro e w2 ⟨rfl, h9⟩
    rw [h9]
    clear h9 w2
    go_wp2
    refine bodyPost_ret (v := .tuple #[mnV ⟨#[]⟩ 0 false, .int .i64 1]) (by simp [results, Try.results6, go_sem]) rfl (CTP.mk (unhide HR) ?_)
    exact unhide A0
  rw [dec2 _ _ _ c4] at HL
  have HS := hide h
  have HZ := hide hz
  have C1 := hide c1
  have C2 := hide c2
  have C3 := hide c3
  have C4 := hide c4
  clear h hz c2 c3 c4
  go_enter Try.func6, Try.ntmps6
  go_wp2_with fail
  refine (unhide HN _).mono ?_
  rintro e w2 ⟨rfl, h9⟩
  rw [h9]
  clear h9 w2
  go_wp2_with fail
  refine (unhide HA _).mono ?_
  rintro e w2 ⟨rfl, h9⟩
  rw [h9]
  clear h9 w2
  go_wp2_with fail
  refine (unhide HW _).mono ?_
  rintro e w2 ⟨rfl, h9⟩
  rw [h9]
  clear h9 w2
  go_wp2_with fail
  refine (unhide HL _).mono ?_
  rintro e w2 ⟨rfl, h9⟩
  rw [h9]
  clear h9 w2
  go_wp2_with fail
  have z0 : ∀ o, (w.alloc (.cells #[.string ⟨#[]⟩, .int .i64 0, .bool false] 25)).cell? ⟨w.heap.size, o, none⟩ = (#[.string ⟨#[]⟩, .int .i64 0, .bool false] : Array Value)[o]? := fun o => by simp
  have f0 : ∀ o, (w.alloc (.cells #[.string ⟨#[]⟩, .int .i64 0, .bool false] 25)).frozen? ⟨w.heap.size, o, none⟩ = false := fun o => by simp
  have hc0 : w.heap.size < (w.alloc (.cells #[.string ⟨#[]⟩, .int .i64 0, .bool false] 25)).heap.size := by simp
  generalize w.alloc (.cells #[.string ⟨#[]⟩, .int .i64 0, .bool false] 25) = W0 at *
  go_loopw [36] (fun i wr => ∃ k : Nat, k ≤ n ∧ i = .int .i64 k ∧ k16 F k = true ∧ wr = W0) (fun i _ => n - (intOf i).toNat)
  case atStart => exact ⟨0, Nat.zero_le _, rfl, rfl, rfl⟩
  case round =>
    obtain ⟨k, hk, rfl, hA, rfl⟩ := hrel
    by_cases hlt : k < n
    · rcases (unhide HS).kept (unhide A0) with h9 | ⟨b, o, rfl, h1⟩
      · omega
      have hcf := h1.c k hlt
      have hsz := unhide HZ k hlt
      have hnk : (k : Int) < (n : Int) := by omega
      by_cases c : (F k).size = 16
      · have hA2 : Hid (k16 F (k + 1) = true) := by show _ = _; rw [k16, hA, decide_eq_true c]; rfl
        clear h1 hA
        generalize F k = t at *
        have c2 : ((t.size : Int) != 16) = false := by simp; omega
        go_wp2
        exact ⟨⟨k + 1, by omega, by go_num, unhide hA2, by trivial⟩, by simp [intOf]; omega⟩
      · have HR := hide (ckW_bad (tk := tk) (show ¬ cbP F n ad.size now life from fun x => by have := k16_no F hlt c; rw [x.2.2.2.2] at this; cases this))
        clear h1 hA
        generalize F k = t at *
        have c2 : ((t.size : Int) != 16) = true := by simp; omega
        go_wp2
        refine bodyPost_ret (v := .tuple #[mnV ⟨#[]⟩ 0 false, .int .i64 1]) (by simp [results, Try.results6, go_sem, z0]) rfl (CTP.mk (unhide HR) ?_)
        iterate 3 refine Below.setCell ?_ (by simp) _
        exact unhide A0
    · obtain rfl : k = n := by omega
      have HB := hide (cbP_mk (unhide C1) (unhide C2) (unhide C3) (unhide C4) hA)
      have HC := hide (fun W (hW : Sa W a k F) => specLC a k cap F ad tk now life W (unhide C1).2 hA hl (unhide C2).2 (unhide C3) (unhide C4) hW)
      have HS0 := hide ((unhide HS).kept (unhide A0))
      clear hA
      go_wp2_with fail
      refine (unhide HC _ (unhide HS0)).mono ?_
      rintro e w5 ⟨d, t, bb, cc, rfl, hck, b5⟩
      obtain ⟨hc5, hf5⟩ := bcell b5
      have zc : ∀ o, w5.cell? ⟨w.heap.size, o, none⟩ = _ := fun o => (hc5 _ o hc0).trans (z0 o)
      have zf : ∀ o, w5.frozen? ⟨w.heap.size, o, none⟩ = _ := fun o => (hf5 _ o hc0).trans (f0 o)
      have HR : Hid (ckW F k ad tk now life d t bb cc) := Or.inl ⟨unhide HB, hck⟩
      have HB5 := hide ((unhide A0).trans (b5.mono (unhide A0).size))
      clear hc5 hf5 b5 hck z0 f0
      go_wp2
      refine bodyPost_ret (v := .tuple #[mnV d t bb, .int .i64 cc]) (by simp [results, Try.results6, go_sem, zc]) rfl (CTP.mk (unhide HR) ?_)
      iterate 3 refine Below.setCell ?_ (by simp) _
      exact unhide HB5
end Go.Proofs.Ytkpodgeinanceaa
namespace Go.Proofs.Ytkpodgeinanceaa
open Go.ChangeShapes Go.WideShapes Go.ChangeAt Go.RowKit
set_option linter.unusedVariables false
set_option maxRecDepth 100000

/-- what openToken tells -/
def opR (F : Nat → ByteArray) (n : Nat) (a tk : ByteArray) (d : ByteArray) (t : Int) (b ok : Bool) : Prop :=
  ((∀ i, i < n → ¬ opK (F i) tk a) ∧ ok = false) ∨
  ∃ i, i < n ∧ (∀ j, j < i → ¬ opK (F j) tk a) ∧ opK (F i) tk a ∧ d = idC (F i) tk ∧ t = tiC (F i) tk ∧ b = decide (at8 tk 0 = 1) ∧ ok = true
def OTP (F : Nat → ByteArray) (n : Nat) (a tk : ByteArray) (w : World) (e : Ending) (w' : World) : Prop := ∃ d t b ok, e = .returned (.tuple #[mnV d t b, .bool ok]) ∧ opR F n a tk d t b ok ∧ Below w.heap.size w w'
theorem idC_size {k tk : ByteArray} (h : tsB tk = true) : (idC k tk).size ≤ 20 := by
  have h1 := teC_size (k := k) h
  have := of_decide_eq_true h
  unfold idC; rw [ByteArray.size_extract]; omega
set_option maxHeartbeats 2000000 in
theorem implCT (a : Option Addr) (n cap : Nat) (F : Nat → ByteArray) (ad tk : ByteArray) (now life : Int) (w : World) (hn : n ≤ 1048576) (hz : ∀ i, i < n → (F i).size ≤ 1048576) (hl : tk.size ≤ 1048576) (had : ad.size ≤ 1048576) (h : Sa w a n F)
    (HO0 : ∀ W, cbP F n ad.size now life → tsB tk = true → Sa W a n F → Calls Try.prog 25 #[.slice a n cap, .string ad, .string tk] W (OTP F n ad tk W)) :
    Calls Try.prog 8 #[.slice a n cap, .string ad, .string tk, .int .i64 now, .int .i64 life] w (CTP F n ad tk now life w) := by
  have A0 : Hid (Below w.heap.size w (w.alloc (.cells #[.string ⟨#[]⟩, .int .i64 0, .bool false] 25))) := (Below.refl _ _).alloc (Nat.le_refl _) _
  have HO := hide HO0
  have HS := hide h
  have HK := hide (fun W (hW : Sa W a n F) => goodKs a n cap F W hn hz hW)
  have HA := hide (goodAd ad had)
  have HW := hide (goodTm now)
  have HL := hide (goodLf life)
  have hc0 : w.heap.size < (w.alloc (.cells #[.string ⟨#[]⟩, .int .i64 0, .bool false] 25)).heap.size := by simp
  clear h HO0 hz
  by_cases k1 : gkB F n = true
  case neg =>
    have k0 : gkB F n = false := by simpa using k1
    rw [k0] at HK
    have HR := hide (ckW_bad (tk := tk) (show ¬ cbP F n ad.size now life from fun x => k1 (by unfold gkB; rw [decide_eq_true x.1, x.2.2.2.2]; rfl)))
    clear k0 k1
    go_enter Try.func8, Try.ntmps8
    go_wp2_with fail
    refine (unhide HK _ ((unhide HS).kept (unhide A0))).mono ?_
    rintro e w2 ⟨rfl, h9⟩
    rw [h9]
    clear h9 w2
    go_wp2
    refine bodyPost_ret (v := .tuple #[mnV ⟨#[]⟩ 0 false, .int .i64 1]) (by simp [results, Try.results8, go_sem]) rfl (CTP.mk (unhide HR) ?_)
    exact unhide A0
  rw [k1] at HK
  have k2 : (1 ≤ n ∧ n ≤ 2) ∧ k16 F n = true := by unfold gkB at k1; rw [Bool.and_eq_true] at k1; exact ⟨of_decide_eq_true k1.1, k1.2⟩
  clear k1
  by_cases c2 : 1 ≤ ad.size ∧ ad.size ≤ 18
  case neg =>
    rw [decide_eq_false c2] at HA
    have HR := hide (ckW_bad (tk := tk) (show ¬ cbP F n ad.size now life from fun x => c2 x.2.1))
    clear c2 k2
    go_enter Try.func8, Try.ntmps8
    go_wp2_with fail
    refine (unhide HK _ ((unhide HS).kept (unhide A0))).mono ?_
    rintro e w2 ⟨rfl, h9⟩
    rw [h9]
    clear h9 w2
    go_wp2_with fail
    refine (unhide HA _).mono ?_
    rintro e w2 ⟨rfl, b2⟩
    have B2 := hide ((unhide A0).trans (b2.mono (unhide A0).size))
    obtain ⟨hc2, hf2⟩ := bcell b2
    have zc : ∀ o, w2.cell? ⟨w.heap.size, o, none⟩ = _ := fun o => hc2 _ o hc0
    have zf : ∀ o, w2.frozen? ⟨w.heap.size, o, none⟩ = _ := fun o => hf2 _ o hc0
    have D2 := hide b2
    clear hc2 hf2 b2
    go_wp2
    refine bodyPost_ret (v := .tuple #[mnV ⟨#[]⟩ 0 false, .int .i64 1]) (by simp [results, Try.results8, go_sem, zc]) rfl (CTP.mk (unhide HR) ?_)
    iterate 3 refine Below.setCell ?_ (by simp) _
    exact unhide B2
  rw [decide_eq_true c2] at HA
  by_cases c3 : 0 ≤ now ∧ now ≤ 1000000000
  case neg =>
    rw [decide_eq_false c3] at HW
    have HR := hide (ckW_bad (tk := tk) (show ¬ cbP F n ad.size now life from fun x => c3 x.2.2.1))
    clear c3 c2 k2
    go_enter Try.func8, Try.ntmps8
    go_wp2_with fail
    refine (unhide HK _ ((unhide HS).kept (unhide A0))).mono ?_
    rintro e w2 ⟨rfl, h9⟩
    rw [h9]
    clear h9 w2
    go_wp2_with fail
    refine (unhide HA _).mono ?_
    rintro e w2 ⟨rfl, b2⟩
    have B2 := hide ((unhide A0).trans (b2.mono (unhide A0).size))
    obtain ⟨hc2, hf2⟩ := bcell b2
    have zc : ∀ o, w2.cell? ⟨w.heap.size, o, none⟩ = _ := fun o => hc2 _ o hc0
    have zf : ∀ o, w2.frozen? ⟨w.heap.size, o, none⟩ = _ := fun o => hf2 _ o hc0
    have D2 := hide b2
    clear hc2 hf2 b2
    go_wp2_with fail
    refine (unhide HW _).mono ?_
    rintro e w3 ⟨rfl, h9⟩
    rw [h9]
    clear h9 w3
    go_wp2
    refine bodyPost_ret (v := .tuple #[mnV ⟨#[]⟩ 0 false, .int .i64 1]) (by simp [results, Try.results8, go_sem, zc]) rfl (CTP.mk (unhide HR) ?_)
    iterate 3 refine Below.setCell ?_ (by simp) _
    exact unhide B2
  rw [decide_eq_true c3] at HW
  by_cases c4 : 0 ≤ life ∧ life ≤ 1000000
  case neg =>
    rw [decide_eq_false c4] at HL
    have HR := hide (ckW_bad (tk := tk) (show ¬ cbP F n ad.size now life from fun x => c4 x.2.2.2.1))
    clear c4 c3 c2 k2
    go_enter Try.func8, Try.ntmps8
    go_wp2_with fail
    refine (unhide HK _ ((unhide HS).kept (unhide A0))).mono ?_
    rintro e w2 ⟨rfl, h9⟩
    rw [h9]
    clear h9 w2
    go_wp2_with fail
    refine (unhide HA _).mono ?_
    rintro e w2 ⟨rfl, b2⟩
    have B2 := hide ((unhide A0).trans (b2.mono (unhide A0).size))
    obtain ⟨hc2, hf2⟩ := bcell b2
    have zc : ∀ o, w2.cell? ⟨w.heap.size, o, none⟩ = _ := fun o => hc2 _ o hc0
    have zf : ∀ o, w2.frozen? ⟨w.heap.size, o, none⟩ = _ := fun o => hf2 _ o hc0
    have D2 := hide b2
    clear hc2 hf2 b2
    go_wp2_with fail
    refine (unhide HW _).mono ?_
    rintro e w3 ⟨rfl, h9⟩
    rw [h9]
    clear h9 w3
    go_wp2_with fail
    refine (unhide HL _).mono ?_
    rintro e w3 ⟨rfl, h9⟩
    rw [h9]
    clear h9 w3
    go_wp2
    refine bodyPost_ret (v := .tuple #[mnV ⟨#[]⟩ 0 false, .int .i64 1]) (by simp [results, Try.results8, go_sem, zc]) rfl (CTP.mk (unhide HR) ?_)
    iterate 3 refine Below.setCell ?_ (by simp) _
    exact unhide B2
  rw [decide_eq_true c4] at HL
  have HC : Hid (cbP F n ad.size now life) := cbP_mk k2.1 c2 c3 c4 k2.2
  have HX := hide (implTS tk hl)
  clear k2 c2
  cases hT : tsB tk with
  | false =>
    rw [hT] at HX
    have HR : Hid (ckW F n ad tk now life ⟨#[]⟩ 0 false 2) := Or.inl ⟨unhide HC, by unfold ckR; rw [if_pos hT]; exact ⟨rfl, rfl, rfl, rfl⟩⟩
    clear hT
    go_enter Try.func8, Try.ntmps8
    go_wp2_with fail
    refine (unhide HK _ ((unhide HS).kept (unhide A0))).mono ?_
    rintro e w2 ⟨rfl, h9⟩
    rw [h9]
    clear h9 w2
    go_wp2_with fail
    refine (unhide HA _).mono ?_
    rintro e w2 ⟨rfl, b2⟩
    have B2 := hide ((unhide A0).trans (b2.mono (unhide A0).size))
    obtain ⟨hc2, hf2⟩ := bcell b2
    have zc : ∀ o, w2.cell? ⟨w.heap.size, o, none⟩ = _ := fun o => hc2 _ o hc0
    have zf : ∀ o, w2.frozen? ⟨w.heap.size, o, none⟩ = _ := fun o => hf2 _ o hc0
    have D2 := hide b2
    clear hc2 hf2 b2
    go_wp2_with fail
    refine (unhide HW _).mono ?_
    rintro e w3 ⟨rfl, h9⟩
    rw [h9]
    clear h9 w3
    go_wp2_with fail
    refine (unhide HL _).mono ?_
    rintro e w3 ⟨rfl, h9⟩
    rw [h9]
    clear h9 w3
    go_wp2_with fail
    refine (unhide HX _).mono ?_
    rintro e w3 ⟨rfl, h9⟩
    rw [h9]
    clear h9 w3
    go_wp2
    refine bodyPost_ret (v := .tuple #[mnV ⟨#[]⟩ 0 false, .int .i64 2]) (by simp [results, Try.results8, go_sem, zc]) rfl (CTP.mk (unhide HR) ?_)
    iterate 3 refine Below.setCell ?_ (by simp) _
    exact unhide B2
  | true =>
    rw [hT] at HX
    have HT := hide hT
    clear hT
    go_enter Try.func8, Try.ntmps8
    go_wp2_with fail
    refine (unhide HK _ ((unhide HS).kept (unhide A0))).mono ?_
    rintro e w2 ⟨rfl, h9⟩
    rw [h9]
    clear h9 w2
    go_wp2_with fail
    refine (unhide HA _).mono ?_
    rintro e w2 ⟨rfl, b2⟩
    have B2 := hide ((unhide A0).trans (b2.mono (unhide A0).size))
    obtain ⟨hc2, hf2⟩ := bcell b2
    have zc : ∀ o, w2.cell? ⟨w.heap.size, o, none⟩ = _ := fun o => hc2 _ o hc0
    have zf : ∀ o, w2.frozen? ⟨w.heap.size, o, none⟩ = _ := fun o => hf2 _ o hc0
    have D2 := hide b2
    clear hc2 hf2 b2
    go_wp2_with fail
    refine (unhide HW _).mono ?_
    rintro e w3 ⟨rfl, h9⟩
    rw [h9]
    clear h9 w3
    go_wp2_with fail
    refine (unhide HL _).mono ?_
    rintro e w3 ⟨rfl, h9⟩
    rw [h9]
    clear h9 w3
    go_wp2_with fail
    refine (unhide HX _).mono ?_
    rintro e w3 ⟨rfl, h9⟩
    rw [h9]
    clear h9 w3
    go_wp2_with fail
    refine (unhide HO _ (unhide HC) (unhide HT) ((unhide HS).kept (unhide B2))).mono ?_
    rintro e w4 ⟨d, t, bb, ok, rfl, hop, b4⟩
    have D4 := hide ((unhide D2).trans (b4.mono (unhide D2).size))
    have B4 := hide ((unhide B2).trans (b4.mono (unhide B2).size))
    clear zc zf b4 D2 B2
    have D5 := hide ((unhide D4).alloc (unhide D4).size (.cells #[.string d, .int .i64 t, .bool bb] 25))
    have B5 := hide ((unhide B4).alloc (unhide B4).size (.cells #[.string d, .int .i64 t, .bool bb] 25))
    have m5 : ∀ o, (w4.alloc (.cells #[.string d, .int .i64 t, .bool bb] 25)).cell? ⟨w4.heap.size, o, none⟩ = (#[.string d, .int .i64 t, .bool bb] : Array Value)[o]? := fun o => by simp
    have lm : w4.heap.size < (w4.alloc (.cells #[.string d, .int .i64 t, .bool bb] 25)).heap.size := by simp
    have nw : w.heap.size ≠ w4.heap.size := by have := (unhide D4).size; omega
    have nw2 : w4.heap.size ≠ w.heap.size := by omega
    obtain ⟨hc5, hf5⟩ := bcell (unhide D5)
    have zc : ∀ o, (w4.alloc (.cells #[.string d, .int .i64 t, .bool bb] 25)).cell? ⟨w.heap.size, o, none⟩ = _ := fun o => hc5 _ o hc0
    have zf : ∀ o, (w4.alloc (.cells #[.string d, .int .i64 t, .bool bb] 25)).frozen? ⟨w.heap.size, o, none⟩ = _ := fun o => hf5 _ o hc0
    clear hc5 hf5 D4 B4
    rcases hop with ⟨h0, rfl⟩ | ⟨i, hi, hj, hok, hd0, ht0, hb0, rfl⟩
    · have HR : Hid (ckW F n ad tk now life ⟨#[]⟩ 0 false 3) := Or.inl ⟨unhide HC, by unfold ckR; rw [if_neg (by rw [unhide HT]; decide)]; exact Or.inl ⟨h0, rfl, rfl, rfl, rfl⟩⟩
      clear h0
      go_wp2_with fail
      refine bodyPost_ret (v := .tuple #[mnV ⟨#[]⟩ 0 false, .int .i64 3]) (by simp [results, Try.results8, go_sem, zc]) rfl (CTP.mk (unhide HR) ?_)
      iterate 3 refine Below.setCell ?_ (by simp) _
      exact unhide B5
    · have hdz : d.size ≤ 20 := by rw [hd0]; exact idC_size (unhide HT)
      by_cases hag : agP t now
      · by_cases g6 : life < now - t
        · have HR : Hid (ckW F n ad tk now life ⟨#[]⟩ 0 false 4) := Or.inl ⟨unhide HC, by unfold ckR; rw [if_neg (by rw [unhide HT]; decide)]; exact Or.inr ⟨i, hi, hj, hok, Or.inl ⟨by rw [← ht0]; exact fun x => by omega, rfl, rfl, rfl, rfl⟩⟩⟩
          clear hd0 ht0 hb0 hok hj
          have HG := hide (implAg_ok d t bb now hdz hag)
          go_wp2_with fail
          refine (unhide HG _).mono ?_
          rintro e w6 ⟨rfl, b6⟩
          obtain ⟨hc6, hf6⟩ := bcell b6
          have zc6 : ∀ o, w6.cell? ⟨w.heap.size, o, none⟩ = _ := fun o => (hc6 _ o (Nat.lt_of_lt_of_le hc0 (unhide D5).size)).trans (zc o)
          have zf6 : ∀ o, w6.frozen? ⟨w.heap.size, o, none⟩ = _ := fun o => (hf6 _ o (Nat.lt_of_lt_of_le hc0 (unhide D5).size)).trans (zf o)
          have m6 : ∀ o, w6.cell? ⟨w4.heap.size, o, none⟩ = _ := fun o => (hc6 _ o lm).trans (m5 o)
          have B6 := hide ((unhide B5).trans (b6.mono (unhide B5).size))
          clear hc6 hf6 b6 zc zf m5
          clear hag
          go_wp2
          refine bodyPost_ret (v := .tuple #[mnV ⟨#[]⟩ 0 false, .int .i64 4]) (by simp [results, Try.results8, go_sem, zc6]) rfl (CTP.mk (unhide HR) ?_)
          iterate 3 refine Below.setCell ?_ (by simp) _
          exact unhide B6
        · have HR : Hid (ckW F n ad tk now life d t bb 0) := Or.inl ⟨unhide HC, by unfold ckR; rw [if_neg (by rw [unhide HT]; decide)]; exact Or.inr ⟨i, hi, hj, hok, Or.inr ⟨by rw [← ht0]; exact ⟨hag.1.1, hag.2.2, by omega⟩, hd0, ht0, hb0, rfl⟩⟩⟩
          clear hd0 ht0 hb0 hok hj
          have HG := hide (implAg_ok d t bb now hdz hag)
          go_wp2_with fail
          refine (unhide HG _).mono ?_
          rintro e w6 ⟨rfl, b6⟩
          obtain ⟨hc6, hf6⟩ := bcell b6
          have zc6 : ∀ o, w6.cell? ⟨w.heap.size, o, none⟩ = _ := fun o => (hc6 _ o (Nat.lt_of_lt_of_le hc0 (unhide D5).size)).trans (zc o)
          have zf6 : ∀ o, w6.frozen? ⟨w.heap.size, o, none⟩ = _ := fun o => (hf6 _ o (Nat.lt_of_lt_of_le hc0 (unhide D5).size)).trans (zf o)
          have m6 : ∀ o, w6.cell? ⟨w4.heap.size, o, none⟩ = _ := fun o => (hc6 _ o lm).trans (m5 o)
          have B6 := hide ((unhide B5).trans (b6.mono (unhide B5).size))
          clear hc6 hf6 b6 zc zf m5
          clear hag
          go_wp2
          refine bodyPost_ret (v := .tuple #[mnV d t bb, .int .i64 0]) (by simp [results, Try.results8, go_sem, zc6]) rfl (CTP.mk (unhide HR) ?_)
          iterate 3 refine Below.setCell ?_ (by simp) _
          exact unhide B6
      · have HR : Hid (ckW F n ad tk now life ⟨#[]⟩ 0 false 4) := Or.inl ⟨unhide HC, by unfold ckR; rw [if_neg (by rw [unhide HT]; decide)]; exact Or.inr ⟨i, hi, hj, hok, Or.inl ⟨by rw [← ht0]; exact fun x => hag ⟨⟨x.1, by omega⟩, c3, x.2.1⟩, rfl, rfl, rfl, rfl⟩⟩⟩
        clear hd0 ht0 hb0 hok hj
        have HG := hide (implAg_no d t bb now (by omega) (fun x => hag x.2))
        go_wp2_with fail
        refine (unhide HG _).mono ?_
        rintro e w6 ⟨rfl, b6⟩
        obtain ⟨hc6, hf6⟩ := bcell b6
        have zc6 : ∀ o, w6.cell? ⟨w.heap.size, o, none⟩ = _ := fun o => (hc6 _ o (Nat.lt_of_lt_of_le hc0 (unhide D5).size)).trans (zc o)
        have zf6 : ∀ o, w6.frozen? ⟨w.heap.size, o, none⟩ = _ := fun o => (hf6 _ o (Nat.lt_of_lt_of_le hc0 (unhide D5).size)).trans (zf o)
        have m6 : ∀ o, w6.cell? ⟨w4.heap.size, o, none⟩ = _ := fun o => (hc6 _ o lm).trans (m5 o)
        have B6 := hide ((unhide B5).trans (b6.mono (unhide B5).size))
        clear hc6 hf6 b6 zc zf m5
        clear hag
        go_wp2
        refine bodyPost_ret (v := .tuple #[mnV ⟨#[]⟩ 0 false, .int .i64 4]) (by simp [results, Try.results8, go_sem, zc6]) rfl (CTP.mk (unhide HR) ?_)
        iterate 3 refine Below.setCell ?_ (by simp) _
        exact unhide B6
end Go.Proofs.Ytkpodgeinanceaa
