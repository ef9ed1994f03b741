/-
  Contract: PlayWindow of the program.
-/
import Derived.Test.YtpjpmlopmknllaaCho
import Derived.Test.YtpjpmlopmknllaaNewWindowI
import Derived.Test.YtpjpmlopmknllaaOpGrow
import Derived.Deep.DeepCutAuto
import Derived.Deep.RegionHeld3
namespace Go.Proofs.Ytpjpmlopmknllaa.Rc
open Go.ChangeShapes Go.WideShapes Go.ChangeAt Go.RowKit Go.Deep
set_option linter.unusedVariables false
set_option maxRecDepth 100000

theorem mk_noughts (n : Nat) (hn : n ≤ 1048576) (w : World) :
    (Instr.makeSlice 42 (.int .i64 n) (.int .i64 n)).run Try.prog w = .ok (.slice (some ⟨w.heap.size, 0, none⟩) n n) (w.alloc (.cells (List.replicate n (.int .i64 0)).toArray 3)) := by
  obtain ⟨i0, hi, hz0, hz1, hz2⟩ := info_parts (show (Try.prog.info? 3).map (fun i => (i.zero, i.size, i.bytes)) = some (some (.int .i64 0), 1, 8) by kernel_rfl)
  have := run_make (P := Try.prog) w 42 3 i0 _ Try.underlying42 hi hz0 .i64 .i64 n n (by omega) (by omega) (by rw [hz2]; omega) (by omega)
  rw [hz1] at this
  have e : madeCells #[.int .i64 0] n = (List.replicate n (Value.int .i64 0)).toArray := Array.toList_inj.1 (by rw [toList_madeCells_one])
  simpa [Value.cells, e] using this
theorem rg_noughts (n : Nat) (w : World) : Rg (w.alloc (.cells (List.replicate n (.int .i64 0)).toArray 3)) w.heap.size n (fun _ => .int .i64 0) :=
  ⟨(Bx.new w _ _).lt, fun o ho => ((Bx.new w (List.replicate n (.int .i64 0)) 3).cv o).trans (by simp [ho]), fun o => (Bx.new w (List.replicate n (.int .i64 0)) 3).fz o⟩
theorem pwS_at : ∀ (L : List GrowD) (D : WindowD) (k : Nat), k < L.length → gt intK (pwS D L) k = ((L.take (k + 1)).foldl grS D).f0
  | [], _, k, h => absurd h (Nat.not_lt_zero k)
  | g :: L, D, 0, _ => rfl
  | g :: L, D, k + 1, h => pwS_at L (grS D g) k (by simpa using h)
theorem cl_int (A : List Int) (k : Nat) : cl intK A k = .int .i64 (gt intK A k) := by
  have h := cl_at intK A k 0 (by decide)
  rw [show k * intK.m + 0 = k from Nat.mul_one k] at h
  exact h
theorem st4p {U : World} {p : Nat} {z0 z1 z2 z3 : Value} (h : Bx U p [z0, z1, z2, z3]) (v0 v1 v2 v3 : Value) :
    Bx ((((U.setCell ⟨p, 0, none⟩ v0).setCell ⟨p, 1, none⟩ v1).setCell ⟨p, 2, none⟩ v2).setCell ⟨p, 3, none⟩ v3) p [v0, v1, v2, v3] ∧ Kq (fun q => q = p) U ((((U.setCell ⟨p, 0, none⟩ v0).setCell ⟨p, 1, none⟩ v1).setCell ⟨p, 2, none⟩ v2).setCell ⟨p, 3, none⟩ v3) :=
  ⟨((((h.set (i := 0) (by simp)).set (i := 1) (by simp)).set (i := 2) (by simp)).set (i := 3) (by simp)), (((((Kq.refl (fun q => q = p) U).set rfl).set rfl).set rfl).set rfl)⟩
set_option maxHeartbeats 16000000 in
theorem implPW (L : List GrowD) (hm : L.length ≤ 1048576) (ho : ∀ i, i < L.length → okGrow (gt growK L i)) (W : World) (a : Option Addr) (c : Nat) (h : Rd growK W a L) : Calls Try.prog 18 #[.slice a L.length c] W (PWP L W) := by
  obtain ⟨V0, hV0⟩ : ∃ V, V = W.alloc (.cells #[.int .i64 0, .int .i64 0, .int .i64 0, .int .i64 0] 24) := ⟨_, rfl⟩
  have R0 := hide (show Bx V0 W.heap.size [.int .i64 0, .int .i64 0, .int .i64 0, .int .i64 0] by rw [hV0]; exact Bx.new W _ _)
  have B0 := hide (show Below W.heap.size W V0 by rw [hV0]; exact (Below.refl W.heap.size W).alloc (Nat.le_refl _) _)
  have HR := hide (fun V (b : Below W.heap.size W V) => h.below b)
  have HV0 := hide hV0
  clear hV0 h ho
  by_cases h100 : L.length ≤ 100
  · have YES : Hid (∀ (V : World) (E : WindowD) (a : Option Addr) (c g : Nat), E = L.foldl grS nwD → Rb intK W.heap.size V a (pwS nwD L) g → Below W.heap.size W V → PWP L W (.returned (.tuple #[.agg #[.int .i64 E.f0, .int .i64 E.f1, .int .i64 E.f2, .int .i64 E.f3], .slice a (pwS nwD L).length c, .bool true])) V) := fun V E a c g he hr b => PWP.yes (decide_eq_true h100) he hr b
    have t0 : decide (100 < (L.length : Int)) = false := decide_eq_false (by omega)
    have HN := hide (implNW V0)
    go_enter Try.func18, Try.ntmps18
    go_upto_region 1 with fail
    rw [← unhide HV0]
    clear HV0
    go_wp2_with fail
    refine (unhide HN).mono ?_
    rintro e w1 ⟨rfl, b1⟩
    obtain ⟨V1, hV1⟩ : ∃ V, V = w1.alloc (.cells #[.int .i64 nwD.f0, .int .i64 nwD.f1, .int .i64 nwD.f2, .int .i64 nwD.f3] 24) := ⟨_, rfl⟩
    have AL : Below w1.heap.size w1 V1 := by rw [hV1]; exact (Below.refl _ _).alloc (Nat.le_refl _) _
    have X1 := hide (show Bx V1 w1.heap.size (windowC nwD) by rw [hV1]; exact Bx.new w1 _ _)
    have bV := b1.trans (AL.mono b1.size)
    have R1 := hide ((unhide R0).below bV)
    have B1 := hide ((unhide B0).trans (bV.mono (unhide B0).size))
    have s0 : W.heap.size < w1.heap.size := Nat.lt_of_lt_of_le (unhide R0).lt b1.size
    have s1 : w1.heap.size < V1.heap.size := (unhide X1).lt
    have HV1 := hide hV1
    clear hV1 AL bV b1 R0 B0 HN
    go_upto_region 4 with fail
    rw [← unhide HV1]
    clear HV1
    obtain ⟨V2, hV2⟩ : ∃ V, V = V1.alloc (.cells (List.replicate L.length (.int .i64 0)).toArray 3) := ⟨_, rfl⟩
    have hmk := mk_noughts L.length (by omega) V1
    rw [← hV2] at hmk
    have AL2 : Below V1.heap.size V1 V2 := by rw [hV2]; exact (Below.refl _ _).alloc (Nat.le_refl _) _
    have O0 : Hid (Rg V2 V1.heap.size L.length (up 0 (cl intK (pwS nwD L)) (fun _ => .int .i64 0))) := by show Rg _ _ _ _; rw [hV2]; exact (rg_noughts L.length V1).up0
    replace X1 := hide ((unhide X1).below AL2)
    replace R1 := hide ((unhide R1).below AL2)
    have sB := (unhide B1).size
    replace B1 := hide ((unhide B1).trans (AL2.mono sB))
    have s2 : V1.heap.size ≤ V2.heap.size := AL2.size
    clear hV2 AL2
    go_upto_region 5 with fail
    clear hmk
    go_wp2_with fail
    go_loopw [21] (fun iv wr => ∃ k : Nat, k ≤ L.length ∧ iv = .int .i64 k ∧ Hid (Rg wr V1.heap.size L.length (up k (cl intK (pwS nwD L)) (fun _ => .int .i64 0))) ∧ Hid (Bx wr w1.heap.size (windowC ((L.take k).foldl grS nwD))) ∧ Hid (Bx wr W.heap.size [.int .i64 0, .int .i64 0, .int .i64 0, .int .i64 0]) ∧ Hid (Below W.heap.size W wr)) (fun iv _ => L.length - (intOf iv).toNat)
    case atStart => exact ⟨0, Nat.zero_le _, rfl, O0, X1, R1, B1⟩
    case round =>
      obtain ⟨k, hk, rfl, hO, hX, hR0, hB⟩ := hrel
      clear O0 X1 R1 B1
      by_cases hlt : k < L.length
      · rcases unhide HR wr (unhide hB) with h9 | ⟨b, o, rfl, _, hel⟩
        · rw [h9] at hlt; exact absurd hlt (Nat.not_lt_zero _)
        have c0 := grow_r0 hel hlt
        have c1 := grow_r1 hel hlt
        have c2 := grow_r2 hel hlt
        have c3 := grow_r3 hel hlt
        have PS : cl intK (pwS nwD L) k = .int .i64 ((L.take (k + 1)).foldl grS nwD).f0 := by rw [cl_int, pwS_at L nwD k hlt]
        have PF : (L.take (k + 1)).foldl grS nwD = grS ((L.take k).foldl grS nwD) (gt growK L k) := by rw [take_grow hlt, List.foldl_append]; rfl
        rw [PF] at PS
        generalize (L.take k).foldl grS nwD = D at *
        generalize gt growK L k = x at *
        have HC := hide (implCho x)
        have HG := hide (chAny D x)
        have eS : Hid (grS D x = if grO D x = true then grX D x else D) := rfl
        have eY := hide (grY_is (D := D) (g := x))
        generalize grX D x = E at *
        generalize grY D x = F at *
        generalize grO D x = r at *
        generalize chV x = cv at *
        obtain ⟨x0, x1, x2, x3⟩ := x
        obtain ⟨W1, hW1⟩ : ∃ V, V = wr.alloc (.cells #[.int .i64 x0, .int .i64 x1, .int .i64 x2, .int .i64 x3] 67) := ⟨_, rfl⟩
        have hAl : Below wr.heap.size wr W1 := by rw [hW1]; exact (Below.refl _ _).alloc (Nat.le_refl _) _
        have Y1 := hide (show Bx W1 wr.heap.size [.int .i64 x0, .int .i64 x1, .int .i64 x2, .int .i64 x3] by rw [hW1]; exact Bx.new wr _ _)
        have X1 := hide ((unhide hX).below hAl)
        have O1 := hide ((unhide hO).below hAl)
        have R1 := hide ((unhide hR0).below hAl)
        have sB' := (unhide hB).size
        have B1 := hide ((unhide hB).trans (hAl.mono sB'))
        have sA := hAl.size
        have sO := (unhide hO).lt
        have HW1 := hide hW1
        have hnk : (k : Int) < (L.length : Int) := by omega
        have hk0 : (0 : Int) ≤ (k : Int) := by omega
        clear hAl hW1 hel hX hO hR0 hB
        go_upto_region 8 with fail
        rw [← unhide HW1]
        clear HW1 c0 c1 c2 c3
        go_cut [9, 10] (fun s9 s10 wx => ∃ p9 : Nat, s9 = .pointer (some ⟨p9, 0, none⟩) ∧ s10 = .bool r ∧ Hid (Bx wx p9 (windowC F)) ∧ Hid (Below W1.heap.size W1 wx) ∧ W1.heap.size ≤ p9)
        case first =>
          refine wp_region_noPanic ?_
          refine wp_region_held_drew (S := fun V => Below W1.heap.size W1 V) (by kernel_rfl) (Below.refl _ _).drew (fun hHeld => ?_)
          refine wpAnyH_take (i := 0) (v := ?_) rfl (by kernel_rfl) (by kernel_rfl) (by kernel_rfl) (fun _ _ _ h => h) (Or.inl ⟨by rfl, ?_⟩) hHeld ?_
          rotate_left
          · intro V hSw; have y1 := (Bx.below (unhide X1) hSw).cv; have y2 := (Bx.below (unhide X1) hSw).lt; go_simp; rfl
          try simp only [Act.put, List.getElem_toArray, List.getElem_cons_zero, List.setIfInBounds_toArray, List.set_cons_zero, List.set_cons_succ]
          refine wpAnyH_take (i := 1) (v := ?_) rfl (by kernel_rfl) (by kernel_rfl) (by kernel_rfl) (fun _ _ _ h => h) (Or.inl ⟨by rfl, ?_⟩) hHeld ?_
          rotate_left
          · intro V hSw; have y1 := (Bx.below (unhide Y1) hSw).cv; have y2 := (Bx.below (unhide Y1) hSw).lt; go_simp; rfl
          try simp only [Act.put, List.getElem_toArray, List.getElem_cons_succ, List.getElem_cons_zero, List.setIfInBounds_toArray, List.set_cons_zero, List.set_cons_succ]
          obtain ⟨U0, hU0⟩ : ∃ U, U = W1.drew := ⟨_, rfl⟩
          rw [← hU0] at hHeld ⊢
          clear hU0
          refine wpAnyH_ready (rs := [2, 7]) (by kernel_rfl) (by simp) ?_
          refine (AllReadyH.cons rfl (fun K hK => ?_) (AllReadyH.cons rfl (fun K hK => ?_) AllReadyH.nil))
          · skip
            go_simp
            go_at_call 31
            refine (unhide HC _).mono ?_
            rintro e v1 ⟨rfl, b2⟩
            refine hK.out _ _ (hHeld.trans (b2.mono hHeld.size)) (fun hHeld => ?_)
            clear hK K
            try simp only [Act.put, List.getElem_toArray, List.getElem_cons_succ, List.getElem_cons_zero, List.setIfInBounds_toArray, List.set_cons_zero, List.set_cons_succ]
            clear b2
            refine wpAnyH_ready (rs := [3, 7]) (by kernel_rfl) (by simp) ?_
            refine (AllReadyH.cons rfl (fun K hK => ?_) (AllReadyH.cons rfl (fun K hK => ?_) AllReadyH.nil))
            · skip
              go_simp
              go_at_call 22
              refine (unhide HG _).mono ?_
              rintro e v2 ⟨rfl, b2⟩
              refine hK.out _ _ (hHeld.trans (b2.mono hHeld.size)) (fun hHeld => ?_)
              clear hK K
              try simp only [Act.put, List.getElem_toArray, List.getElem_cons_succ, List.getElem_cons_zero, List.setIfInBounds_toArray, List.set_cons_zero, List.set_cons_succ]
              clear b2
              refine wpAnyH_take (i := 4) (v := ?_) rfl (by kernel_rfl) (by kernel_rfl) (by kernel_rfl) (fun _ _ _ h => h) (Or.inl ⟨by rfl, ?_⟩) hHeld ?_
              rotate_left
              · intro V hSw; go_simp; rfl
              try simp only [Act.put, List.getElem_toArray, List.getElem_cons_succ, List.getElem_cons_zero, List.setIfInBounds_toArray, List.set_cons_zero, List.set_cons_succ]
              refine wpAnyH_take (i := 5) (v := ?_) rfl (by kernel_rfl) (by kernel_rfl) (by kernel_rfl) (fun _ _ _ h => h) (Or.inl ⟨by rfl, ?_⟩) hHeld ?_
              rotate_left
              · intro V hSw; go_simp; rfl
              try simp only [Act.put, List.getElem_toArray, List.getElem_cons_succ, List.getElem_cons_zero, List.setIfInBounds_toArray, List.set_cons_zero, List.set_cons_succ]
              refine wpAnyH_take (i := 6) (v := ?_) rfl (by kernel_rfl) (by kernel_rfl) (by kernel_rfl) (fun _ _ _ h => h) (Or.inl ⟨by rfl, ?_⟩) hHeld ?_
              rotate_left
              · intro V hSw; go_simp; rfl
              try simp only [Act.put, List.getElem_toArray, List.getElem_cons_succ, List.getElem_cons_zero, List.setIfInBounds_toArray, List.set_cons_zero, List.set_cons_succ]
              refine wpAnyH_ready (rs := [7]) (by kernel_rfl) (by simp) ?_
              refine (AllReadyH.cons rfl (fun K hK => ?_) AllReadyH.nil)
              · skip
                go_simp
                obtain ⟨U3, hU⟩ : ∃ U, U = v2.alloc (.cells #[.int .i64 0, .int .i64 0, .int .i64 0, .int .i64 0] 24) := ⟨_, rfl⟩
                have bU : Below v2.heap.size v2 U3 := by rw [hU]; exact (Below.refl _ _).alloc (Nat.le_refl _) _
                have BXX := hide (show Bx U3 v2.heap.size [.int .i64 0, .int .i64 0, .int .i64 0, .int .i64 0] by rw [hU]; exact Bx.new v2 _ _)
                have hp0 := hide hHeld.size
                rw [← hU]
                refine hK.out _ _ (hHeld.trans (bU.mono hHeld.size)) (fun hHeld => ?_)
                clear hK K hU bU
                try simp only [Act.put, List.getElem_toArray, List.getElem_cons_succ, List.getElem_cons_zero, List.setIfInBounds_toArray, List.set_cons_zero, List.set_cons_succ]
                have y1 := (unhide BXX).cv
                have y2 := (unhide BXX).fz
                have yl := (unhide BXX).lt
                have F4 := hide (st4p (unhide BXX) (.int .i64 F.f0) (.int .i64 F.f1) (.int .i64 F.f2) (.int .i64 F.f3))
                have hpb := unhide hp0
                refine wpAnyH_ready (rs := [8]) (by kernel_rfl) (by simp) ?_
                refine (AllReadyH.cons rfl (fun K hK => ?_) AllReadyH.nil)
                go_simp
                refine hK.out _ _ (hHeld.trans ((unhide F4).2.below hHeld.size (fun q hq => by omega))) (fun hHeld => ?_)
                clear hK K
                try simp only [Act.put, List.getElem_toArray, List.getElem_cons_succ, List.getElem_cons_zero, List.setIfInBounds_toArray, List.set_cons_zero, List.set_cons_succ]
                refine wpAnyH_take (i := 9) (v := ?_) rfl (by kernel_rfl) (by kernel_rfl) (by kernel_rfl) (fun _ _ _ h => h) (Or.inl ⟨by rfl, ?_⟩) hHeld ?_
                rotate_left
                · intro V hSw; go_simp; rfl
                try simp only [Act.put, List.getElem_toArray, List.getElem_cons_succ, List.getElem_cons_zero, List.setIfInBounds_toArray, List.set_cons_zero, List.set_cons_succ]
                refine wpAnyH_done (by kernel_rfl) ?_ _
                refine NoPanic.normal ?_
                have HHB := hide hHeld
                clear hHeld y1 y2
                go_wp2_with fail
                go_meet
                exact ⟨_, rfl, rfl, (unhide F4).1, unhide HHB, hpb⟩
            · skip
              go_simp
              obtain ⟨U2, hU⟩ : ∃ U, U = v1.alloc (.cells #[.int .i64 0, .int .i64 0, .int .i64 0, .int .i64 0] 24) := ⟨_, rfl⟩
              have bU : Below v1.heap.size v1 U2 := by rw [hU]; exact (Below.refl _ _).alloc (Nat.le_refl _) _
              have BXX := hide (show Bx U2 v1.heap.size [.int .i64 0, .int .i64 0, .int .i64 0, .int .i64 0] by rw [hU]; exact Bx.new v1 _ _)
              have hp0 := hide hHeld.size
              rw [← hU]
              refine hK.out _ _ (hHeld.trans (bU.mono hHeld.size)) (fun hHeld => ?_)
              clear hK K hU bU
              try simp only [Act.put, List.getElem_toArray, List.getElem_cons_succ, List.getElem_cons_zero, List.setIfInBounds_toArray, List.set_cons_zero, List.set_cons_succ]
              refine wpAnyH_ready (rs := [3]) (by kernel_rfl) (by simp) ?_
              refine (AllReadyH.cons rfl (fun K hK => ?_) AllReadyH.nil)
              · skip
                go_simp
                go_at_call 22
                refine (unhide HG _).mono ?_
                rintro e v3 ⟨rfl, b2⟩
                refine hK.out _ _ (hHeld.trans (b2.mono hHeld.size)) (fun hHeld => ?_)
                clear hK K
                try simp only [Act.put, List.getElem_toArray, List.getElem_cons_succ, List.getElem_cons_zero, List.setIfInBounds_toArray, List.set_cons_zero, List.set_cons_succ]
                replace BXX := hide ((unhide BXX).below b2)
                clear b2
                refine wpAnyH_take (i := 4) (v := ?_) rfl (by kernel_rfl) (by kernel_rfl) (by kernel_rfl) (fun _ _ _ h => h) (Or.inl ⟨by rfl, ?_⟩) hHeld ?_
                rotate_left
                · intro V hSw; go_simp; rfl
                try simp only [Act.put, List.getElem_toArray, List.getElem_cons_succ, List.getElem_cons_zero, List.setIfInBounds_toArray, List.set_cons_zero, List.set_cons_succ]
                refine wpAnyH_take (i := 5) (v := ?_) rfl (by kernel_rfl) (by kernel_rfl) (by kernel_rfl) (fun _ _ _ h => h) (Or.inl ⟨by rfl, ?_⟩) hHeld ?_
                rotate_left
                · intro V hSw; go_simp; rfl
                try simp only [Act.put, List.getElem_toArray, List.getElem_cons_succ, List.getElem_cons_zero, List.setIfInBounds_toArray, List.set_cons_zero, List.set_cons_succ]
                refine wpAnyH_take (i := 6) (v := ?_) rfl (by kernel_rfl) (by kernel_rfl) (by kernel_rfl) (fun _ _ _ h => h) (Or.inl ⟨by rfl, ?_⟩) hHeld ?_
                rotate_left
                · intro V hSw; go_simp; rfl
                try simp only [Act.put, List.getElem_toArray, List.getElem_cons_succ, List.getElem_cons_zero, List.setIfInBounds_toArray, List.set_cons_zero, List.set_cons_succ]
                have y1 := (unhide BXX).cv
                have y2 := (unhide BXX).fz
                have yl := (unhide BXX).lt
                have F4 := hide (st4p (unhide BXX) (.int .i64 F.f0) (.int .i64 F.f1) (.int .i64 F.f2) (.int .i64 F.f3))
                have hpb := unhide hp0
                refine wpAnyH_ready (rs := [8]) (by kernel_rfl) (by simp) ?_
                refine (AllReadyH.cons rfl (fun K hK => ?_) AllReadyH.nil)
                go_simp
                refine hK.out _ _ (hHeld.trans ((unhide F4).2.below hHeld.size (fun q hq => by omega))) (fun hHeld => ?_)
                clear hK K
                try simp only [Act.put, List.getElem_toArray, List.getElem_cons_succ, List.getElem_cons_zero, List.setIfInBounds_toArray, List.set_cons_zero, List.set_cons_succ]
                refine wpAnyH_take (i := 9) (v := ?_) rfl (by kernel_rfl) (by kernel_rfl) (by kernel_rfl) (fun _ _ _ h => h) (Or.inl ⟨by rfl, ?_⟩) hHeld ?_
                rotate_left
                · intro V hSw; go_simp; rfl
                try simp only [Act.put, List.getElem_toArray, List.getElem_cons_succ, List.getElem_cons_zero, List.setIfInBounds_toArray, List.set_cons_zero, List.set_cons_succ]
                refine wpAnyH_done (by kernel_rfl) ?_ _
                refine NoPanic.normal ?_
                have HHB := hide hHeld
                clear hHeld y1 y2
                go_wp2_with fail
                go_meet
                exact ⟨_, rfl, rfl, (unhide F4).1, unhide HHB, hpb⟩
          · skip
            go_simp
            obtain ⟨U1, hU⟩ : ∃ U, U = U0.alloc (.cells #[.int .i64 0, .int .i64 0, .int .i64 0, .int .i64 0] 24) := ⟨_, rfl⟩
            have bU : Below U0.heap.size U0 U1 := by rw [hU]; exact (Below.refl _ _).alloc (Nat.le_refl _) _
            have BXX := hide (show Bx U1 U0.heap.size [.int .i64 0, .int .i64 0, .int .i64 0, .int .i64 0] by rw [hU]; exact Bx.new U0 _ _)
            have hp0 := hide hHeld.size
            rw [← hU]
            refine hK.out _ _ (hHeld.trans (bU.mono hHeld.size)) (fun hHeld => ?_)
            clear hK K hU bU
            try simp only [Act.put, List.getElem_toArray, List.getElem_cons_succ, List.getElem_cons_zero, List.setIfInBounds_toArray, List.set_cons_zero, List.set_cons_succ]
            refine wpAnyH_ready (rs := [2]) (by kernel_rfl) (by simp) ?_
            refine (AllReadyH.cons rfl (fun K hK => ?_) AllReadyH.nil)
            · skip
              go_simp
              go_at_call 31
              refine (unhide HC _).mono ?_
              rintro e v2 ⟨rfl, b2⟩
              refine hK.out _ _ (hHeld.trans (b2.mono hHeld.size)) (fun hHeld => ?_)
              clear hK K
              try simp only [Act.put, List.getElem_toArray, List.getElem_cons_succ, List.getElem_cons_zero, List.setIfInBounds_toArray, List.set_cons_zero, List.set_cons_succ]
              replace BXX := hide ((unhide BXX).below b2)
              clear b2
              refine wpAnyH_ready (rs := [3]) (by kernel_rfl) (by simp) ?_
              refine (AllReadyH.cons rfl (fun K hK => ?_) AllReadyH.nil)
              · skip
                go_simp
                go_at_call 22
                refine (unhide HG _).mono ?_
                rintro e v3 ⟨rfl, b2⟩
                refine hK.out _ _ (hHeld.trans (b2.mono hHeld.size)) (fun hHeld => ?_)
                clear hK K
                try simp only [Act.put, List.getElem_toArray, List.getElem_cons_succ, List.getElem_cons_zero, List.setIfInBounds_toArray, List.set_cons_zero, List.set_cons_succ]
                replace BXX := hide ((unhide BXX).below b2)
                clear b2
                refine wpAnyH_take (i := 4) (v := ?_) rfl (by kernel_rfl) (by kernel_rfl) (by kernel_rfl) (fun _ _ _ h => h) (Or.inl ⟨by rfl, ?_⟩) hHeld ?_
                rotate_left
                · intro V hSw; go_simp; rfl
                try simp only [Act.put, List.getElem_toArray, List.getElem_cons_succ, List.getElem_cons_zero, List.setIfInBounds_toArray, List.set_cons_zero, List.set_cons_succ]
                refine wpAnyH_take (i := 5) (v := ?_) rfl (by kernel_rfl) (by kernel_rfl) (by kernel_rfl) (fun _ _ _ h => h) (Or.inl ⟨by rfl, ?_⟩) hHeld ?_
                rotate_left
                · intro V hSw; go_simp; rfl
                try simp only [Act.put, List.getElem_toArray, List.getElem_cons_succ, List.getElem_cons_zero, List.setIfInBounds_toArray, List.set_cons_zero, List.set_cons_succ]
                refine wpAnyH_take (i := 6) (v := ?_) rfl (by kernel_rfl) (by kernel_rfl) (by kernel_rfl) (fun _ _ _ h => h) (Or.inl ⟨by rfl, ?_⟩) hHeld ?_
                rotate_left
                · intro V hSw; go_simp; rfl
                try simp only [Act.put, List.getElem_toArray, List.getElem_cons_succ, List.getElem_cons_zero, List.setIfInBounds_toArray, List.set_cons_zero, List.set_cons_succ]
                have y1 := (unhide BXX).cv
                have y2 := (unhide BXX).fz
                have yl := (unhide BXX).lt
                have F4 := hide (st4p (unhide BXX) (.int .i64 F.f0) (.int .i64 F.f1) (.int .i64 F.f2) (.int .i64 F.f3))
                have hpb := unhide hp0
                refine wpAnyH_ready (rs := [8]) (by kernel_rfl) (by simp) ?_
                refine (AllReadyH.cons rfl (fun K hK => ?_) AllReadyH.nil)
                go_simp
                refine hK.out _ _ (hHeld.trans ((unhide F4).2.below hHeld.size (fun q hq => by omega))) (fun hHeld => ?_)
                clear hK K
                try simp only [Act.put, List.getElem_toArray, List.getElem_cons_succ, List.getElem_cons_zero, List.setIfInBounds_toArray, List.set_cons_zero, List.set_cons_succ]
                refine wpAnyH_take (i := 9) (v := ?_) rfl (by kernel_rfl) (by kernel_rfl) (by kernel_rfl) (fun _ _ _ h => h) (Or.inl ⟨by rfl, ?_⟩) hHeld ?_
                rotate_left
                · intro V hSw; go_simp; rfl
                try simp only [Act.put, List.getElem_toArray, List.getElem_cons_succ, List.getElem_cons_zero, List.setIfInBounds_toArray, List.set_cons_zero, List.set_cons_succ]
                refine wpAnyH_done (by kernel_rfl) ?_ _
                refine NoPanic.normal ?_
                have HHB := hide hHeld
                clear hHeld y1 y2
                go_wp2_with fail
                go_meet
                exact ⟨_, rfl, rfl, (unhide F4).1, unhide HHB, hpb⟩
        case rest =>
        obtain ⟨p9, rfl, rfl, P9, bc, hp9⟩ := hcut
        obtain ⟨W3, hW3⟩ : ∃ V, V = wc := ⟨_, rfl⟩
        rw [← hW3] at P9 bc ⊢
        clear hW3
        replace X1 := hide ((unhide X1).below (unhide bc))
        replace O1 := hide ((unhide O1).below (unhide bc))
        replace R1 := hide ((unhide R1).below (unhide bc))
        have sW := (unhide B1).size
        replace B1 := hide ((unhide B1).trans ((unhide bc).mono sW))
        have s3 := (unhide bc).size
        have o1 : W3.cell? ⟨V1.heap.size, k, none⟩ = some (.int .i64 0) := ((unhide O1).c k hlt).trans (by unfold up; rw [if_neg (Nat.lt_irrefl k)])
        have o1f : W3.frozen? ⟨V1.heap.size, k, none⟩ = false := (unhide O1).fz k
        have o1l := (unhide O1).lt
        have x1 := (unhide X1).cv
        have x1f := (unhide X1).fz
        have x1l := (unhide X1).lt
        have z9 := (unhide P9).cv
        have z9l := (unhide P9).lt
        clear bc HC HG Y1
        cases r with
        | false =>
          have eD : (L.take (k + 1)).foldl grS nwD = D := by rw [PF]; exact unhide eS
          have PT : cl intK (pwS nwD L) k = .int .i64 D.f0 := by rw [PS]; exact congrArg (fun X : WindowD => Value.int .i64 X.f0) (unhide eS)
          have GO : Hid (Rg (W3.setCell ⟨V1.heap.size, k, none⟩ (.int .i64 D.f0)) V1.heap.size L.length (up (k + 1) (cl intK (pwS nwD L)) (fun _ => .int .i64 0))) := (unhide O1).mark hlt _ PT
          have GX : Hid (Bx (W3.setCell ⟨V1.heap.size, k, none⟩ (.int .i64 D.f0)) w1.heap.size (windowC ((L.take (k + 1)).foldl grS nwD))) := by show Bx _ _ _; rw [eD]; exact (unhide X1).other (by omega)
          have GR : Hid (Bx (W3.setCell ⟨V1.heap.size, k, none⟩ (.int .i64 D.f0)) W.heap.size [.int .i64 0, .int .i64 0, .int .i64 0, .int .i64 0]) := (unhide R1).other (by omega)
          have GB : Hid (Below W.heap.size W (W3.setCell ⟨V1.heap.size, k, none⟩ (.int .i64 D.f0))) := (unhide B1).setCell (p := ⟨V1.heap.size, k, none⟩) (by simp; omega) _
          clear PS PF PT eD eS eY O1 X1 R1 B1 P9 HR YES
          go_wp2_with fail
          exact ⟨⟨k + 1, by omega, by go_num, GO, GX, GR, GB⟩, by simp [intOf]; omega⟩
        | true =>
          have eF : F = E := unhide eY rfl
          have eD : (L.take (k + 1)).foldl grS nwD = F := by rw [PF, eF]; exact unhide eS
          have PT : cl intK (pwS nwD L) k = .int .i64 F.f0 := by rw [PS, eF]; exact congrArg (fun X : WindowD => Value.int .i64 X.f0) (unhide eS)
          obtain ⟨W4, hW4⟩ : ∃ V, V = (((W3.setCell ⟨w1.heap.size, 0, none⟩ (.int .i64 F.f0)).setCell ⟨w1.heap.size, 1, none⟩ (.int .i64 F.f1)).setCell ⟨w1.heap.size, 2, none⟩ (.int .i64 F.f2)).setCell ⟨w1.heap.size, 3, none⟩ (.int .i64 F.f3) := ⟨_, rfl⟩
          have k4 : Kq (fun q => q = w1.heap.size) W3 W4 := by rw [hW4]; exact (((((Kq.refl (fun q => q = w1.heap.size) W3).set rfl).set rfl).set rfl).set rfl)
          have X4 : Bx W4 w1.heap.size (windowC F) := by rw [hW4]; exact (((((unhide X1).set (i := 0) (by simp)).set (i := 1) (by simp)).set (i := 2) (by simp)).set (i := 3) (by simp))
          have R4 := (unhide R1).kept k4.size (k4.block _ (unhide R1).lt (by omega))
          have O4 := (unhide O1).kept k4.size (k4.block _ (unhide O1).lt (by omega))
          have B4 := (unhide B1).trans (k4.below (base := W.heap.size) (by omega) (fun q hq => by omega))
          have o4 : W4.cell? ⟨V1.heap.size, k, none⟩ = some (.int .i64 0) := (O4.c k hlt).trans (by unfold up; rw [if_neg (Nat.lt_irrefl k)])
          have o4f : W4.frozen? ⟨V1.heap.size, k, none⟩ = false := O4.fz k
          have o4l := O4.lt
          have s4 := k4.size
          have GO : Hid (Rg (W4.setCell ⟨V1.heap.size, k, none⟩ (.int .i64 F.f0)) V1.heap.size L.length (up (k + 1) (cl intK (pwS nwD L)) (fun _ => .int .i64 0))) := O4.mark hlt _ PT
          have GX : Hid (Bx (W4.setCell ⟨V1.heap.size, k, none⟩ (.int .i64 F.f0)) w1.heap.size (windowC ((L.take (k + 1)).foldl grS nwD))) := by show Bx _ _ _; rw [eD]; exact X4.other (by omega)
          have GR : Hid (Bx (W4.setCell ⟨V1.heap.size, k, none⟩ (.int .i64 F.f0)) W.heap.size [.int .i64 0, .int .i64 0, .int .i64 0, .int .i64 0]) := R4.other (by omega)
          have GB : Hid (Below W.heap.size W (W4.setCell ⟨V1.heap.size, k, none⟩ (.int .i64 F.f0))) := B4.setCell (p := ⟨V1.heap.size, k, none⟩) (by simp; omega) _
          have HW4 := hide hW4
          have xc := X4.cv
          have xcl := X4.lt
          clear hW4 k4 PS PF PT eF eD eS eY O1 X1 R1 B1 P9 HR YES X4 R4 O4 B4 o1 o1f o1l
          go_upto_region 11 with fail
          rw [← unhide HW4]
          clear HW4 x1 x1f x1l z9 z9l
          go_wp2_with fail
          exact ⟨⟨k + 1, by omega, by go_num, GO, GX, GR, GB⟩, by simp [intOf]; omega⟩
      · obtain rfl : k = L.length := by omega
        rw [List.take_length] at hX
        have hl : (pwS nwD L).length = L.length := pwS_len L nwD
        have rb : Rb intK W.heap.size wr (some ⟨V1.heap.size, 0, none⟩) (pwS nwD L) V1.heap.size := Or.inr ⟨rfl, by omega, by rw [show (pwS nwD L).length * intK.m = L.length by rw [hl]; exact Nat.mul_one _]; exact (unhide hO).all⟩
        have EE := unhide YES
        rw [hl] at EE
        have sB' := (unhide hB).size
        generalize hE : L.foldl grS nwD = E at *
        have FIN : Hid (∀ U, Kq (fun q => q = W.heap.size) wr U → PWP L W (.returned (.tuple #[.agg #[.int .i64 E.f0, .int .i64 E.f1, .int .i64 E.f2, .int .i64 E.f3], .slice (some ⟨V1.heap.size, 0, none⟩) L.length L.length, .bool true])) U) := fun U k => EE U E _ _ _ rfl (rb.kq k (by omega)) ((unhide hB).trans (k.below (base := W.heap.size) sB' (fun q hq => by omega)))
        have xc := (unhide hX).cv
        have xcl := (unhide hX).lt
        have rc := (unhide hR0).cv
        have rcf := (unhide hR0).fz
        have rcl := (unhide hR0).lt
        clear hO hX hR0 hB EE YES HR hE rb hl
        go_wp2
        refine bodyPost_ret (v := .tuple #[.agg #[.int .i64 E.f0, .int .i64 E.f1, .int .i64 E.f2, .int .i64 E.f3], .slice (some ⟨V1.heap.size, 0, none⟩) L.length L.length, .bool true]) (by simp [results, Try.results18, go_sem, rc]) rfl (unhide FIN _ ?_)
        repeat (refine Kq.set ?_ rfl)
        exact Kq.refl _ _
  · have HE : Hid (pwB L = false) := decide_eq_false h100
    have t0 : decide (100 < (L.length : Int)) = true := decide_eq_true (by omega)
    have r1 := (unhide R0).cv
    have r1f := (unhide R0).fz
    have r1l := (unhide R0).lt
    clear HR h100
    go_enter Try.func18, Try.ntmps18
    go_upto_region 1 with fail
    rw [← unhide HV0]
    clear HV0
    go_wp2
    refine bodyPost_ret (v := .tuple #[windowZ, .slice none 0 0, .bool false]) (by simp [results, Try.results18, go_sem, r1]) rfl (PWP.no (unhide HE) ?_)
    repeat (refine Below.setCell ?_ (by simp <;> omega) _)
    exact unhide B0
end Go.Proofs.Ytpjpmlopmknllaa.Rc
