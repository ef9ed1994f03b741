/-
  Contracts: the program's table out of its map, walked.
-/
import Derived.Test.YtldjenhknejpnaaTbm
namespace Go.Proofs.Ytldjenhknejpnaa
open Go.ChangeShapes Go.WideShapes Go.ChangeAt Go.RowKit Go.Deep Go.Maps Go.Sort
set_option linter.unusedVariables false
set_option maxRecDepth 100000

/-- what the map tells of a rising list -/
def FL (F : Int → Option EnR) (L : List EnD) : Prop := (∀ s, (F s).isSome = true ↔ ∃ e ∈ L, e.sl = s) ∧ ∀ e ∈ L, ∃ r, F e.sl = some r ∧ r.D = e
theorem rA_map (R : List EnR) (L : List EnD) (h : R.map (·.D) = L) : R.length = L.length ∧ ∀ i, i < L.length → (rA R i).D = eA L i ∧ rA R i ∈ R := by
  subst h
  refine ⟨by simp, fun i hi => ?_⟩
  have hi' : i < R.length := by simpa using hi
  exact ⟨by simp [eA, rA, List.getD, List.getElem?_map, List.getElem?_eq_getElem hi'], by simp [rA, List.getD, List.getElem?_eq_getElem hi']⟩
theorem up_lt {L : List EnD} (hu : upL L) (i j : Nat) (hij : i < j) (hj : j < L.length) : (eA L i).sl < (eA L j).sl := by
  have h := List.pairwise_iff_getElem.1 hu i j (by omega) hj hij
  simpa [eA, List.getD, List.getElem?_eq_getElem hj, List.getElem?_eq_getElem (show i < L.length by omega)] using h
theorem oe_en {base base0 : Nat} {w : World} {v : Value} {R : List EnR} {F : Int → Option EnR} {B : Int → Nat} {b n : Nat} {L : List EnD} (hO : Oe base0 w v R) (hb : base ≤ base0) (hM : Mo base w b n F B)
    (hlow : ∀ s r, F s = some r → r.D.S ≠ [] → B s < base0) (hR : ∀ r ∈ R, F r.D.sl = some r) (hL : R.map (·.D) = L) (hu : upL L) : ∃ a cap, v = .slice a L.length cap ∧ En base w a L := by
  obtain ⟨hlen, hat⟩ := rA_map R L hL
  obtain ⟨a, cap, rfl, hc, h⟩ := hO.form
  refine ⟨a, cap, by rw [hlen], ?_⟩
  rcases h with rfl | ⟨g, rfl, hg, hgl, hfz, hce⟩
  · exact Or.inl (by rw [← hL]; rfl)
  · refine Or.inr ⟨g, fun i => B (eA L i).sl, rfl, Nat.le_trans hb hg, hgl, hfz, fun i hi => ?_, fun i j hij hj h1 h2 => ?_⟩
    · obtain ⟨e, hm⟩ := hat i hi
      have hF := hR _ hm
      have h1 := hce i (by omega)
      have h2 := hM.ro _ _ hF
      rw [e] at h1 h2
      refine ⟨_, _, h1, h2.1, ?_⟩
      by_cases hS : (eA L i).S = []
      · exact Or.inl hS
      · rcases h2.2 with x | ⟨x, y⟩
        · exact Or.inl x
        · have := hlow _ _ hF (by rw [e]; exact hS)
          rw [e] at this
          exact Or.inr ⟨x, by omega, y⟩
    · obtain ⟨ei, hmi⟩ := hat i (by omega)
      obtain ⟨ej, hmj⟩ := hat j hj
      have hFi := hR _ hmi
      have hFj := hR _ hmj
      have hlt := up_lt hu i j hij hj
      have := hM.ne _ _ _ _ (by rw [ei, ej]; omega) hFi hFj (by rw [ei]; exact h1) (by rw [ej]; exact h2)
      rw [ei, ej] at this
      exact this
theorem take_map (L : List EnD) (k : Nat) (h : k < L.length) : L.take k ++ [eA L k] = L.take (k + 1) := by
  rw [List.take_add_one, List.getElem?_eq_getElem h]
  simp [eA, List.getD, List.getElem?_eq_getElem h]
theorem sc_en (w : World) (r : EnR) (T : TypeId) : Sc (w.alloc (.cells #[.int .i64 r.D.sl, .int .i64 r.D.sv, .int .i64 r.D.nc, .string r.D.k, .bool r.D.t, .slice r.ra r.D.S.length r.cap, .int .i64 r.D.nx] T)) (some ⟨w.heap.size, 0, none⟩) [r].length (enC [r]) := by
  refine Or.inr ⟨_, rfl, fun j u hu => ?_⟩
  rw [add_none]
  have := (Bx.new w [.int .i64 r.D.sl, .int .i64 r.D.sv, .int .i64 r.D.nc, .string r.D.k, .bool r.D.t, .slice r.ra r.D.S.length r.cap, .int .i64 r.D.nx] T).cv (0 + j)
  rw [this, Nat.zero_add]
  exact hu
theorem On.form {base : Nat} {w : World} {v : Value} {L : List EnD} (h : On base w v (L.map (·.sl))) : ∃ a cap, v = .slice a L.length cap ∧ (L = [] ∨ ∃ g, a = some ⟨g, 0, none⟩ ∧ g < w.heap.size ∧ ∀ i, i < L.length → w.cell? ⟨g, i, none⟩ = some (.int .i64 (eA L i).sl)) := by
  rcases h.2 with ⟨rfl, e⟩ | ⟨g, cap, cur, rfl, hb, hg, hnc, _⟩
  · have e' : L.length = 0 := by simpa using e
    exact ⟨none, 0, by rw [e'], Or.inl (List.length_eq_zero_iff.1 e')⟩
  · refine ⟨_, cap, by rw [List.length_map], Or.inr ⟨g, rfl, (Array.getElem?_eq_some_iff.1 hg).1, fun i hi => ?_⟩⟩
    rw [World.ownsRow.cellAt h i (by simpa using hi)]
    simp [eA, List.getD, List.getElem?_eq_getElem hi]
set_option maxHeartbeats 8000000 in
theorem tab_ok (base b n : Nat) (F : Int → Option EnR) (B : Int → Nat) (L : List EnD) (w : World) (hbs : base ≤ w.heap.size) (hn : n ≤ 1000000) (hM : Mo base w b n F B) (hF : FL F L) (hu : upL L) (hwf : ∀ e ∈ L, (Lit.int .i64 e.sl).wf = true) (hL : L.length ≤ 1000000) :
    Calls Try.prog 36 #[.map (some b)] w fun e w' => ∃ a cap, e = .returned (.agg #[.slice a L.length cap]) ∧ En base w' a L ∧ Below w.heap.size w w' := by
  obtain ⟨Dm, ho, hh, ha⟩ := hM.mp
  have HO := hide (ho.alloc (.cells #[.slice none 0 0] 32))
  have HH := hide hh
  have HM := hide hM
  clear ho hh ha hM
  have HX0 := hide (Bx.new w [.slice none 0 0] 32)
  have HB0 := hide ((Below.refl w.heap.size w).alloc (Nat.le_refl _) (.cells #[.slice none 0 0] 32))
  go_enter Try.func36, Try.ntmps36
  go_wp2_with (first | (at_range; refine wpList_range_own _ rfl _ 60 rfl 3 73 keyL Try.underlying60 hR b n Dm rfl (unhide HO) ?_; intro w0 hrg0 hg0 hs0) | go_in)
  go_frame
  have HRG := hide hrg0
  have HB1 : Hid (Below w.heap.size w w0) := (unhide HB0).trans (grown_below (v := .slice none 0 0) (by simpa [Value.ownBlock] using hg0) (by simp) (fun k e => by simp [Value.ownBlock] at e))
  have HX1 := hide ((unhide HX0).kept hg0.size (hg0.block _ (unhide HX0).lt (by simp)))
  have hrz : (w.alloc (.cells #[.slice none 0 0] 32)).heap.size = w.heap.size + 1 := by simp
  have HSZ := hide (show Maps.size Dm ≤ n from (unhide HO).size_le)
  clear hrg0 hg0 hs0 HO HX0 HB0
  have HRZ := hide hrz
  clear hrz
  generalize (w.alloc (.cells #[.slice none 0 0] 32)).heap.size = r0 at *
  go_loopw [3, 4] (fun v _ wr => ∃ left cnt ks, wr.ranges Try.prog 3 hR b r0 n Dm left cnt ∧ On (w.heap.size + 1) wr v ks ∧ Col Dm left ks ∧ ks.length + cnt ≤ n ∧ Bx wr w.heap.size [.slice none 0 0] ∧ Below w.heap.size w wr) (fun _ _ wr => wr.rangeLeft b r0)
  case atStart => exact ⟨_, _, [], unhide HRG, On.nil _ _, Col.start Dm, by simpa using unhide HSZ, unhide HX1, unhide HB1⟩
  case round =>
    obtain ⟨left, cnt, ks, hrg, hOn, hC, hcl, hX, hbel⟩ := hrel
    have HG := hide hrg
    have HN := hide hOn
    have HC := hide hC
    have HX := hide hX
    have HB := hide hbel
    have hbr : b < w.heap.size := (unhide HM).mp.lt
    clear hrg hOn hC hX hbel
    go_wp2_with (first | (at_next; refine wpList_next_ranges _ rfl _ rfl 3 keyL hR (Value.int .i64) id (fun key kl hkey => by obtain ⟨x, rfl, _⟩ := Maps.keyOf_int_inv Try.underlying3 hkey; exact ⟨x, rfl⟩) (fun v y hv => ⟨v, rfl⟩) b r0 n Dm left cnt rfl (unhide HG) ?_ ?_) | go_in)
    · intro _ hl0
      have KS : ks.mergeSort leI = L.map (·.sl) := sorted_slots hu (unhide HC).nd (fun s => by
        rw [← hF.1 s, ← unhide HH s]
        constructor
        · exact fun q => ((unhide HC).c2 s q).1
        · intro q
          rcases (unhide HC).c3 s q with q | q
          · rw [hl0] at q; cases q
          · exact q)
      have HKS := hide KS
      have hkl : ks.length = L.length := by have := congrArg List.length KS; simpa using this
      have HKL := hide hkl
      clear hl0 KS hcl hkl HRZ
      go_upto_region 6 with fail
      go_cut [] (fun wx => On (w.heap.size + 1) wx u3 (L.map (·.sl)) ∧ Bx wx w.heap.size [.slice none 0 0] ∧ Below w.heap.size w wx)
      case first =>
        rcases (unhide HN).2 with ⟨e3, e4⟩ | ⟨g, cp, cur, e3, hg, hgg, h1, h2, h3, h4⟩
        · subst e3
          have HS := hide (Try.slices_Sort_int_none none 0)
          have hL0 : L = [] := List.length_eq_zero_iff.1 (by rw [← unhide HKL]; exact e4)
          go_wp2_with fail
          refine (unhide HS _).mono ?_
          rintro e w5 ⟨rfl, h5⟩
          subst w5
          go_wp2_with fail
          go_meet
          exact ⟨by rw [hL0]; exact On.nil _ _, unhide HX, unhide HB⟩
        · subst e3
          have hH : Holds (Value.int .i64) wr g 0 ks.toArray := holds_of_blockI hgg (by simpa using h4)
          have hgl := (Array.getElem?_eq_some_iff.1 hgg).1
          have HS := hide (Try.slices_Sort_int g 0 cp ks wr hH hgl (by have := unhide HKL; omega))
          have OS := hide (fun (q : Nat) (os : Array Obj) => ownsRow_sortedI (w := wr) (base := w.heap.size + 1) (n := q) (os := os) (ts := ks.mergeSort leI) (by simp) hg hgg h1 h2 h3)
          have GS := hide (fun (q : Nat) (os : Array Obj) => grownBy_sortedI (w := wr) (g := g) (n := q) (os := os) (ks.mergeSort leI).toArray)
          clear hH hgg h4 h3 h2 h1
          go_wp2_with fail
          refine (unhide HS).mono ?_
          rintro e w5 ⟨rfl, q, os, h5⟩
          have O5 := unhide OS q os
          have G5 := unhide GS q os
          rw [← h5] at O5 G5
          have F5 := hide (And.intro O5 G5)
          clear h5 O5 G5 OS GS HS
          go_wp2_with fail
          go_meet
          have O5 := (unhide F5).1
          have G5 := (unhide F5).2
          refine ⟨?_, (unhide HX).kept G5.size (G5.block _ (unhide HX).lt (by intro e; injection e with e; omega)), (unhide HB).trans (grown_below (v := .slice (some ⟨g, 0, none⟩) 0 0) (by simpa [Value.ownBlock] using G5) (unhide HB).size (fun k e => by simp [Value.ownBlock] at e; omega))⟩
          rw [unhide HKS] at O5
          unfold On
          rw [List.length_map, ← unhide HKL]
          exact O5
      case rest =>
      obtain ⟨N1, X1, B1⟩ := hcut
      obtain ⟨a3, c3, e3, hrow⟩ := N1.form
      subst e3
      have HROW := hide hrow
      have HX1 := hide X1
      have HB1 := hide B1
      clear N1 X1 B1 hrow HN HC HX HB HG HKS HKL
      have T0 := hide (Bx.new wc [.slice none 0 0] 32)
      have A0 := hide ((Below.refl wc.heap.size wc).alloc (Nat.le_refl _) (.cells #[.slice none 0 0] 32))
      go_wp2_with fail
      go_loopw [22] (fun i wr => ∃ (k : Nat) (v : Value) (R : List EnR), k ≤ L.length ∧ i = .int .i64 k ∧ Bx wr wc.heap.size [v] ∧ Oe (wc.heap.size + 1) wr v R ∧ R.map (·.D) = L.take k ∧ (∀ r ∈ R, F r.D.sl = some r) ∧ Below wc.heap.size wc wr) (fun i _ => L.length - (intOf i).toNat)
      case atStart => exact ⟨0, _, [], Nat.zero_le _, rfl, unhide T0, Oe.nil _ _, rfl, fun r hr => (by cases hr), unhide A0⟩
      case round =>
        obtain ⟨k, v, R, hk, rfl, hT, hOe, hR, hRF, hbel⟩ := hrel
        clear T0 A0
        have BW := (unhide HB1).trans (hbel.mono (unhide HB1).size)
        by_cases hlt : k < L.length
        · rcases unhide HROW with h0 | ⟨g, rfl, hgl, hce⟩
          · rw [h0] at hlt; exact absurd hlt (Nat.not_lt_zero _)
          have c0 := (hbel.cell (p := ⟨g, k, none⟩) hgl).trans (hce k hlt)
          have hmem : eA L k ∈ L := by simp [eA, List.getD, List.getElem?_eq_getElem hlt]
          obtain ⟨r, hr, hrD⟩ := hF.2 _ hmem
          have hlook := (((unhide HM).below BW).mp).look (eA L k).sl (hwf _ hmem) r hr
          have hnk : (k : Int) < (L.length : Int) := by omega
          have t1 := hT.cv
          have t2 := hT.fz
          have htl := hT.lt
          have hRl : R.length = k := by have := congrArg List.length hR; simp at this; omega
          have al : Below wr.heap.size wr (wr.alloc (.cells #[.int .i64 r.D.sl, .int .i64 r.D.sv, .int .i64 r.D.nc, .string r.D.k, .bool r.D.t, .slice r.ra r.D.S.length r.cap, .int .i64 r.D.nx] 73)) := (Below.refl _ _).alloc (Nat.le_refl _) _
          obtain ⟨v', w', hrun, hO', hg', _⟩ := appE (wr.alloc (.cells #[.int .i64 r.D.sl, .int .i64 r.D.sv, .int .i64 r.D.nc, .string r.D.k, .bool r.D.t, .slice r.ra r.D.S.length r.cap, .int .i64 r.D.nx] 73)) 30 (wc.heap.size + 1) v R (hOe.below al) (some ⟨wr.heap.size, 0, none⟩) 1 [r] (sc_en wr r _) (by rw [hRl]; show k + 1 ≤ _; omega) (by simp; omega)
          obtain ⟨a9, c9, e9, _⟩ := Oe.form hO'
          generalize (R ++ [r]).length = l9 at e9
          obtain ⟨v8, hv8⟩ : ∃ v8, v8 = v' := ⟨_, rfl⟩
          have hrun' : (Builtin.append_ #[30, 30] 30 #[v, .slice (some ⟨wr.heap.size, 0, none⟩) 1 1]).run Try.prog (wr.alloc (.cells #[.int .i64 r.D.sl, .int .i64 r.D.sv, .int .i64 r.D.nc, .string r.D.k, .bool r.D.t, .slice r.ra r.D.S.length r.cap, .int .i64 r.D.nx] 73)) = .ok v' w' := hrun
          have RUN := hide hrun'
          have T9 := (hT.below al).kept hg'.size (hg'.block _ (hT.below al).lt (fun e => by have := (World.ownsRow.lt (hOe.below al) _ e.symm).1; omega))
          have B9 := (hbel.trans (al.mono hbel.size)).trans (grown_below hg' (Nat.le_trans hbel.size al.size) (fun q e => by have := (World.ownsRow.lt (hOe.below al) q e).1; omega))
          have y1 := T9.cv
          have y2 := T9.fz
          have hyl := T9.lt
          have F9 : Hid (Bx (w'.setCell ⟨wc.heap.size, 0, none⟩ v') wc.heap.size [v'] ∧ Oe (wc.heap.size + 1) (w'.setCell ⟨wc.heap.size, 0, none⟩ v') v' (R ++ [r]) ∧ (R ++ [r]).map (·.D) = L.take (k + 1) ∧ (∀ q ∈ R ++ [r], F q.D.sl = some q) ∧ Below wc.heap.size wc (w'.setCell ⟨wc.heap.size, 0, none⟩ v')) := by
            refine ⟨T9.set (i := 0) (by simp), ?_, ?_, ?_, B9.setCell (Nat.le_refl _) _⟩
            · refine ⟨hO'.1, ?_⟩
              rcases hO'.2 with q | ⟨g9, cap9, cur9, q1, q2, q3, q4⟩
              · exact Or.inl q
              · exact Or.inr ⟨g9, cap9, cur9, q1, q2, (Below.heap_setCell w' ⟨wc.heap.size, 0, none⟩ v' g9 (by show g9 ≠ wc.heap.size; omega)).trans q3, q4⟩
            · rw [List.map_append, hR, ← take_map L k hlt, ← hrD]; rfl
            · intro q hq
              rcases List.mem_append.1 hq with hq | hq
              · exact hRF q hq
              · simp at hq; subst hq; rw [hrD]; exact hr
          clear hrun hrun' hO' hg' T9 B9 al hT hOe hR hRF hbel BW hmem hr hrD hce hRl
          generalize (eA L k).sl = s9 at *
          clear hv8 v8
          subst e9
          go_wp2_with (at_builtin; refine wpl_app rfl _ _ 30 rfl _ _ _ _ rfl rfl (unhide RUN) ?_)
          exact ⟨⟨k + 1, .slice a9 l9 c9, R ++ [r], by omega, by go_num, unhide F9⟩, by simp [intOf]; omega⟩
        · obtain rfl : k = L.length := by omega
          rw [List.take_length] at hR
          have hwc := (unhide HX1).lt
          have O9 : Oe (wc.heap.size + 1) (wr.setCell ⟨w.heap.size, 0, none⟩ v) v R := by
            refine ⟨hOe.1, ?_⟩
            rcases hOe.2 with q | ⟨g9, cap9, cur9, q1, q2, q3, q4⟩
            · exact Or.inl q
            · exact Or.inr ⟨g9, cap9, cur9, q1, q2, (Below.heap_setCell wr ⟨w.heap.size, 0, none⟩ v g9 (by show g9 ≠ w.heap.size; omega)).trans q3, q4⟩
          obtain ⟨a, cap, rfl, hEn⟩ := oe_en (base := base) O9 (Nat.le_trans (Nat.le_trans hbs (unhide HB1).size) (Nat.le_succ _)) ((unhide HM).below (BW.setCell (Nat.le_refl _) _)) (fun s r e h1 => by
            rcases ((unhide HM).ro s r e).2 with x | ⟨_, y⟩
            · exact absurd x h1
            · have := y.al.lt; have := (unhide HB1).size; omega) hRF hR hu
          have FIN := hide (And.intro hEn (And.intro hT BW))
          have t1 := hT.cv
          have t2 := hT.fz
          have X9 := (unhide HX1).below hbel
          have x1 := X9.cv
          have x2 := X9.fz
          have hxl := X9.lt
          have htl := hT.lt
          clear hEn hT BW hOe hRF hR hbel X9 O9
          go_wp2
          refine bodyPost_ret (v := .agg #[.slice a L.length cap]) (by simp [results, Try.results36, go_sem, x1]) rfl ⟨a, cap, rfl, ?_, ?_⟩
          · exact (unhide FIN).1
          · exact (unhide FIN).2.2.setCell (Nat.le_refl _) _
    · intro x c kl yd yp w2 cnt2 hkey hlk hv hat hrg2 hlt hg2 hs2 hen
      obtain ⟨x', ex, rfl, hwx⟩ := Maps.keyOf_int_inv Try.underlying3 hkey
      injection ex with _ ex
      subst ex
      have hr0 : r0 = w.heap.size + 1 := unhide HRZ
      have N2 := World.ownsRow.kept (unhide HN) hg2 (Or.inr (fun e => row_ne_iter (unhide HN) (unhide HG) e.symm))
      have B2 : Below w.heap.size w w2 := (unhide HB).trans (grown_below (v := .slice (some ⟨r0, 0, none⟩) 0 0) (by simpa [Value.ownBlock] using hg2) (unhide HB).size (fun k e => by simp [Value.ownBlock] at e; omega))
      have X2 := (unhide HX).kept hg2.size (hg2.block _ (unhide HX).lt (by intro e; injection e with e; omega))
      obtain ⟨v', w', hrun, hN', hg'⟩ := appN w2 85 (w.heap.size + 1) u3 ks N2 x (by omega) X2.lt
      have RUN := hide hrun
      have NN := hide hN'
      have al := World.grownBy_alloc w2 (.cells #[.int .i64 x] 3) none
      have RG := hide ((hrg2.alloc (.cells #[.int .i64 x] 3)).kept hg' (fun e => by have := (World.ownsRow.lt N2 b e.symm).1; omega) (fun e => row_ne_iter (N2.alloc (.cells #[.int .i64 x] 3)) (hrg2.alloc (.cells #[.int .i64 x] 3)) e))
      have XX := hide ((X2.alloc (.cells #[.int .i64 x] 3)).kept hg'.size (hg'.block _ (X2.alloc _).lt (fun e => by
        have h9 := (World.ownsRow.lt N2 w.heap.size e.symm).1
        omega)))
      have BB := hide ((B2.alloc B2.size (.cells #[.int .i64 x] 3)).trans (grown_below hg' (Nat.le_trans B2.size (by simp)) (fun k e => by have := (World.ownsRow.lt N2 k e).1; omega)))
      have CC := hide ((unhide HC).step hlk hat)
      have ME := hide (show cnt2 < cnt from hlt)
      clear hrun hN' hg' al N2 B2 X2 hrg2 hg2 hs2 hat hlk hv hkey hlt HRZ hr0
      go_wp2_with (at_builtin; refine wpl_app rfl _ _ 85 rfl _ _ _ _ rfl rfl (unhide RUN) ?_)
      exact ⟨⟨_, _, ks ++ [x], unhide RG, unhide NN, unhide CC, by have := unhide ME; simp; omega, unhide XX, unhide BB⟩, by rw [(unhide RG).left_eq, (unhide HG).left_eq]; exact unhide ME⟩
end Go.Proofs.Ytldjenhknejpnaa
