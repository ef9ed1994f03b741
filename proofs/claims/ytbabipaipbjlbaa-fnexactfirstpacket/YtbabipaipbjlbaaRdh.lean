/-
  Contract: ReadHeader, as the program makes it.
-/
import Derived.Test.YtbabipaipbjlbaaHda
import Derived.Test.YtbabipaipbjlbaaGhqX
namespace Go.Proofs.Ytbabipaipbjlbaa
open Go.ChangeShapes Go.WideShapes Go.ChangeAt Go.RowKit
set_option linter.unusedVariables false
set_option maxRecDepth 100000

theorem gshort_yes (n : Nat) (w : World) (hn : n ≤ 20) : Calls Try.prog 36 #[.int .i64 n] w fun e w' => e = .returned (.bool true) ∧ w' = w := by
  go_enter Try.func36, Try.ntmps36
  go_wp2
  go_ret
  exact ⟨by simp; omega, rfl⟩

/-- what ReadHeader's closure finds -/
structure Lh (w : World) (pc ps ph cb short : Nat) (s : ByteArray) : Prop where
  c : w.cell? ⟨pc, 0, none⟩ = some (.pointer (some ⟨cb, 0, none⟩))
  sh : w.cell? ⟨ps, 0, none⟩ = some (.int .i64 (short : Int))
  h : Zh w ph
  cu : Cc w cb s 0 0
  ne : ph ≠ cb
set_option maxHeartbeats 1000000 in
theorem lith_ok (pc ps ph cb short : Nat) (s : ByteArray) (x : HR) (w : World) (hs : s.size ≤ 1048576) (hsh : short ≤ 20) (hR : hdR s short = some x) (h : Lh w pc ps ph cb short s) :
    Calls Try.prog 40 #[.pointer (some ⟨pc, 0, none⟩), .pointer (some ⟨ps, 0, none⟩), .pointer (some ⟨ph, 0, none⟩)] w fun e w' =>
      e = .returned (.tuple #[]) ∧ (∃ ra rc, Hh w' ph (.int .i64 x.f) (.int .i64 x.bi) (.int .i64 x.ve) (.string x.d) (.string x.e) (.string x.t) (.string x.y) (.slice ra x.m rc) ∧ Oi w.heap.size w' (.slice ra x.m rc) x.m x.V ∧ Cc w' cb s x.q 0 ∧ K2 cb ph w w') := by
  have HD := hide (header_any cb short s 0 w hs hsh h.cu)
  rw [hR] at HD
  have hc := h.c
  have hsh := h.sh
  have hne := h.ne
  have HZ := hide h.h
  clear h
  go_enter Try.func40, Try.ntmps40
  go_wp2_with fail
  refine (unhide HD).mono ?_
  rintro e w1 ⟨ra, rc, rfl, o1, h1, k1⟩
  have Z1 := (unhide HZ).kx k1 hne
  have hl := (unhide HZ).lt
  have O1 := hide o1
  have H1 := hide h1
  have K1 := hide k1
  clear HD HZ o1 h1 k1 hc hsh
  have Z1' := hide Z1
  obtain ⟨y0, y1, y2, y3, y4, y5, y6, y7, y8, yf⟩ := Z1
  have f0 := yf 0
  have f1 := yf 1
  have f2 := yf 2
  have f3 := yf 3
  have f4 := yf 4
  have f5 := yf 5
  have f6 := yf 6
  have f7 := yf 7
  go_wp2_with fail
  go_end0
  refine ⟨rfl, ra, rc, (unhide Z1').s0.s1.s2.s3.s4.s5.s6.s7, ?_, ?_, ?_⟩
  · iterate 8 refine Oi.other ?_ hl
    exact unhide O1
  · iterate 8 refine Cc.other ?_ hne
    exact unhide H1
  · iterate 8 refine K2.set ?_ _ _
    exact (unhide K1).k2
theorem lith_bad (pc ps ph cb short : Nat) (s : ByteArray) (w : World) (hs : s.size ≤ 1048576) (hsh : short ≤ 20) (hR : hdR s short = none) (h : Lh w pc ps ph cb short s) :
    Calls Try.prog 40 #[.pointer (some ⟨pc, 0, none⟩), .pointer (some ⟨ps, 0, none⟩), .pointer (some ⟨ph, 0, none⟩)] w fun e w' =>
      ∃ c : Int, (c = 1 ∨ c = 2 ∨ c = 3) ∧ e = gives c ∧ K2 cb ph w w' := by
  have HD := hide (header_any cb short s 0 w hs hsh h.cu)
  rw [hR] at HD
  have hc := h.c
  have hsh := h.sh
  clear h
  go_enter Try.func40, Try.ntmps40
  go_wp2_with fail
  refine (unhide HD).mono ?_
  rintro e w1 ⟨c, hC, rfl, k1⟩
  go_wp2_with fail
  exact ⟨rfl, c, hC, rfl, k1.k2⟩

/-- ReadHeader's own blocks: short, its result, the cursor, c, h; and faultOf's code -/
abbrev wH (w : World) (s : ByteArray) (short : Nat) : World := ((((w.alloc (.cells #[.int .i64 (short : Int)] 3)).alloc (.cells #[.int .i64 0, .int .i64 0, .int .i64 0, .string sE, .string sE, .string sE, .string sE, nilS] 49)).alloc (.cells #[.string s, .int .i64 0, .int .i64 0] 71)).alloc (.cells #[.pointer (some ⟨w.heap.size + 1 + 1, 0, none⟩)] 69)).alloc (.cells #[.int .i64 0, .int .i64 0, .int .i64 0, .string sE, .string sE, .string sE, .string sE, nilS] 49)
abbrev wI (w : World) (s : ByteArray) (short : Nat) : World := (wH w s short).alloc (.cells #[.int .i64 0] 3)
theorem wH_size (w : World) (s : ByteArray) (short : Nat) : (wH w s short).heap.size = w.heap.size + 5 := by simp
theorem wI_size (w : World) (s : ByteArray) (short : Nat) : (wI w s short).heap.size = w.heap.size + 6 := by simp
theorem wI_lh (w : World) (s : ByteArray) (short : Nat) : Lh (wI w s short) (w.heap.size + 1 + 1 + 1) w.heap.size (w.heap.size + 1 + 1 + 1 + 1) (w.heap.size + 1 + 1) short s := by
  refine ⟨?_, ?_, ⟨?_, ?_, ?_, ?_, ?_, ?_, ?_, ?_, ?_, fun o => ?_⟩, ⟨?_, ?_, ?_, ?_, fun o => ?_⟩, ?_⟩ <;> simp [go_sem]
  all_goals omega
theorem wI_zh (w : World) (s : ByteArray) (short : Nat) : Zh (wI w s short) (w.heap.size + 1) := by
  refine ⟨?_, ?_, ?_, ?_, ?_, ?_, ?_, ?_, ?_, fun o => ?_⟩ <;> simp [go_sem]
  all_goals omega
theorem wI_below (w : World) (s : ByteArray) (short : Nat) : Below w.heap.size w (wI w s short) := by
  refine ((((((Below.refl _ _).alloc (Nat.le_refl _) _).alloc ?_ _).alloc ?_ _).alloc ?_ _).alloc ?_ _).alloc ?_ _ <;> simp <;> omega
theorem K2.cells {cb hb : Nat} {w w' : World} (h : K2 cb hb w w') {b : Nat} (o : Nat) (h1 : b < w.heap.size) (h2 : b ≠ cb) (h3 : b ≠ hb) : w'.cell? ⟨b, o, none⟩ = w.cell? ⟨b, o, none⟩ := World.cell?_of_block (a := ⟨b, o, none⟩) (h.block b h1 h2 h3)
theorem K2.frozens {cb hb : Nat} {w w' : World} (h : K2 cb hb w w') {b : Nat} (o : Nat) (h1 : b < w.heap.size) (h2 : b ≠ cb) (h3 : b ≠ hb) : w'.frozen? ⟨b, o, none⟩ = w.frozen? ⟨b, o, none⟩ := World.frozen?_of_block (a := ⟨b, o, none⟩) (h.block b h1 h2 h3)
theorem wI_code {w w1 : World} {s : ByteArray} {short : Nat} (h : K2 (w.heap.size + 1 + 1) (w.heap.size + 1 + 1 + 1 + 1) (wI w s short) w1) :
    w1.cell? ⟨(wH w s short).heap.size, 0, none⟩ = some (.int .i64 0) ∧ w1.frozen? ⟨(wH w s short).heap.size, 0, none⟩ = false := by
  have l : (wH w s short).heap.size < (wI w s short).heap.size := by rw [wH_size, wI_size]; omega
  have n1 : (wH w s short).heap.size ≠ w.heap.size + 1 + 1 := by rw [wH_size]; omega
  have n2 : (wH w s short).heap.size ≠ w.heap.size + 1 + 1 + 1 + 1 := by rw [wH_size]; omega
  refine ⟨(h.cells 0 l n1 n2).trans ?_, (h.frozens 0 l n1 n2).trans ?_⟩
  · exact World.cell?_alloc_new _ _ _ _
  · simp [go_sem]
theorem wI_after {w w1 : World} {s : ByteArray} {short : Nat} {v : Value} (h : K2 (w.heap.size + 1 + 1) (w.heap.size + 1 + 1 + 1 + 1) (wI w s short) w1) :
    Below w.heap.size w (w1.setCell ⟨(wH w s short).heap.size, 0, none⟩ v) := by
  refine ((wI_below w s short).trans ⟨h.os, h.tape, h.output, h.size, fun k hk => h.block k ?_ (by omega) (by omega)⟩).setCell (by rw [wH_size]; simp) _
  rw [wI_size]; omega
theorem Oi.drew {base : Nat} {w : World} {v : Value} {n : Nat} {V : Nat → Int} (h : Oi base w v n V) : Oi base w.drew v n V := h
abbrev hE : Value := hv 0 0 0 sE sE sE sE none 0 0
set_option maxHeartbeats 1000000 in
theorem rdh_bad (s : ByteArray) (short : Nat) (w : World) (hs : s.size ≤ 1048576) (hsh : short ≤ 20) (hR : hdR s short = none) :
    Calls Try.prog 18 #[.string s, .int .i64 short] w fun e w' => ∃ c : Int, (c = 1 ∨ c = 2 ∨ c = 3) ∧ e = .returned (.tuple #[hE, .int .i64 0, .int .i64 c]) ∧ Below w.heap.size w w' := by
  have HG := hide (fun W => gshort_yes short W hsh)
  have HL := hide (fread_bad #[.pointer (some ⟨w.heap.size + 1 + 1 + 1, 0, none⟩), .pointer (some ⟨w.heap.size, 0, none⟩), .pointer (some ⟨w.heap.size + 1 + 1 + 1 + 1, 0, none⟩)] (fun c => c = 1 ∨ c = 2 ∨ c = 3) (wH w s short) (K2 (w.heap.size + 1 + 1) (w.heap.size + 1 + 1 + 1 + 1) (wI w s short)) (fun w' hw => wI_code hw) (lith_bad _ _ _ _ short s _ hs hsh hR (wI_lh w s short)))
  go_enter Try.func18, Try.ntmps18
  go_wp2_with (go_at_call 36; refine (unhide HG _).mono ?_; rintro e w1 ⟨rfl, rfl⟩)
  refine (unhide HL).mono ?_
  rintro e w2 ⟨c, hC, rfl, w1, hp, rfl⟩
  have B := wI_after (v := .int .i64 c) hp
  have Z1 : Zh (w1.setCell ⟨(wH w s short).heap.size, 0, none⟩ (.int .i64 c)) (w.heap.size + 1) := ((wI_zh w s short).k2 hp (by omega) (by omega)).other (by rw [wH_size]; omega)
  generalize w1.setCell ⟨(wH w s short).heap.size, 0, none⟩ (.int .i64 c) = w3 at B Z1 ⊢
  have hc0 : (c == 0) = false := by rcases hC with rfl | rfl | rfl <;> rfl
  have HB := hide B
  have HC := hide hC
  clear hp HL HG B hC
  obtain ⟨y0, y1, y2, y3, y4, y5, y6, y7, y8, yf⟩ := Z1
  have f0 := yf 0
  have f1 := yf 1
  have f2 := yf 2
  have f3 := yf 3
  have f4 := yf 4
  have f5 := yf 5
  have f6 := yf 6
  have f7 := yf 7
  go_wp2_with fail
  refine bodyPost_ret (v := .tuple #[hE, .int .i64 0, .int .i64 c]) (by simp [results, Try.results18, go_sem, y1, y2, y3, y4, y5, y6, y7, y8]) rfl ⟨c, unhide HC, rfl, ?_⟩
  iterate 8 refine Below.setCell ?_ (by simp) _
  exact unhide HB
set_option maxHeartbeats 1000000 in
theorem rdh_ok (s : ByteArray) (short : Nat) (x : HR) (w : World) (hs : s.size ≤ 1048576) (hsh : short ≤ 20) (hR : hdR s short = some x) :
    Calls Try.prog 18 #[.string s, .int .i64 short] w fun e w' => ∃ ra rc, e = .returned (.tuple #[hv x.f x.bi x.ve x.d x.e x.t x.y ra x.m rc, .int .i64 (x.q : Int), .int .i64 0]) ∧ Oi (w.heap.size + 5) w' (.slice ra x.m rc) x.m x.V ∧ Below w.heap.size w w' := by
  have HG := hide (fun W => gshort_yes short W hsh)
  have HL := hide (fread_ok #[.pointer (some ⟨w.heap.size + 1 + 1 + 1, 0, none⟩), .pointer (some ⟨w.heap.size, 0, none⟩), .pointer (some ⟨w.heap.size + 1 + 1 + 1 + 1, 0, none⟩)] (wH w s short) (fun w' => ∃ ra rc, Hh w' (w.heap.size + 1 + 1 + 1 + 1) (.int .i64 x.f) (.int .i64 x.bi) (.int .i64 x.ve) (.string x.d) (.string x.e) (.string x.t) (.string x.y) (.slice ra x.m rc) ∧ Oi (wI w s short).heap.size w' (.slice ra x.m rc) x.m x.V ∧ Cc w' (w.heap.size + 1 + 1) s x.q 0 ∧ K2 (w.heap.size + 1 + 1) (w.heap.size + 1 + 1 + 1 + 1) (wI w s short) w') (fun w' ⟨_, _, _, _, _, hw⟩ => wI_code hw) (lith_ok _ _ _ _ short s x _ hs hsh hR (wI_lh w s short)))
  have LC := (wI_lh w s short).c
  go_enter Try.func18, Try.ntmps18
  go_wp2_with (go_at_call 36; refine (unhide HG _).mono ?_; rintro e w1 ⟨rfl, rfl⟩)
  refine (unhide HL).mono ?_
  rintro e w2 ⟨rfl, w1, ⟨ra, rc, H1, O1, C1, hp⟩, rfl⟩
  have B := wI_after (v := .int .i64 0) hp
  have zi := wI_size w s short
  have Z1 : Zh (w1.setCell ⟨(wH w s short).heap.size, 0, none⟩ (.int .i64 0)) (w.heap.size + 1) := ((wI_zh w s short).k2 hp (by omega) (by omega)).other (by rw [wH_size]; omega)
  have H2 := H1.other (b' := (wH w s short).heap.size) (i := 0) (u := .int .i64 0) (by rw [wH_size]; omega)
  have C2 := C1.other (b := (wH w s short).heap.size) (i := 0) (u := .int .i64 0) (by rw [wH_size]; omega)
  have O2 := (O1.mono (base := w.heap.size + 6) (by omega)).other (hb := (wH w s short).heap.size) (i := 0) (u := .int .i64 0) (by rw [wH_size]; omega)
  have P2 : (w1.setCell ⟨(wH w s short).heap.size, 0, none⟩ (.int .i64 0)).cell? ⟨w.heap.size + 1 + 1 + 1, 0, none⟩ = some (.pointer (some ⟨w.heap.size + 1 + 1, 0, none⟩)) := by
    rw [World.cell?_setCell_other _ _ _ _ (by rw [wH_size]; simp)]
    exact (hp.cells 0 (by rw [zi]; omega) (by omega) (by omega)).trans LC
  generalize w1.setCell ⟨(wH w s short).heap.size, 0, none⟩ (.int .i64 0) = w3 at B Z1 H2 C2 O2 P2 ⊢
  have HB := hide B
  have HO := hide O2
  have d1 := C2.c1
  clear hp HL HG B O2 O1 H1 C1 C2 LC zi hR
  obtain ⟨y0, y1, y2, y3, y4, y5, y6, y7, y8, yf⟩ := Z1
  obtain ⟨x0, x1, x2, x3, x4, x5, x6, x7, x8, xf⟩ := H2
  have f0 := yf 0
  have f1 := yf 1
  have f2 := yf 2
  have f3 := yf 3
  have f4 := yf 4
  have f5 := yf 5
  have f6 := yf 6
  have f7 := yf 7
  go_wp2_with fail
  go_region_with (fail)
  all_goals
    go_wp2_with fail
    refine bodyPost_ret (v := .tuple #[hv x.f x.bi x.ve x.d x.e x.t x.y ra x.m rc, .int .i64 (x.q : Int), .int .i64 0]) (by simp [results, Try.results18, go_sem, y1, y2, y3, y4, y5, y6, y7, y8]) (by first | rfl | simp [Act.put]) ⟨ra, rc, rfl, ?_, ?_⟩
    · refine Oi.drew ?_
      iterate 8 refine Oi.other ?_ (by omega)
      exact (unhide HO).mono (by omega)
    · refine Below.drew ?_
      iterate 8 refine Below.setCell ?_ (by simp) _
      exact unhide HB
end Go.Proofs.Ytbabipaipbjlbaa
