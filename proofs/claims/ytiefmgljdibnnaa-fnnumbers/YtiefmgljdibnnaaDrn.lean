/-
  Contracts: packets that the model draws.
-/
import Derived.Test.YtiefmgljdibnnaaDrd
import Derived.Test.YtiefmgljdibnnaaPng
import Derived.Deep.DeepCutAuto
namespace Go.Proofs.Ytiefmgljdibnnaa
open Go.ChangeShapes Go.WideShapes Go.ChangeAt Go.RowKit
set_option linter.unusedVariables false
set_option maxRecDepth 100000

/-- a header's cells in a block of the call's own -/
structure Hx (w : World) (g : Nat) : Prop where
  lt : g < w.heap.size
  fz : ∀ o, w.frozen? ⟨g, o, none⟩ = false
  ci : ∀ i, i < 3 → ∃ x : Int, w.cell? ⟨g, i, none⟩ = some (.int .i64 x)
  ct : ∀ i, 3 ≤ i → i < 7 → ∃ t : ByteArray, w.cell? ⟨g, i, none⟩ = some (.string t)
  c7 : w.cell? ⟨g, 7, none⟩ = some (.slice none 0 0)
theorem Hx.block {w w' : World} {g : Nat} (h : Hx w g) (e : w'.heap[g]? = w.heap[g]?) (hz : w.heap.size ≤ w'.heap.size) : Hx w' g :=
  ⟨Nat.lt_of_lt_of_le h.lt hz, fun o => (World.frozen?_of_block (a := ⟨g, o, none⟩) e).trans (h.fz o),
    fun i hi => by obtain ⟨x, hx⟩ := h.ci i hi; exact ⟨x, (World.cell?_of_block (a := ⟨g, i, none⟩) e).trans hx⟩,
    fun i hi hj => by obtain ⟨x, hx⟩ := h.ct i hi hj; exact ⟨x, (World.cell?_of_block (a := ⟨g, i, none⟩) e).trans hx⟩,
    (World.cell?_of_block (a := ⟨g, 7, none⟩) e).trans h.c7⟩
theorem Hx.kx {cb g : Nat} {w w' : World} (h : Hx w g) (k : Kx cb w w') (hne : g ≠ cb) : Hx w' g := h.block (k.block g h.lt hne) k.size
theorem Hx.below {g : Nat} {w w' : World} (h : Hx w g) (k : Below w.heap.size w w') : Hx w' g := h.block (k.block g h.lt) k.size
theorem Hx.other {b o g : Nat} {w : World} (h : Hx w g) (v : Value) (hne : g ≠ b) : Hx (w.setCell ⟨b, o, none⟩ v) g :=
  h.block (Below.heap_setCell w ⟨b, o, none⟩ v g hne) (by simp [World.setCell])
theorem Hx.int {o g : Nat} {w : World} (h : Hx w g) (ho : o < 3) (x : Int) : Hx (w.setCell ⟨g, o, none⟩ (.int .i64 x)) g := by
  obtain ⟨y, hy⟩ := h.ci o ho
  refine ⟨by simpa [World.setCell] using h.lt, fun q => by rw [World.frozen?_setCell]; exact h.fz q, fun i hi => ?_, fun i hi hj => ?_, ?_⟩
  · by_cases e : i = o
    · subst e
      exact ⟨x, World.cell?_setCell_same _ _ _ hy⟩
    · obtain ⟨z, hz⟩ := h.ci i hi
      exact ⟨z, by rw [World.cell?_setCell_other _ _ _ _ (by intro e'; simp at e' <;> omega)]; exact hz⟩
  · obtain ⟨z, hz⟩ := h.ct i hi hj
    exact ⟨z, by rw [World.cell?_setCell_other _ _ _ _ (by intro e'; simp at e' <;> omega)]; exact hz⟩
  · rw [World.cell?_setCell_other _ _ _ _ (by intro e'; simp at e' <;> omega)]; exact h.c7
theorem Hx.txt {o g : Nat} {w : World} (h : Hx w g) (ho : 3 ≤ o) (ho2 : o < 7) (x : ByteArray) : Hx (w.setCell ⟨g, o, none⟩ (.string x)) g := by
  obtain ⟨y, hy⟩ := h.ct o ho ho2
  refine ⟨by simpa [World.setCell] using h.lt, fun q => by rw [World.frozen?_setCell]; exact h.fz q, fun i hi => ?_, fun i hi hj => ?_, ?_⟩
  · obtain ⟨z, hz⟩ := h.ci i hi
    exact ⟨z, by rw [World.cell?_setCell_other _ _ _ _ (by intro e'; simp at e' <;> omega)]; exact hz⟩
  · by_cases e : i = o
    · subst e
      exact ⟨x, World.cell?_setCell_same _ _ _ hy⟩
    · obtain ⟨z, hz⟩ := h.ct i hi hj
      exact ⟨z, by rw [World.cell?_setCell_other _ _ _ _ (by intro e'; simp at e' <;> omega)]; exact hz⟩
  · rw [World.cell?_setCell_other _ _ _ _ (by intro e'; simp at e' <;> omega)]; exact h.c7
theorem Hx.new (w : World) (t : TypeId) (x y z : Int) (a b c d : ByteArray) : Hx (w.alloc (.cells #[.int .i64 x, .int .i64 y, .int .i64 z, .string a, .string b, .string c, .string d, .slice none 0 0] t)) w.heap.size := by
  refine ⟨by simp, fun o => by simp, fun i hi => ?_, fun i hi hj => ?_, by simp⟩
  · have h3 : i = 0 ∨ i = 1 ∨ i = 2 := by omega
    rcases h3 with rfl | rfl | rfl
    · exact ⟨x, by simp⟩
    · exact ⟨y, by simp⟩
    · exact ⟨z, by simp⟩
  · have h3 : i = 3 ∨ i = 4 ∨ i = 5 ∨ i = 6 := by omega
    rcases h3 with rfl | rfl | rfl | rfl
    · exact ⟨a, by simp⟩
    · exact ⟨b, by simp⟩
    · exact ⟨c, by simp⟩
    · exact ⟨d, by simp⟩
/-- what holds while a packet is drawn -/
structure Pk (w0 : World) (cb : Nat) (a : Option Addr) (N cap P rb hb : Nat) (w : World) : Prop where
  u : Cu w cb a N cap P
  k : Kx cb w0 w
  r : Hx w rb
  h : Hx w hb
theorem Pk.step {w0 w w' : World} {cb : Nat} {a : Option Addr} {N cap P Q rb hb : Nat} (p : Pk w0 cb a N cap P rb hb w) (h1 : rb ≠ cb) (h2 : hb ≠ cb) (u : Cu w' cb a N cap Q) (k : Kx cb w w') : Pk w0 cb a N cap Q rb hb w' :=
  ⟨u, p.k.trans k, p.r.kx k h1, p.h.kx k h2⟩
theorem Pk.mono {w0 w : World} {cb : Nat} {a : Option Addr} {N cap P Q rb hb : Nat} (p : Pk w0 cb a N cap P rb hb w) (h : P ≤ Q) : Pk w0 cb a N cap Q rb hb w := ⟨p.u.mono h, p.k, p.r, p.h⟩
theorem Pk.same {w0 w w' : World} {cb : Nat} {a : Option Addr} {N cap P rb hb : Nat} (p : Pk w0 cb a N cap P rb hb w) (b : Below w.heap.size w w') : Pk w0 cb a N cap P rb hb w' :=
  ⟨p.u.same b, p.k.trans (Kx.of b), p.r.below b, p.h.below b⟩
theorem Pk.int {w0 w : World} {cb : Nat} {a : Option Addr} {N cap P P0 rb hb o : Nat} (p : Pk w0 cb a N cap P rb hb w) (h0 : Cu w0 cb a N cap P0) (hg : w0.heap.size ≤ hb) (hn : rb ≠ hb) (ho : o < 3) (x : Int) : Pk w0 cb a N cap P rb hb (w.setCell ⟨hb, o, none⟩ (.int .i64 x)) :=
  ⟨h0.setNew p.u hg _ _, p.k.setNew hg _, p.r.other _ hn, p.h.int ho x⟩
theorem Pk.txt {w0 w : World} {cb : Nat} {a : Option Addr} {N cap P P0 rb hb o : Nat} (p : Pk w0 cb a N cap P rb hb w) (h0 : Cu w0 cb a N cap P0) (hg : w0.heap.size ≤ hb) (hn : rb ≠ hb) (ho : 3 ≤ o) (ho2 : o < 7) (x : ByteArray) : Pk w0 cb a N cap P rb hb (w.setCell ⟨hb, o, none⟩ (.string x)) :=
  ⟨h0.setNew p.u hg _ _, p.k.setNew hg _, p.r.other _ hn, p.h.txt ho ho2 x⟩
set_option maxHeartbeats 4000000 in
theorem packet_any (cb : Nat) (a : Option Addr) (N cap P : Nat) (w : World) (hN : N ≤ 1048576) (hP : P ≤ 100000) (h : Cu w cb a N cap P) :
    Calls Try.prog 25 #[.pointer (some ⟨cb, 0, none⟩)] w fun e w' => ∃ (x y z : Int) (p q t u : ByteArray) (n k : Int) (s : ByteArray), e = .returned (.tuple #[.agg #[.int .i64 x, .int .i64 y, .int .i64 z, .string p, .string q, .string t, .string u, .slice none 0 0], .int .i64 n, .int .i64 k, .string s]) ∧ 0 ≤ n ∧ n ≤ 4611686018427387903 ∧ -1 ≤ k ∧ k ≤ n ∧ Cu w' cb a N cap (P + 1000) ∧ Kx cb w w' := by
  have HU := hide h
  have hcl := h.lt
  have r0 := Hx.new w 49 0 0 0 ⟨#[]⟩ ⟨#[]⟩ ⟨#[]⟩ ⟨#[]⟩
  have b0 := (Below.refl w.heap.size w).alloc (Nat.le_refl _) (.cells #[.int .i64 0, .int .i64 0, .int .i64 0, .string ⟨#[]⟩, .string ⟨#[]⟩, .string ⟨#[]⟩, .string ⟨#[]⟩, .slice none 0 0] 49)
  have hne : w.heap.size ≠ cb := by omega
  have u0 := h.same b0
  clear h
  go_enter Try.func25, Try.ntmps25
  go_wp2_with fail
  have hz0 : (w.alloc (.cells #[.int .i64 0, .int .i64 0, .int .i64 0, .string ⟨#[]⟩, .string ⟨#[]⟩, .string ⟨#[]⟩, .string ⟨#[]⟩, .slice none 0 0] 49)).heap.size = w.heap.size + 1 := by simp
  generalize w.alloc (.cells #[.int .i64 0, .int .i64 0, .int .i64 0, .string ⟨#[]⟩, .string ⟨#[]⟩, .string ⟨#[]⟩, .string ⟨#[]⟩, .slice none 0 0] 49) = W0 at *
  have hx := lit_cells W0 [0, 0, 1, 2, 5, 5, 5, 3] 3 (fun x => 0 ≤ x ∧ x ≤ 5) (by decide)
  have b1 := (Below.refl W0.heap.size W0).alloc (Nat.le_refl _) (.cells #[.int .i64 0, .int .i64 0, .int .i64 1, .int .i64 2, .int .i64 5, .int .i64 5, .int .i64 5, .int .i64 3] 3)
  have hl1 : w.heap.size + 1 < (W0.alloc (.cells #[.int .i64 0, .int .i64 0, .int .i64 1, .int .i64 2, .int .i64 5, .int .i64 5, .int .i64 5, .int .i64 3] 3)).heap.size := by simp; omega
  rw [hz0] at hx
  have u1 := u0.same b1
  have r1 := r0.below b1
  have k1 := (Kx.of (cb := cb) b0).trans (Kx.of b1)
  change ∀ i, i < 8 → ∃ x : Int, (0 ≤ x ∧ x ≤ 5) ∧ (W0.alloc (.cells #[.int .i64 0, .int .i64 0, .int .i64 1, .int .i64 2, .int .i64 5, .int .i64 5, .int .i64 5, .int .i64 3] 3)).cell? ⟨w.heap.size + 1, i, none⟩ = some (.int .i64 x) at hx
  generalize W0.alloc (.cells #[.int .i64 0, .int .i64 0, .int .i64 1, .int .i64 2, .int .i64 5, .int .i64 5, .int .i64 5, .int .i64 3] 3) = W1 at *
  refine (among_any cb a N cap P (w.heap.size + 1) 8 8 (fun x => 0 ≤ x ∧ x ≤ 5) _ hN (by omega) (by omega) (by omega) hl1 (by omega) hx u1).mono ?_
  rintro e w2 ⟨r, rfl, hr, u2, k2⟩
  have U2 := hide u2
  have K2 := hide (k1.trans k2)
  have R2 := hide (r1.kx k2 hne)
  have HR := hide hr
  clear u2 k2 k1 r1 u1 b1 hx hl1 hz0 b0 r0 u0 hr
  go_wp2_with fail
  refine (id_any cb a N cap (P + 2) _ hN (by omega) (unhide U2)).mono ?_
  rintro e w3 ⟨t, rfl, ht, u3, k3⟩
  have z3 := Hx.new w3 49 r 0 0 t ⟨#[]⟩ ⟨#[]⟩ ⟨#[]⟩
  have b3 := (Below.refl w3.heap.size w3).alloc (Nat.le_refl _) (.cells #[.int .i64 r, .int .i64 0, .int .i64 0, .string t, .string ⟨#[]⟩, .string ⟨#[]⟩, .string ⟨#[]⟩, .slice none 0 0] 49)
  have hge : w.heap.size ≤ w3.heap.size := ((unhide K2).trans k3).size
  have hnr : w.heap.size ≠ w3.heap.size := by have := ((unhide R2).kx k3 hne).lt; omega
  have hnc : w3.heap.size ≠ cb := by omega
  have P4 : Hid (Pk w cb a N cap (P + 62) w.heap.size w3.heap.size (w3.alloc (.cells #[.int .i64 r, .int .i64 0, .int .i64 0, .string t, .string ⟨#[]⟩, .string ⟨#[]⟩, .string ⟨#[]⟩, .slice none 0 0] 49))) :=
    ⟨u3.same b3, ((unhide K2).trans k3).trans (Kx.of b3), ((unhide R2).kx k3 hne).below b3, z3⟩
  have c0 : (w3.alloc (.cells #[.int .i64 r, .int .i64 0, .int .i64 0, .string t, .string ⟨#[]⟩, .string ⟨#[]⟩, .string ⟨#[]⟩, .slice none 0 0] 49)).cell? ⟨w3.heap.size, 0, none⟩ = some (.int .i64 r) := by simp
  clear u3 k3 z3 b3 U2 K2 R2
  go_upto_if 19 with fail
  generalize w3.alloc (.cells #[.int .i64 r, .int .i64 0, .int .i64 0, .string t, .string ⟨#[]⟩, .string ⟨#[]⟩, .string ⟨#[]⟩, .slice none 0 0] 49) = W4 at *
  generalize w3.heap.size = hb at *
  go_cut [] (fun wx => Pk w cb a N cap (P + 130) w.heap.size hb wx)
  case first =>
    by_cases h5 : r = 5
    · have g5 : (r != 5) = false := by simp [h5]
      clear h5
      go_wp2_with fail
      refine (one_any cb a N cap (P + 62) 2 _ hN (by omega) (by omega) (by omega) (unhide P4).u).mono ?_
      rintro e w5 ⟨rb, rfl, uu, kk⟩
      have P5 := hide ((unhide P4).step hne hnc uu kk)
      clear uu kk P4 c0
      cases rb with
      | true =>
        obtain ⟨y1, e1⟩ := (unhide P5).h.ci 1 (by omega)
        have f1 := (unhide P5).h.fz 1
        go_wp2_with fail
        go_meet
        exact ((unhide P5).int (unhide HU) hge hnr (by omega) 4).mono (by omega)
      | false =>
        go_wp2_with fail
        go_meet
        exact (unhide P5).mono (by omega)
    · have g5 : (r != 5) = true := by simp [h5]
      clear h5
      go_wp2_with fail
      refine (id_any cb a N cap (P + 62) _ hN (by omega) (unhide P4).u).mono ?_
      rintro e w5 ⟨t2, rfl, ht2, uu, kk⟩
      have P5 := hide ((unhide P4).step hne hnc uu kk)
      clear uu kk P4 c0
      obtain ⟨y2, e2⟩ := (unhide P5).h.ci 2 (by omega)
      obtain ⟨y4, e4⟩ := (unhide P5).h.ct 4 (by omega) (by omega)
      have f2 := (unhide P5).h.fz 2
      have f4 := (unhide P5).h.fz 4
      go_wp2_with fail
      go_meet
      exact (((unhide P5).txt (unhide HU) hge hnr (by omega) (by omega) t2).int (unhide HU) hge hnr (by omega) 1).mono (by omega)
  case rest =>
  have P5 := hide hcut
  clear hcut P4 c0
  obtain ⟨x0, c0⟩ := (unhide P5).h.ci 0 (by omega)
  go_upto_region 7 with fail
  go_cut [33] (fun s33 wx => (∃ b : Bool, s33 = .bool b) ∧ Pk w cb a N cap (P + 132) w.heap.size hb wx)
  case first =>
    by_cases h0 : x0 = 0
    · subst h0
      go_wp2_with fail
      refine (one_any cb a N cap (P + 130) 2 _ hN (by omega) (by omega) (by omega) (unhide P5).u).mono ?_
      rintro e w6 ⟨rb, rfl, uu, kk⟩
      have P6 := hide ((unhide P5).step hne hnc uu kk)
      clear uu kk P5 c0
      go_wp2_with fail
      go_meet
      exact ⟨⟨_, rfl⟩, (unhide P6).mono (by omega)⟩
    · have g0 : (x0 == 0) = false := by simp [h0]
      clear h0
      go_wp2_with fail
      go_meet
      exact ⟨⟨_, rfl⟩, (unhide P5).mono (by omega)⟩
  case rest =>
  obtain ⟨⟨b33, rfl⟩, hc⟩ := hcut
  have P6 := hide hc
  clear hc P5 c0
  go_upto_if 33 with fail
  go_cut [] (fun wx => Pk w cb a N cap (P + 132) w.heap.size hb wx)
  case first =>
    cases b33 with
    | true =>
      obtain ⟨y5, e5⟩ := (unhide P6).h.ct 5 (by omega) (by omega)
      have f5 := (unhide P6).h.fz 5
      go_wp2_with fail
      go_meet
      exact (unhide P6).txt (unhide HU) hge hnr (by omega) (by omega) _
    | false =>
      go_wp2_with fail
      go_meet
      exact unhide P6
  case rest =>
  have P7 := hide hcut
  clear hcut P6
  go_wp2_with fail
  refine (pick_any cb a N cap (P + 132) 400 _ hN (by omega) (by omega) (by omega) (unhide P7).u).mono ?_
  rintro e w8 ⟨n, rfl, hn0, hn1, uu, kk⟩
  have P8 := hide ((unhide P7).step hne hnc uu kk)
  clear uu kk P7
  go_wp2_with fail
  refine (one_any cb a N cap (P + 132 + 2) 4 _ hN (by omega) (by omega) (by omega) (unhide P8).u).mono ?_
  rintro e w9 ⟨b38, rfl, uu, kk⟩
  have P9 := hide ((unhide P8).step hne hnc uu kk)
  clear uu kk P8
  have HN := hide (And.intro hn0 hn1)
  clear hn0 hn1
  go_upto_if 38 with fail
  go_cut [7] (fun s7 wx => (∃ n : Int, s7 = .int .i64 n ∧ 0 ≤ n ∧ n ≤ 4611686018427387903) ∧ Pk w cb a N cap (P + 146) w.heap.size hb wx)
  case first =>
    cases b38 with
    | true =>
      go_wp2_with fail
      refine (num_any cb a N cap (P + 132 + 2 + 2) _ hN (by omega) (unhide P9).u).mono ?_
      rintro e wA ⟨m, rfl, hm, uu, kk⟩
      have PA := hide ((unhide P9).step hne hnc uu kk)
      have HM := hide hm
      clear uu kk P9 hm
      go_wp2_with fail
      go_meet
      exact ⟨⟨m, rfl, (unhide HM).1, (unhide HM).2⟩, (unhide PA).mono (by omega)⟩
    | false =>
      go_wp2_with fail
      go_meet
      exact ⟨⟨n, rfl, (unhide HN).1, by have := (unhide HN).2; omega⟩, (unhide P9).mono (by omega)⟩
  case rest =>
  obtain ⟨⟨m, rfl, hm0, hm1⟩, hc⟩ := hcut
  have PA := hide hc
  clear hc P9 HN n
  go_wp2_with fail
  refine (pick_any cb a N cap (P + 146) 300 _ hN (by omega) (by omega) (by omega) (unhide PA).u).mono ?_
  rintro e wB ⟨k, rfl, hk0, hk1, uu, kk⟩
  have PB := hide ((unhide PA).step hne hnc uu kk)
  clear uu kk PA
  go_upto_region 13 with fail
  obtain ⟨q, hq⟩ : ∃ q : Int, m - 1 - k = q := ⟨_, rfl⟩
  simp only [hq]
  have hqm : q ≤ m := by omega
  clear hq hk0 hk1
  go_cut [51] (fun s51 wx => (∃ b : Bool, s51 = .bool b ∧ (b = false → -1 ≤ q)) ∧ Pk w cb a N cap (P + 150) w.heap.size hb wx)
  case first =>
    by_cases h1 : q < -1
    · go_wp2_with fail
      go_meet
      exact ⟨⟨true, rfl, fun h => by cases h⟩, (unhide PB).mono (by omega)⟩
    · go_wp2_with fail
      refine (one_any cb a N cap (P + 146 + 2) 8 _ hN (by omega) (by omega) (by omega) (unhide PB).u).mono ?_
      rintro e wC ⟨rb, rfl, uu, kk⟩
      have PC := hide ((unhide PB).step hne hnc uu kk)
      clear uu kk PB
      go_wp2_with fail
      go_meet
      exact ⟨⟨rb, rfl, fun _ => by omega⟩, (unhide PC).mono (by omega)⟩
  case rest =>
  obtain ⟨⟨b51, rfl, hb51⟩, hc⟩ := hcut
  have PC := hide hc
  have HQ := hide hb51
  clear hc PB hb51
  go_upto_if 51 with fail
  go_cut [8] (fun s8 wx => (∃ k : Int, s8 = .int .i64 k ∧ -1 ≤ k ∧ k ≤ m) ∧ Pk w cb a N cap (P + 150) w.heap.size hb wx)
  case first =>
    cases b51 with
    | true =>
      go_wp2_with fail
      go_meet
      exact ⟨⟨-1, rfl, by omega, by omega⟩, unhide PC⟩
    | false =>
      go_wp2_with fail
      go_meet
      exact ⟨⟨q, rfl, by first | exact unhide HQ rfl | exact unhide HQ trivial, hqm⟩, unhide PC⟩
  case rest =>
  obtain ⟨⟨k2, rfl, hk0, hk1⟩, hc⟩ := hcut
  have PD := hide hc
  clear hc PC HQ hqm q
  go_wp2_with fail
  refine (one_any cb a N cap (P + 150) 30 _ hN (by omega) (by omega) (by omega) (unhide PD).u).mono ?_
  rintro e wE ⟨b53, rfl, uu, kk⟩
  have PE := hide ((unhide PD).step hne hnc uu kk)
  clear uu kk PD
  go_upto_if 53 with fail
  go_cut [] (fun wx => Pk w cb a N cap (P + 154) w.heap.size hb wx)
  case first =>
    cases b53 with
    | true =>
      go_wp2_with fail
      refine (pick_any cb a N cap (P + 150 + 2) 16 _ hN (by omega) (by omega) (by omega) (unhide PE).u).mono ?_
      rintro e wF ⟨x, rfl, hx0, hx1, uu, kk⟩
      have PF := hide ((unhide PE).step hne hnc uu kk)
      clear uu kk PE
      obtain ⟨y1, e1⟩ := (unhide PF).h.ci 1 (by omega)
      have f1 := (unhide PF).h.fz 1
      go_wp2_with fail
      go_meet
      exact (unhide PF).int (unhide HU) hge hnr (by omega) x
    | false =>
      go_wp2_with fail
      go_meet
      exact (unhide PE).mono (by omega)
  case rest =>
  have PF := hide hcut
  clear hcut PE
  go_wp2_with fail
  have bF := (Below.refl wc.heap.size wc).alloc (Nat.le_refl _) (.cells #[.int .i64 1, .int .i64 0, .int .i64 0, .int .i64 0, .bool false, .string ⟨#[]⟩, .slice none 0 0] 59)
  refine (frames_ping _ wc.heap.size 1 (by simp) (by simp) (by simp) (by simp) (by simp) (by simp) (by simp) (by simp)).mono ?_
  rintro e wG ⟨rfl, bG⟩
  have PG := hide (((unhide PF).same bF).same bG)
  clear bF bG PF
  generalize loW 1 1 = t1 at *
  go_wp2_with fail
  refine (one_any cb a N cap (P + 154) 2 _ hN (by omega) (by omega) (by omega) (unhide PG).u).mono ?_
  rintro e wH ⟨b64, rfl, uu, kk⟩
  have PH := hide ((unhide PG).step hne hnc uu kk)
  clear uu kk PG
  go_upto_if 64 with fail
  go_cut [9] (fun s9 wx => (∃ t : ByteArray, s9 = .string t) ∧ Pk w cb a N cap (P + 240) w.heap.size hb wx)
  case first =>
    cases b64 with
    | true =>
      go_wp2_with fail
      refine (pick_any cb a N cap (P + 154 + 2) 40 _ hN (by omega) (by omega) (by omega) (unhide PH).u).mono ?_
      rintro e wI ⟨x, rfl, hx0, hx1, uu, kk⟩
      have PI := hide ((unhide PH).step hne hnc uu kk)
      clear uu kk PH
      obtain ⟨m9, rfl⟩ := Int.eq_ofNat_of_zero_le hx0
      go_wp2_with fail
      refine (sizedBytes_any cb a N cap (P + 154 + 2 + 2) m9 _ hN (by omega) (by omega) (unhide PI).u).mono ?_
      rintro e wJ ⟨f, rfl, hf, hA, uu, kk⟩
      have hst := ar_string hA (fun i _ => hf i) m9
      have PJ := hide ((unhide PI).step hne hnc uu kk)
      clear uu kk PI hA hf
      generalize bq m9 f = t9 at *
      go_wp2_with fail
      go_meet
      exact ⟨⟨t9, rfl⟩, (unhide PJ).mono (by omega)⟩
    | false =>
      go_wp2_with fail
      go_meet
      exact ⟨⟨t1, rfl⟩, (unhide PH).mono (by omega)⟩
  case rest =>
  obtain ⟨⟨t9, rfl⟩, hc⟩ := hcut
  have PK := hide hc
  clear hc PH
  obtain ⟨h0, e0⟩ := (unhide PK).h.ci 0 (by omega)
  obtain ⟨h1, e1⟩ := (unhide PK).h.ci 1 (by omega)
  obtain ⟨h2, e2⟩ := (unhide PK).h.ci 2 (by omega)
  obtain ⟨h3, e3⟩ := (unhide PK).h.ct 3 (by omega) (by omega)
  obtain ⟨h4, e4⟩ := (unhide PK).h.ct 4 (by omega) (by omega)
  obtain ⟨h5, e5⟩ := (unhide PK).h.ct 5 (by omega) (by omega)
  obtain ⟨h6, e6⟩ := (unhide PK).h.ct 6 (by omega) (by omega)
  have e7 := (unhide PK).h.c7
  obtain ⟨g0, r0⟩ := (unhide PK).r.ci 0 (by omega)
  obtain ⟨g1, r1⟩ := (unhide PK).r.ci 1 (by omega)
  obtain ⟨g2, r2⟩ := (unhide PK).r.ci 2 (by omega)
  obtain ⟨g3, r3⟩ := (unhide PK).r.ct 3 (by omega) (by omega)
  obtain ⟨g4, r4⟩ := (unhide PK).r.ct 4 (by omega) (by omega)
  obtain ⟨g5, r5⟩ := (unhide PK).r.ct 5 (by omega) (by omega)
  obtain ⟨g6, r6⟩ := (unhide PK).r.ct 6 (by omega) (by omega)
  have r7 := (unhide PK).r.c7
  have f0 := (unhide PK).r.fz 0
  have f1 := (unhide PK).r.fz 1
  have f2 := (unhide PK).r.fz 2
  have f3 := (unhide PK).r.fz 3
  have f4 := (unhide PK).r.fz 4
  have f5 := (unhide PK).r.fz 5
  have f6 := (unhide PK).r.fz 6
  have f7 := (unhide PK).r.fz 7
  go_wp2
  refine bodyPost_ret (v := .tuple #[.agg #[.int .i64 h0, .int .i64 h1, .int .i64 h2, .string h3, .string h4, .string h5, .string h6, .slice none 0 0], .int .i64 m, .int .i64 k2, .string t9]) (by simp [results, Try.results25, go_sem, r0, r1, r2, r3, r4, r5, r6, r7]) rfl ⟨h0, h1, h2, h3, h4, h5, h6, m, k2, t9, rfl, hm0, hm1, hk0, hk1, ?_, ?_⟩
  · have hu := (unhide PK).u.mono (Q := P + 1000) (by omega)
    iterate 8 refine Cu.setNew (unhide HU) ?_ (Nat.le_refl _) _ _
    exact hu
  · iterate 8 refine Kx.setNew ?_ (Nat.le_refl _) _
    exact (unhide PK).k
end Go.Proofs.Ytiefmgljdibnnaa
