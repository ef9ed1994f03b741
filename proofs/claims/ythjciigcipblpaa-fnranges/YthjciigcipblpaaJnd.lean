/-
  Contract: two lists of ranges joined by the program.
-/
import Derived.Test.YthjciigcipblpaaRjp
import Derived.Test.YthjciigcipblpaaLsj
import Derived.Scope
namespace Go.Proofs.Ythjciigcipblpaa.Rc
open Go.ChangeShapes Go.WideShapes Go.ChangeAt Go.RowKit Go.Deep
set_option linter.unusedVariables false
set_option maxRecDepth 100000

/-- how long a list in a box is -/
def lnC (w : World) (g : Nat) : Nat := match w.cell? ⟨g, 0, none⟩ with
  | some (.slice _ n _) => n
  | _ => 0
theorem lnC_of {w : World} {g n c : Nat} {a : Option Addr} (h : Bx w g [.slice a n c]) : lnC w g = n := by
  unfold lnC
  rw [h.cv 0]
  rfl
theorem cl_cons (r : RangeD) (L : List RangeD) (q : Nat) : cl rangeK (r :: L) (2 + q) = cl rangeK L q := by
  unfold cl
  have e1 : (2 + q) / rangeK.m = q / rangeK.m + 1 := by show (2 + q) / 2 = q / 2 + 1; omega
  have e2 : (2 + q) % rangeK.m = q % rangeK.m := by show (2 + q) % 2 = q % 2; omega
  rw [e1, e2, gt_succ]
theorem Rd.tl {W : World} {b o : Nat} {r : RangeD} {L : List RangeD} (h : Rd rangeK W (some ⟨b, o, none⟩) (r :: L)) : Rd rangeK W (some ⟨b, o + 2, none⟩) L := by
  rcases h with h | ⟨b', o', e, l, h⟩
  · cases h
  · injection e with e
    injection e with e1 e2
    subst e1 e2
    refine Or.inr ⟨b, o + 2, rfl, l, fun q hq => ?_⟩
    rw [← cl_cons r L q, Nat.add_assoc]
    exact h (2 + q) (by show 2 + q < (L.length + 1) * 2; have : q < L.length * 2 := hq; omega)
theorem Rd.hd {W : World} {a : Option Addr} {r : RangeD} {L : List RangeD} (h : Rd rangeK W a (r :: L)) : ∃ b o, a = some ⟨b, o, none⟩ ∧ b < W.heap.size ∧ W.cell? ⟨b, o, none⟩ = some (.int .i64 r.f0) ∧ W.cell? ⟨b, o + 1, none⟩ = some (.int .i64 r.f1) := by
  rcases h with h | ⟨b, o, e, l, h⟩
  · cases h
  · exact ⟨b, o, e, l, range_r0 h (k := 0) (by simp), range_r1 h (k := 0) (by simp)⟩
/-- a list in a box, its row below -/
def Sr (W wr : World) (g : Nat) (L : List RangeD) : Prop := ∃ a c, Bx wr g [.slice a L.length c] ∧ Rd rangeK W a L ∧ (L = [] ∨ L.length ≤ c)
theorem Sr.len {W wr : World} {g : Nat} {L : List RangeD} (h : Sr W wr g L) : lnC wr g = L.length := by
  obtain ⟨a, c, h, _⟩ := h
  exact lnC_of h
theorem Sr.kept {W wr w' : World} {g : Nat} {L : List RangeD} (h : Sr W wr g L) (hs : wr.heap.size ≤ w'.heap.size) (e : w'.heap[g]? = wr.heap[g]?) : Sr W w' g L := by
  obtain ⟨a, c, h, h2⟩ := h
  exact ⟨a, c, h.kept hs e, h2⟩
theorem Sr.lt {W wr : World} {g : Nat} {L : List RangeD} (h : Sr W wr g L) : g < wr.heap.size := by
  obtain ⟨a, c, h, _⟩ := h
  exact h.lt
/-- what lies there between two rounds -/
structure JS (W wr : World) (ga gb gr go : Nat) (O A1 B1 : List RangeD) : Prop where
  sa : Sr W wr ga A1
  sb : Sr W wr gb B1
  xr : Bx wr gr [.slice none 0 0]
  xo : ∃ ov, Bx wr go [ov] ∧ Ro rangeK 65 (go + 1) wr ov O
  bw : Below W.heap.size W wr
  bA : ∀ r ∈ A1, bdR r
  bB : ∀ r ∈ B1, bdR r
  ord : W.heap.size ≤ ga ∧ ga < gb ∧ gb < gr ∧ gr < go
theorem JS.kq {W wr w' : World} {ga gb gr go : Nat} {O A1 B1 : List RangeD} {P : Nat → Prop} (h : JS W wr ga gb gr go O A1 B1) (k : Kq P wr w') (hP : ∀ q, P q → go < q ∧ wr.heap.size ≤ q) : JS W w' ga gb gr go O A1 B1 := by
  have hz := h.bw.size
  have hW := h.ord
  refine ⟨h.sa.kept k.size (k.block _ h.sa.lt (fun p => by have := hP _ p; omega)), h.sb.kept k.size (k.block _ h.sb.lt (fun p => by have := hP _ p; omega)), h.xr.kept k.size (k.block _ h.xr.lt (fun p => by have := hP _ p; omega)), ?_, h.bw.trans (k.below hz (fun q hq => by have := hP q hq; omega)), h.bA, h.bB, hW⟩
  obtain ⟨ov, x, o⟩ := h.xo
  refine ⟨ov, x.kept k.size (k.block _ x.lt (fun p => by have := hP _ p; omega)), o.below (k.below (Nat.le_refl _) (fun q hq => (hP q hq).2))⟩
theorem JS.below {W wr w' : World} {ga gb gr go : Nat} {O A1 B1 : List RangeD} (h : JS W wr ga gb gr go O A1 B1) (b : Below wr.heap.size wr w') : JS W w' ga gb gr go O A1 B1 :=
  h.kq (Kq.of (P := fun _ => False) b) (fun _ p => p.elim)
theorem Sr.top {W wr : World} {g : Nat} {r : RangeD} {L : List RangeD} (h : Sr W wr g (r :: L)) (hb : Below W.heap.size W wr) (hg : W.heap.size ≤ g) :
    ∃ b o c, Bx wr g [.slice (some ⟨b, o, none⟩) (L.length + 1) c] ∧ L.length + 1 ≤ c ∧ b < wr.heap.size ∧ b ≠ g ∧ wr.cell? ⟨b, o, none⟩ = some (.int .i64 r.f0) ∧ wr.cell? ⟨b, o + 1, none⟩ = some (.int .i64 r.f1) ∧ Rd rangeK W (some ⟨b, o, none⟩) (r :: L) := by
  obtain ⟨a, c, x, h, hc⟩ := h
  obtain ⟨b, o, rfl, l, c0, c1⟩ := h.hd
  refine ⟨b, o, c, x, ?_, Nat.lt_of_lt_of_le l hb.size, by omega, (hb.cell (p := ⟨b, o, none⟩) l).trans c0, (hb.cell (p := ⟨b, o + 1, none⟩) l).trans c1, h⟩
  rcases hc with hc | hc
  · cases hc
  · exact hc
theorem Sr.took {W w2 : World} {g b o c' : Nat} {a' : Option Addr} {r : RangeD} {L : List RangeD} (hr : Rd rangeK W (some ⟨b, o, none⟩) (r :: L)) (hx : Bx w2 g [.slice a' L.length c']) (hor : L.length = 0 ∨ (a' = some ⟨b, o + 2, none⟩ ∧ L.length ≤ c')) : Sr W w2 g L := by
  rcases hor with h0 | ⟨rfl, hc⟩
  · exact ⟨a', c', hx, Or.inl (List.length_eq_zero_iff.1 h0), Or.inl (List.length_eq_zero_iff.1 h0)⟩
  · exact ⟨_, c', hx, hr.tl, Or.inr hc⟩
theorem JS.tookA {W wr w2 : World} {ga gb gr go : Nat} {O A2 B1 : List RangeD} {r : RangeD} (h : JS W wr ga gb gr go O (r :: A2) B1) (hs : Sr W w2 ga A2) (k : Kq (fun q => q = ga) wr w2) : JS W w2 ga gb gr go O A2 B1 := by
  have hW := h.ord
  obtain ⟨ov, x, o⟩ := h.xo
  exact ⟨hs, h.sb.kept k.size (k.block _ h.sb.lt (by omega)), h.xr.kept k.size (k.block _ h.xr.lt (by omega)), ⟨ov, x.kept k.size (k.block _ x.lt (by omega)), o.kq k (fun q hq => by omega)⟩, h.bw.trans (k.below h.bw.size (fun q hq => by omega)), fun q hq => h.bA q (List.mem_cons_of_mem _ hq), h.bB, hW⟩
theorem JS.tookB {W wr w2 : World} {ga gb gr go : Nat} {O A1 B2 : List RangeD} {r : RangeD} (h : JS W wr ga gb gr go O A1 (r :: B2)) (hs : Sr W w2 gb B2) (k : Kq (fun q => q = gb) wr w2) : JS W w2 ga gb gr go O A1 B2 := by
  have hW := h.ord
  obtain ⟨ov, x, o⟩ := h.xo
  exact ⟨h.sa.kept k.size (k.block _ h.sa.lt (by omega)), hs, h.xr.kept k.size (k.block _ h.xr.lt (by omega)), ⟨ov, x.kept k.size (k.block _ x.lt (by omega)), o.kq k (fun q hq => by omega)⟩, h.bw.trans (k.below h.bw.size (fun q hq => by omega)), h.bA, fun q hq => h.bB q (List.mem_cons_of_mem _ hq), hW⟩
theorem JS.put {W wr w' : World} {ga gb gr go : Nat} {O A1 B1 : List RangeD} {x : RangeD} {v' : Value} (h : JS W wr ga gb gr go O A1 B1) (hx : Bx w' go [v']) (ho : Ro rangeK 65 (go + 1) w' v' (O ++ [x])) (k : Kq (fun q => q = go ∨ go + 1 ≤ q) wr w') : JS W w' ga gb gr go (O ++ [x]) A1 B1 := by
  have hW := h.ord
  exact ⟨h.sa.kept k.size (k.block _ h.sa.lt (by omega)), h.sb.kept k.size (k.block _ h.sb.lt (by omega)), h.xr.kept k.size (k.block _ h.xr.lt (by omega)), ⟨v', hx, ho⟩, h.bw.trans (k.below h.bw.size (fun q hq => by omega)), h.bA, h.bB, hW⟩
theorem Ro.off {e base : Nat} {w : World} {v : Value} {L : List RangeD} {gw i : Nat} {u : Value} (h : Ro rangeK e base w v L) (hne : v.ownBlock ≠ some gw) : Ro rangeK e base (w.setCell ⟨gw, i, none⟩ u) v L := by
  refine ⟨h.1, ?_⟩
  rcases h.2 with hn | ⟨g, cap, cur, rfl, hg, hgg, rest⟩
  · exact .inl hn
  · exact .inr ⟨g, cap, cur, rfl, hg, (Below.heap_setCell w ⟨gw, i, none⟩ u g (by show g ≠ gw; intro e; exact hne (by rw [e]; rfl))).trans hgg, rest⟩
/-- the row in a box lies elsewhere -/
def Nb (w : World) (go gw : Nat) : Prop := ∀ ov, w.cell? ⟨go, 0, none⟩ = some ov → ov.ownBlock ≠ some gw
theorem Nb.kept {w w' : World} {go gw : Nat} (h : Nb w go gw) (e : w'.heap[go]? = w.heap[go]?) : Nb w' go gw := fun ov hov => h ov ((World.cell?_of_block (a := ⟨go, 0, none⟩) e).symm.trans hov)
theorem JS.nb {W wr : World} {ga gb gr go gw : Nat} {O A1 B1 : List RangeD} {o : Obj} (h : JS W wr ga gb gr go O A1 B1) (hg : gw = wr.heap.size) : Nb (wr.alloc o) go gw := by
  obtain ⟨ov, x, ro⟩ := h.xo
  intro v hv e
  have e1 : (wr.alloc o).cell? ⟨go, 0, none⟩ = some ov := (x.alloc o).cv 0
  rw [e1] at hv
  injection hv with hv
  subst hv
  have := (World.ownsRow.lt (w := wr) ro gw e).2
  omega
theorem JS.set {W wr : World} {ga gb gr go gw i : Nat} {O A1 B1 : List RangeD} {u : Value} (h : JS W wr ga gb gr go O A1 B1) (hg : go < gw) (hn : Nb wr go gw) : JS W (wr.setCell ⟨gw, i, none⟩ u) ga gb gr go O A1 B1 := by
  have hW := h.ord
  have k : Kq (fun q => q = gw) wr (wr.setCell ⟨gw, i, none⟩ u) := (Kq.refl _ _).set rfl
  obtain ⟨ov, x, o⟩ := h.xo
  exact ⟨h.sa.kept k.size (k.block _ h.sa.lt (by omega)), h.sb.kept k.size (k.block _ h.sb.lt (by omega)), h.xr.kept k.size (k.block _ h.xr.lt (by omega)), ⟨ov, x.kept k.size (k.block _ x.lt (by omega)), o.off (hn ov (x.cv 0))⟩, h.bw.trans (k.below h.bw.size (fun q hq => by omega)), h.bA, h.bB, hW⟩
theorem JS.lt {W wr : World} {ga gb gr go : Nat} {O A1 B1 : List RangeD} (h : JS W wr ga gb gr go O A1 B1) : go < wr.heap.size := by
  obtain ⟨ov, x, _⟩ := h.xo
  exact x.lt
theorem fldR (r0 r1 : Int) (W : World) : (Instr.field 65 (.agg #[.int .i64 r0, .int .i64 r1]) 0).run Try.prog W = .ok (.int .i64 r0) W := by kernel_rfl
/-- whether the first of a list reaches a range -/
def rcB (L : List RangeD) (x : RangeD) : Bool := match L with
  | [] => false
  | r :: _ => decide (x.f0 - 1 ≤ r.f1)
theorem rc_no {L : List RangeD} {x : RangeD} (h : rcB L x = false) : ∀ r m, L = r :: m → r.f1 < x.f0 - 1 := by
  intro r m e
  subst e
  have h2 : decide (x.f0 - 1 ≤ r.f1) = false := h
  rw [decide_eq_false_iff_not] at h2
  omega
theorem rc_yes {L : List RangeD} {x : RangeD} (h : rcB L x = true) : ∃ r m, L = r :: m ∧ x.f0 - 1 ≤ r.f1 := by
  cases L with
  | nil => cases h
  | cons r m => exact ⟨r, m, rfl, of_decide_eq_true h⟩
theorem bd_low {x r : RangeD} (h1 : bdR x) (h2 : bdR r) : bdR (low x r) := by
  unfold bdR low at *
  simp only
  omega
set_option maxHeartbeats 16000000 in
theorem joinedP (A B : List RangeD) (hl : A.length + B.length ≤ 1000) (hA : Can A) (hB : Can B) (bA : ∀ r ∈ A, bdR r) (bB : ∀ r ∈ B, bdR r) (W : World) (a : Option Addr) (c : Nat) (b : Option Addr) (d : Nat) (hc : A.length ≤ c) (hd : B.length ≤ d) (h : Rd rangeK W a A) (h' : Rd rangeK W b B) :
    Calls Try.prog 25 #[.agg #[.slice a A.length c], .agg #[.slice b B.length d]] W fun e w' => ∃ v, e = .returned (.agg #[v]) ∧ Ro rangeK 65 W.heap.size w' v (jnG A B) ∧ Below W.heap.size W w' := by
  obtain ⟨V0, hV0⟩ : ∃ V, V = (((W.alloc (.cells #[.slice a A.length c] 61)).alloc (.cells #[.slice b B.length d] 61)).alloc (.cells #[.slice none 0 0] 61)).alloc (.cells #[.slice none 0 0] 61) := ⟨_, rfl⟩
  have J0 : Hid (JS W V0 W.heap.size (W.heap.size + 1) (W.heap.size + 1 + 1) (W.heap.size + 1 + 1 + 1) [] A B) := by
    refine ⟨⟨a, c, ?_, h, Or.inr hc⟩, ⟨b, d, ?_, h', Or.inr hd⟩, ?_, ⟨.slice none 0 0, ?_, Ro.nil _ _ _ _⟩, ?_, bA, bB, by omega⟩
    · rw [hV0]; exact (((Bx.new W _ _).alloc _).alloc _).alloc _
    · rw [hV0]; exact ((Bx.newAt (W.alloc _) _ _ _ (by simp)).alloc _).alloc _
    · rw [hV0]; exact (Bx.newAt ((W.alloc _).alloc _) _ _ _ (by simp)).alloc _
    · rw [hV0]; exact Bx.newAt (((W.alloc _).alloc _).alloc _) _ _ _ (by simp)
    · rw [hV0]; exact ((((Below.refl W.heap.size W).alloc (Nat.le_refl _) _).alloc (by simp) _).alloc (by simp; omega) _).alloc (by simp; omega) _
  have I0 := hide (JI.start hA hB)
  have FIN : Hid (∀ O, JI A B O [] [] → O = jnG A B) := fun O hO => hO.fin hA (can_le hB)
  have HV := hide hV0
  generalize jnG A B = R at *
  clear hV0 h h' hc hd bA bB hA hB
  go_enter Try.func25, Try.ntmps25
  go_wp2_with fail
  rw [← unhide HV]
  clear HV
  go_loopw [] (fun wr => ∃ O A1 B1, O.length + (A1.length + B1.length) ≤ A.length + B.length ∧ Hid (JI A B O A1 B1) ∧ Hid (JS W wr W.heap.size (W.heap.size + 1) (W.heap.size + 1 + 1) (W.heap.size + 1 + 1 + 1) O A1 B1)) (fun wr => lnC wr W.heap.size + lnC wr (W.heap.size + 1))
  case atStart => exact ⟨[], A, B, by simp, I0, J0⟩
  case round =>
    obtain ⟨O, A1, B1, hln, hJ, hS⟩ := hrel
    clear J0 I0
    have LA := hide (unhide hS).sa.len
    have LB := hide (unhide hS).sb.len
    go_upto_region 2 with fail
    go_cut [10] (fun s10 wx => s10 = .bool (decide (0 < A1.length + B1.length)) ∧ wx = wr)
    case first =>
      obtain ⟨a1, c1, xa, _⟩ := (unhide hS).sa
      obtain ⟨b1, d1, xb, _⟩ := (unhide hS).sb
      have HMA := hide (moreR W.heap.size a1 A1.length c1 wr xa)
      have HMB := hide (moreR (W.heap.size + 1) b1 B1.length d1 wr xb)
      clear xa xb hJ hS LA LB FIN
      by_cases g1 : 0 < A1.length
      · rw [decide_eq_true g1] at HMA
        have e9 := hide (decide_eq_true (show 0 < A1.length + B1.length by omega))
        clear g1 hln hl
        go_wp2_with (go_at_call 52; with_reducible refine (unhide HMA).mono ?_; rintro e w9 ⟨rfl, h9⟩; rw [h9]; clear h9 w9)
        go_meet
        exact ⟨by rw [unhide e9], rfl⟩
      · rw [decide_eq_false g1] at HMA
        have e9 : Hid (decide (0 < A1.length + B1.length) = decide (0 < B1.length)) := by show _ = _; rw [decide_eq_decide]; omega
        generalize decide (0 < B1.length) = q at *
        clear g1 hln hl
        go_wp2_with (first | (go_at_call 52; with_reducible refine (unhide HMA).mono ?_; rintro e w9 ⟨rfl, h9⟩; rw [h9]; clear h9 w9) | (go_at_call 52; with_reducible refine (unhide HMB).mono ?_; rintro e w9 ⟨rfl, h9⟩; rw [h9]; clear h9 w9))
        go_meet
        exact ⟨by rw [unhide e9], rfl⟩
    case rest =>
      obtain ⟨e10, e11⟩ := hcut
      rw [e10, e11]
      clear e10 e11
      by_cases g0 : 0 < A1.length + B1.length
      · rw [decide_eq_true g0]
        go_wp2_with fail
        refine wp_scope_straight ?_
        go_upto_region 3 with fail
        go_cut [6] (fun s6 wx => ∃ gw x A2 B2, s6 = .pointer (some ⟨gw, 0, none⟩) ∧ A2.length + B2.length + 1 ≤ A1.length + B1.length ∧ Hid (JW A B O x A2 B2) ∧ Hid (bdR x) ∧ Hid (JS W wx W.heap.size (W.heap.size + 1) (W.heap.size + 1 + 1) (W.heap.size + 1 + 1 + 1) O A2 B2) ∧ Hid (Bx wx gw (rangeC x)) ∧ W.heap.size + 1 + 1 + 1 < gw ∧ Hid (Nb wx (W.heap.size + 1 + 1 + 1) gw))
        case first =>
          clear LA LB FIN
          cases A1 with
          | nil =>
            cases B1 with
            | nil => exact absurd g0 (by simp)
            | cons r B2 =>
              have hl0 := hln
              obtain ⟨a1, c1, xa, _⟩ := (unhide hS).sa
              obtain ⟨b1', d1, xb, _⟩ := (unhide hS).sb
              have HH := hide (highB0 W.heap.size (W.heap.size + 1) a1 b1' c1 _ d1 _ xa xb)
              go_wp2_with fail
              refine (unhide HH).mono ?_
              rintro e w1 ⟨rfl, b1⟩
              have S1 := hide ((unhide hS).below b1)
              obtain ⟨b9, o9, c9, x9, hc9, hb9, hn9, k0, k1, hr9⟩ := ((unhide S1).sb).top (unhide S1).bw (by omega)
              have HT := hide (takeR (W.heap.size + 1) b9 o9 _ c9 r.f0 r.f1 w1 x9 hc9 hb9 hn9 k0 k1)
              have HR9 := hide hr9
              clear b1 x9 hc9 hb9 hn9 k0 k1 HH hr9 hl0
              go_wp2_with fail
              refine (unhide HT).mono ?_
              rintro e w2 ⟨rfl, ⟨a', c', x2, hor⟩, k2⟩
              have S2 := hide ((unhide S1).tookB (Sr.took (unhide HR9) x2 hor) k2)
              have S3 := hide ((unhide S2).below ((Below.refl w2.heap.size w2).alloc (Nat.le_refl _) (.cells #[.int .i64 r.f0, .int .i64 r.f1] 65)))
              have X3 := hide (Bx.new w2 (rangeC r) 65)
              have N3 := hide ((unhide S2).nb (o := .cells #[.int .i64 r.f0, .int .i64 r.f1] 65) rfl)
              have HJ := hide ((unhide hJ).takeB (fun q hq => by cases hq))
              have HB := hide ((unhide hS).bB r List.mem_cons_self)
              have hgw : W.heap.size + 1 + 1 + 1 < w2.heap.size := by obtain ⟨ov, x9, _⟩ := (unhide S2).xo; exact x9.lt
              clear x2 hor k2 HT S1 S2 HR9 hS hJ
              go_wp2_with fail
              go_meet
              exact ⟨_, r, [], B2, rfl, by simp only [List.length_cons, List.length_nil]; omega, HJ, HB, S3, X3, hgw, N3⟩
          | cons r A2 =>
            cases B1 with
            | nil =>
              have hl0 := hln
              obtain ⟨a1, c1, xa, _⟩ := (unhide hS).sa
              obtain ⟨b1', d1, xb, _⟩ := (unhide hS).sb
              have HH := hide (highA0 W.heap.size (W.heap.size + 1) a1 b1' _ c1 d1 _ xa xb)
              go_wp2_with fail
              refine (unhide HH).mono ?_
              rintro e w1 ⟨rfl, b1⟩
              have S1 := hide ((unhide hS).below b1)
              obtain ⟨b9, o9, c9, x9, hc9, hb9, hn9, k0, k1, hr9⟩ := ((unhide S1).sa).top (unhide S1).bw (by omega)
              have HT := hide (takeR W.heap.size b9 o9 _ c9 r.f0 r.f1 w1 x9 hc9 hb9 hn9 k0 k1)
              have HR9 := hide hr9
              clear b1 x9 hc9 hb9 hn9 k0 k1 HH hr9 hl0
              go_wp2_with fail
              refine (unhide HT).mono ?_
              rintro e w2 ⟨rfl, ⟨a', c', x2, hor⟩, k2⟩
              have S2 := hide ((unhide S1).tookA (Sr.took (unhide HR9) x2 hor) k2)
              have S3 := hide ((unhide S2).below ((Below.refl w2.heap.size w2).alloc (Nat.le_refl _) (.cells #[.int .i64 r.f0, .int .i64 r.f1] 65)))
              have X3 := hide (Bx.new w2 (rangeC r) 65)
              have N3 := hide ((unhide S2).nb (o := .cells #[.int .i64 r.f0, .int .i64 r.f1] 65) rfl)
              have HJ := hide ((unhide hJ).takeA (fun q hq => by cases hq))
              have HB := hide ((unhide hS).bA r List.mem_cons_self)
              have hgw : W.heap.size + 1 + 1 + 1 < w2.heap.size := by obtain ⟨ov, x9, _⟩ := (unhide S2).xo; exact x9.lt
              clear x2 hor k2 HT S1 S2 HR9 hS hJ
              go_wp2_with fail
              go_meet
              exact ⟨_, r, A2, [], rfl, by simp only [List.length_cons, List.length_nil]; omega, HJ, HB, S3, X3, hgw, N3⟩
            | cons s B2 =>
              obtain ⟨ba, oa, ca, xa, _, _, _, _, ka, _⟩ := ((unhide hS).sa).top (unhide hS).bw (Nat.le_refl _)
              obtain ⟨bb, ob, cb, xb, _, _, _, _, kb, _⟩ := ((unhide hS).sb).top (unhide hS).bw (by omega)
              by_cases h1 : r.f1 < s.f1
              · have hl0 := hln
                have HCA := hide (can_below (unhide hJ).a s.f1 (Int.le_of_lt h1))
                have HH := hide (highAB W.heap.size (W.heap.size + 1) ba oa bb ob _ ca _ cb _ _ _ xa xb ka kb h1)
                go_wp2_with fail
                refine (unhide HH).mono ?_
                rintro e w1 ⟨rfl, b1⟩
                have S1 := hide ((unhide hS).below b1)
                obtain ⟨b9, o9, c9, x9, hc9, hb9, hn9, k0, k1, hr9⟩ := ((unhide S1).sb).top (unhide S1).bw (by omega)
                have HT := hide (takeR (W.heap.size + 1) b9 o9 _ c9 s.f0 s.f1 w1 x9 hc9 hb9 hn9 k0 k1)
                have HR9 := hide hr9
                clear b1 x9 hc9 hb9 hn9 k0 k1 HH hr9 hl0
                go_wp2_with fail
                refine (unhide HT).mono ?_
                rintro e w2 ⟨rfl, ⟨a', c', x2, hor⟩, k2⟩
                have S2 := hide ((unhide S1).tookB (Sr.took (unhide HR9) x2 hor) k2)
                have S3 := hide ((unhide S2).below ((Below.refl w2.heap.size w2).alloc (Nat.le_refl _) (.cells #[.int .i64 s.f0, .int .i64 s.f1] 65)))
                have X3 := hide (Bx.new w2 (rangeC s) 65)
                have N3 := hide ((unhide S2).nb (o := .cells #[.int .i64 s.f0, .int .i64 s.f1] 65) rfl)
                have HJ := hide ((unhide hJ).takeB (unhide HCA))
                have HB := hide ((unhide hS).bB s List.mem_cons_self)
                have hgw : W.heap.size + 1 + 1 + 1 < w2.heap.size := by obtain ⟨ov, x9, _⟩ := (unhide S2).xo; exact x9.lt
                clear x2 hor k2 HT S1 S2 HR9 hS hJ
                go_wp2_with fail
                go_meet
                exact ⟨_, s, (r :: A2), B2, rfl, by simp only [List.length_cons]; omega, HJ, HB, S3, X3, hgw, N3⟩
              · have hl0 := hln
                have HCB := hide (can_below (unhide hJ).b r.f1 (Int.not_lt.1 h1))
                have HH := hide (highBA W.heap.size (W.heap.size + 1) ba oa bb ob _ ca _ cb _ _ _ xa xb ka kb h1)
                go_wp2_with fail
                refine (unhide HH).mono ?_
                rintro e w1 ⟨rfl, b1⟩
                have S1 := hide ((unhide hS).below b1)
                obtain ⟨b9, o9, c9, x9, hc9, hb9, hn9, k0, k1, hr9⟩ := ((unhide S1).sa).top (unhide S1).bw (by omega)
                have HT := hide (takeR W.heap.size b9 o9 _ c9 r.f0 r.f1 w1 x9 hc9 hb9 hn9 k0 k1)
                have HR9 := hide hr9
                clear b1 x9 hc9 hb9 hn9 k0 k1 HH hr9 hl0
                go_wp2_with fail
                refine (unhide HT).mono ?_
                rintro e w2 ⟨rfl, ⟨a', c', x2, hor⟩, k2⟩
                have S2 := hide ((unhide S1).tookA (Sr.took (unhide HR9) x2 hor) k2)
                have S3 := hide ((unhide S2).below ((Below.refl w2.heap.size w2).alloc (Nat.le_refl _) (.cells #[.int .i64 r.f0, .int .i64 r.f1] 65)))
                have X3 := hide (Bx.new w2 (rangeC r) 65)
                have N3 := hide ((unhide S2).nb (o := .cells #[.int .i64 r.f0, .int .i64 r.f1] 65) rfl)
                have HJ := hide ((unhide hJ).takeA (unhide HCB))
                have HB := hide ((unhide hS).bA r List.mem_cons_self)
                have hgw : W.heap.size + 1 + 1 + 1 < w2.heap.size := by obtain ⟨ov, x9, _⟩ := (unhide S2).xo; exact x9.lt
                clear x2 hor k2 HT S1 S2 HR9 hS hJ
                go_wp2_with fail
                go_meet
                exact ⟨_, r, A2, (s :: B2), rfl, by simp only [List.length_cons]; omega, HJ, HB, S3, X3, hgw, N3⟩
        case rest =>
          obtain ⟨gw, x, A2, B2, e6, hlt, HW, HX, HS2, X2, hgw, N2⟩ := hcut
          rw [e6]
          clear e6
          clear hS hJ
          go_wp2_with fail
          refine wp_label ?_
          go_wp2_with fail
          go_loopw [] (fun wr => ∃ y A3 B3, A3.length + B3.length + 1 ≤ A1.length + B1.length ∧ Hid (JW A B O y A3 B3) ∧ Hid (bdR y) ∧ Hid (JS W wr W.heap.size (W.heap.size + 1) (W.heap.size + 1 + 1) (W.heap.size + 1 + 1 + 1) O A3 B3) ∧ Hid (Bx wr gw (rangeC y)) ∧ Hid (Nb wr (W.heap.size + 1 + 1 + 1) gw)) (fun wr => lnC wr W.heap.size + lnC wr (W.heap.size + 1))
          case atStart => exact ⟨x, A2, B2, hlt, HW, HX, HS2, X2, N2⟩
          case round =>
            obtain ⟨y, A3, B3, hlt2, hW, hX, hS, hY, hN⟩ := hrel
            clear HW HX HS2 X2 N2 hlt
            have LA2 := hide (unhide hS).sa.len
            have LB2 := hide (unhide hS).sb.len
            go_upto_region 4 with fail
            go_cut [13] (fun ss wx => ss = .bool (rcB A3 y) ∧ Hid (Below wr.heap.size wr wx))
            case first =>
              cases A3 with
              | nil =>
                obtain ⟨a9, c9, x9, _⟩ := (unhide hS).sa
                have SW := hide (show Bx wr.drew W.heap.size [.slice a9 0 c9] from x9.drew)
                have HM : Hid (∀ V, Bx V W.heap.size [.slice a9 0 c9] → Calls Try.prog 52 #[.pointer (some ⟨W.heap.size, 0, none⟩)] V fun e w' => e = .returned (.bool false) ∧ w' = V) := fun V h => by simpa using moreR W.heap.size a9 0 c9 V h
                clear x9
                refine wp_region_noPanic ?_
                refine wp_region_held_drew (S := fun V => Bx V W.heap.size [.slice a9 0 c9]) (by kernel_rfl) (unhide SW) (fun hHeld => ?_)
                refine wpAnyH_ready (rs := [0]) (by kernel_rfl) (by simp) ?_
                refine AllReadyH.cons rfl (fun K hK => ?_) AllReadyH.nil
                go_simp
                go_at_call 52
                with_reducible refine (unhide HM _ (unhide SW)).mono ?_
                rintro e w9 ⟨rfl, h9⟩
                rw [h9]
                clear h9 w9
                refine hK.out _ _ (unhide SW) (fun hHeld => ?_)
                clear hK K
                try simp only [Act.put, List.getElem_toArray, List.getElem_cons_succ, List.getElem_cons_zero, List.setIfInBounds_toArray, List.set_cons_zero, List.set_cons_succ]
                refine wpAnyH_take (i := 1) (v := ?_) rfl (by kernel_rfl) (by kernel_rfl) (by kernel_rfl) (fun _ _ _ h => h) (Or.inl ⟨by rfl, ?_⟩) hHeld ?_
                rotate_left
                · intro V hSw; go_simp; rfl
                try simp only [Act.put, List.getElem_toArray, List.getElem_cons_succ, List.getElem_cons_zero, List.setIfInBounds_toArray, List.set_cons_zero, List.set_cons_succ]
                refine wpAnyH_take (i := 2) (v := undef) rfl (by kernel_rfl) (by kernel_rfl) (by kernel_rfl) (fun _ _ _ h => h) (Or.inr ⟨by rfl, rfl⟩) hHeld ?_
                try simp only [Act.put, List.getElem_toArray, List.getElem_cons_succ, List.getElem_cons_zero, List.setIfInBounds_toArray, List.set_cons_zero, List.set_cons_succ]
                refine wpAnyH_take (i := 3) (v := undef) rfl (by kernel_rfl) (by kernel_rfl) (by kernel_rfl) (fun _ _ _ h => h) (Or.inr ⟨by rfl, rfl⟩) hHeld ?_
                try simp only [Act.put, List.getElem_toArray, List.getElem_cons_succ, List.getElem_cons_zero, List.setIfInBounds_toArray, List.set_cons_zero, List.set_cons_succ]
                refine wpAnyH_take (i := 4) (v := undef) rfl (by kernel_rfl) (by kernel_rfl) (by kernel_rfl) (fun _ _ _ h => h) (Or.inr ⟨by rfl, rfl⟩) hHeld ?_
                try simp only [Act.put, List.getElem_toArray, List.getElem_cons_succ, List.getElem_cons_zero, List.setIfInBounds_toArray, List.set_cons_zero, List.set_cons_succ]
                refine wpAnyH_take (i := 5) (v := undef) rfl (by kernel_rfl) (by kernel_rfl) (by kernel_rfl) (fun _ _ _ h => h) (Or.inr ⟨by rfl, rfl⟩) hHeld ?_
                try simp only [Act.put, List.getElem_toArray, List.getElem_cons_succ, List.getElem_cons_zero, List.setIfInBounds_toArray, List.set_cons_zero, List.set_cons_succ]
                refine wpAnyH_take (i := 6) (v := undef) rfl (by kernel_rfl) (by kernel_rfl) (by kernel_rfl) (fun _ _ _ h => h) (Or.inr ⟨by rfl, rfl⟩) hHeld ?_
                try simp only [Act.put, List.getElem_toArray, List.getElem_cons_succ, List.getElem_cons_zero, List.setIfInBounds_toArray, List.set_cons_zero, List.set_cons_succ]
                refine wpAnyH_take (i := 7) (v := undef) rfl (by kernel_rfl) (by kernel_rfl) (by kernel_rfl) (fun _ _ _ h => h) (Or.inr ⟨by rfl, rfl⟩) hHeld ?_
                try simp only [Act.put, List.getElem_toArray, List.getElem_cons_succ, List.getElem_cons_zero, List.setIfInBounds_toArray, List.set_cons_zero, List.set_cons_succ]
                refine wpAnyH_take (i := 8) (v := ?_) rfl (by kernel_rfl) (by kernel_rfl) (by kernel_rfl) (fun _ _ _ h => h) (Or.inl ⟨by rfl, ?_⟩) hHeld ?_
                rotate_left
                · intro V hSw; go_simp; rfl
                try simp only [Act.put, List.getElem_toArray, List.getElem_cons_succ, List.getElem_cons_zero, List.setIfInBounds_toArray, List.set_cons_zero, List.set_cons_succ]
                refine wpAnyH_take (i := 9) (v := ?_) rfl (by kernel_rfl) (by kernel_rfl) (by kernel_rfl) (fun _ _ _ h => h) (Or.inl ⟨by rfl, ?_⟩) hHeld ?_
                rotate_left
                · intro V hSw; go_simp; rfl
                try simp only [Act.put, List.getElem_toArray, List.getElem_cons_succ, List.getElem_cons_zero, List.setIfInBounds_toArray, List.set_cons_zero, List.set_cons_succ]
                refine wpAnyH_done (by kernel_rfl) ?_ _
                refine NoPanic.normal ?_
                clear hHeld
                go_wp2
                go_meet
                exact ⟨rfl, (Below.refl _ _).drew⟩
              | cons r L9 =>
                obtain ⟨b9, o9, c9, x9, _, hb9, _, k0, k1, _⟩ := ((unhide hS).sa).top (unhide hS).bw (by omega)
                have SB := hide (show Bx wr.drew W.heap.size [.slice (some ⟨b9, o9, none⟩) (L9.length + 1) c9] ∧ wr.drew.cell? ⟨b9, o9, none⟩ = some (.int .i64 r.f0) ∧ wr.drew.cell? ⟨b9, o9 + 1, none⟩ = some (.int .i64 r.f1) ∧ Bx wr.drew gw (rangeC y) from ⟨x9.drew, by simpa using k0, by simpa using k1, (unhide hY).drew⟩)
                have HM : Hid (∀ V, Bx V W.heap.size [.slice (some ⟨b9, o9, none⟩) (L9.length + 1) c9] → Calls Try.prog 52 #[.pointer (some ⟨W.heap.size, 0, none⟩)] V fun e w' => e = .returned (.bool true) ∧ w' = V) := fun V h => by simpa using moreR W.heap.size _ (L9.length + 1) c9 V h
                have HC := hide (fun V => reachR r y V (unhide hX).1.1 (unhide hX).1.2)
                have hbd : b9 < wr.drew.heap.size := by simpa using hb9
                clear x9 k0 k1 hb9
                refine wp_region_noPanic ?_
                refine wp_region_held_drew (S := fun V => Bx V W.heap.size [.slice (some ⟨b9, o9, none⟩) (L9.length + 1) c9] ∧ V.cell? ⟨b9, o9, none⟩ = some (.int .i64 r.f0) ∧ V.cell? ⟨b9, o9 + 1, none⟩ = some (.int .i64 r.f1) ∧ Bx V gw (rangeC y)) (by kernel_rfl) (unhide SB) (fun hHeld => ?_)
                refine wpAnyH_ready (rs := [0]) (by kernel_rfl) (by simp) ?_
                refine AllReadyH.cons rfl (fun K hK => ?_) AllReadyH.nil
                go_simp
                go_at_call 52
                with_reducible refine (unhide HM _ (unhide SB).1).mono ?_
                rintro e w9 ⟨rfl, h9⟩
                rw [h9]
                clear h9 w9
                refine hK.out _ _ (unhide SB) (fun hHeld => ?_)
                clear hK K
                try simp only [Act.put, List.getElem_toArray, List.getElem_cons_succ, List.getElem_cons_zero, List.setIfInBounds_toArray, List.set_cons_zero, List.set_cons_succ]
                refine wpAnyH_take (i := 1) (v := ?_) rfl (by kernel_rfl) (by kernel_rfl) (by kernel_rfl) (fun _ _ _ h => h) (Or.inl ⟨by rfl, ?_⟩) hHeld ?_
                rotate_left
                · intro V hSw; go_simp; rfl
                try simp only [Act.put, List.getElem_toArray, List.getElem_cons_succ, List.getElem_cons_zero, List.setIfInBounds_toArray, List.set_cons_zero, List.set_cons_succ]
                refine wpAnyH_take (i := 2) (v := ?_) rfl (by kernel_rfl) (by kernel_rfl) (by kernel_rfl) (fun _ _ _ h => h) (Or.inl ⟨by rfl, ?_⟩) hHeld ?_
                rotate_left
                · intro V hSw; obtain ⟨s1, s2, s3, s4⟩ := hSw; have s1c := s1.cv; have s4c := s4.cv; have s1l := s1.lt; have s4l := s4.lt; clear s1 s4; go_simp; rfl
                try simp only [Act.put, List.getElem_toArray, List.getElem_cons_succ, List.getElem_cons_zero, List.setIfInBounds_toArray, List.set_cons_zero, List.set_cons_succ]
                refine wpAnyH_take (i := 3) (v := ?_) rfl (by kernel_rfl) (by kernel_rfl) (by kernel_rfl) (fun _ _ _ h => h) (Or.inl ⟨by rfl, ?_⟩) hHeld ?_
                rotate_left
                · intro V hSw; obtain ⟨s1, s2, s3, s4⟩ := hSw; have s1c := s1.cv; have s4c := s4.cv; have s1l := s1.lt; have s4l := s4.lt; clear s1 s4; go_simp; rfl
                try simp only [Act.put, List.getElem_toArray, List.getElem_cons_succ, List.getElem_cons_zero, List.setIfInBounds_toArray, List.set_cons_zero, List.set_cons_succ]
                refine wpAnyH_take (i := 4) (v := ?_) rfl (by kernel_rfl) (by kernel_rfl) (by kernel_rfl) (fun _ _ _ h => h) (Or.inl ⟨by rfl, ?_⟩) hHeld ?_
                rotate_left
                · intro V hSw; obtain ⟨s1, s2, s3, s4⟩ := hSw; have s1c := s1.cv; have s4c := s4.cv; have s1l := s1.lt; have s4l := s4.lt; clear s1 s4; go_simp; rfl
                try simp only [Act.put, List.getElem_toArray, List.getElem_cons_succ, List.getElem_cons_zero, List.setIfInBounds_toArray, List.set_cons_zero, List.set_cons_succ]
                refine wpAnyH_take (i := 5) (v := ?_) rfl (by kernel_rfl) (by kernel_rfl) (by kernel_rfl) (fun _ _ _ h => h) (Or.inl ⟨by rfl, ?_⟩) hHeld ?_
                rotate_left
                · intro V hSw; obtain ⟨s1, s2, s3, s4⟩ := hSw; have s1c := s1.cv; have s4c := s4.cv; have s1l := s1.lt; have s4l := s4.lt; clear s1 s4; go_simp; rfl
                try simp only [Act.put, List.getElem_toArray, List.getElem_cons_succ, List.getElem_cons_zero, List.setIfInBounds_toArray, List.set_cons_zero, List.set_cons_succ]
                refine wpAnyH_take (i := 6) (v := ?_) rfl (by kernel_rfl) (by kernel_rfl) (by kernel_rfl) (fun _ _ _ h => h) (Or.inl ⟨by rfl, ?_⟩) hHeld ?_
                rotate_left
                · intro V hSw; obtain ⟨s1, s2, s3, s4⟩ := hSw; have s1c := s1.cv; have s4c := s4.cv; have s1l := s1.lt; have s4l := s4.lt; clear s1 s4; go_simp; rfl
                try simp only [Act.put, List.getElem_toArray, List.getElem_cons_succ, List.getElem_cons_zero, List.setIfInBounds_toArray, List.set_cons_zero, List.set_cons_succ]
                refine wpAnyH_ready (rs := [7]) (by kernel_rfl) (by simp) ?_
                refine AllReadyH.cons rfl (fun K hK => ?_) AllReadyH.nil
                go_simp
                go_at_call 55
                with_reducible refine (unhide HC _).mono ?_
                rintro e w9 ⟨rfl, b9'⟩
                refine hK.out _ _ (⟨(unhide SB).1.below b9', (b9'.cell (p := ⟨b9, o9, none⟩) hbd).trans (unhide SB).2.1, (b9'.cell (p := ⟨b9, o9 + 1, none⟩) hbd).trans (unhide SB).2.2.1, (unhide SB).2.2.2.below b9'⟩) (fun hHeld => ?_)
                clear hK K
                try simp only [Act.put, List.getElem_toArray, List.getElem_cons_succ, List.getElem_cons_zero, List.setIfInBounds_toArray, List.set_cons_zero, List.set_cons_succ]
                refine wpAnyH_take (i := 8) (v := ?_) rfl (by kernel_rfl) (by kernel_rfl) (by kernel_rfl) (fun _ _ _ h => h) (Or.inl ⟨by rfl, ?_⟩) hHeld ?_
                rotate_left
                · intro V hSw; go_simp; rfl
                try simp only [Act.put, List.getElem_toArray, List.getElem_cons_succ, List.getElem_cons_zero, List.setIfInBounds_toArray, List.set_cons_zero, List.set_cons_succ]
                refine wpAnyH_take (i := 9) (v := ?_) rfl (by kernel_rfl) (by kernel_rfl) (by kernel_rfl) (fun _ _ _ h => h) (Or.inl ⟨by rfl, ?_⟩) hHeld ?_
                rotate_left
                · intro V hSw; go_simp; rfl
                try simp only [Act.put, List.getElem_toArray, List.getElem_cons_succ, List.getElem_cons_zero, List.setIfInBounds_toArray, List.set_cons_zero, List.set_cons_succ]
                refine wpAnyH_done (by kernel_rfl) ?_ _
                refine NoPanic.normal ?_
                clear hHeld
                go_wp2
                go_meet
                exact ⟨rfl, (Below.refl _ _).drew.trans (b9'.mono (by simp))⟩
            case rest =>
              obtain ⟨e13, hb⟩ := hcut
              rw [e13]
              clear e13
              have hN1 := hide (Nb.kept (unhide hN) ((unhide hb).block _ (unhide hS).lt))
              have hS1 := hide ((unhide hS).below (unhide hb))
              have hY1 := hide ((unhide hY).below (unhide hb))
              clear hS hY hN hb
              obtain ⟨V4, hV4⟩ : ∃ V, V = wc := ⟨_, rfl⟩
              rw [← hV4] at hN1 hS1 hY1 ⊢
              clear hV4
              cases hr : rcB A3 y with
              | true =>
                obtain ⟨r, A4, rfl, hr1⟩ := rc_yes hr
                obtain ⟨b9, o9, c9, x9, hc9, hb9, hn9, k0, k1, hr9⟩ := ((unhide hS1).sa).top (unhide hS1).bw (by omega)
                have HT := hide (takeR W.heap.size b9 o9 _ c9 r.f0 r.f1 V4.drew x9.drew hc9 (by simpa using hb9) hn9 (by simpa using k0) (by simpa using k1))
                have HR9 := hide hr9
                have HJ9 := hide ((unhide hW).stepA hr1)
                have HX9 := hide (bd_low (unhide hX) ((unhide hS1).bA r List.mem_cons_self))
                have SD := hide ((unhide hS1).below (Below.refl _ _).drew)
                have YD := hide ((unhide hY1).drew)
                have ND := hide (Nb.kept (unhide hN1) ((Below.refl V4.heap.size V4).drew.block _ (unhide hS1).lt))
                have hne9 : gw ≠ W.heap.size := by omega
                have hne8 : W.heap.size + 1 + 1 + 1 ≠ W.heap.size := by omega
                have HLN : Hid (A4.length + B3.length + 1 ≤ A1.length + B1.length ∧ A4.length + B3.length < (r :: A4).length + B3.length) := by show _ ∧ _; simp only [List.length_cons] at hlt2 ⊢; omega
                have yd := (unhide YD).cv
                have ydl := (unhide YD).lt
                have ydf := (unhide YD).fz
                clear x9 hc9 hb9 hn9 k0 k1 hr9 hW hX hr hr1 hlt2 hN1 hY1
                have fl := fldR r.f0 r.f1
                by_cases hm : r.f0 < y.f0
                · have e8 : Hid (rangeC (low y r) = [.int .i64 r.f0, .int .i64 y.f1]) := by show _ = _; unfold low; dsimp only [rangeC]; rw [show min y.f0 r.f0 = r.f0 by omega]
                  go_upto_region 5 with fail
                  go_region_law (go_simp; go_at_call 54; with_reducible refine (unhide HT).mono ?_; rintro e w6 ⟨rfl, ⟨a', c', x6, hor⟩, k6⟩; have y6 := ((unhide YD).kept k6.size (k6.block _ (unhide YD).lt hne9)).cv; have y6f := ((unhide YD).kept k6.size (k6.block _ (unhide YD).lt hne9)).fz; have y6l := ((unhide YD).kept k6.size (k6.block _ (unhide YD).lt hne9)).lt)
                  all_goals
                    have S6 := hide ((unhide SD).tookA (Sr.took (unhide HR9) x6 hor) k6)
                    have Y6 := hide ((unhide YD).kept k6.size (k6.block _ (unhide YD).lt hne9))
                    have N6 := hide (Nb.kept (unhide ND) (k6.block _ (unhide SD).lt hne8))
                    have S7 := hide ((unhide S6).set (i := 0) (u := .int .i64 r.f0) hgw (unhide N6))
                    have Y7 := hide ((unhide Y6).set (i := 0) (u := .int .i64 r.f0) (by simp))
                    have N7 := hide (Nb.kept (w' := w6.setCell ⟨gw, 0, none⟩ (.int .i64 r.f0)) (unhide N6) (Below.heap_setCell w6 ⟨gw, 0, none⟩ _ _ (by show W.heap.size + 1 + 1 + 1 ≠ gw; omega)))
                    clear x6 hor k6 HT SD YD HR9 S6 Y6 N6 ND
                    go_wp2
                    exact ⟨⟨low y r, A4, B3, (unhide HLN).1, HJ9, HX9, S7, by rw [unhide e8]; exact Y7, N7⟩, by have := unhide LA2; have := unhide LB2; have := (unhide S7).sa.len; have := (unhide S7).sb.len; have := (unhide HLN).2; omega⟩
                · have e8 : Hid (rangeC (low y r) = [.int .i64 y.f0, .int .i64 y.f1]) := by show _ = _; unfold low; dsimp only [rangeC]; rw [show min y.f0 r.f0 = y.f0 by omega]
                  go_upto_region 5 with fail
                  go_region_law (go_simp; go_at_call 54; with_reducible refine (unhide HT).mono ?_; rintro e w6 ⟨rfl, ⟨a', c', x6, hor⟩, k6⟩; have y6 := ((unhide YD).kept k6.size (k6.block _ (unhide YD).lt hne9)).cv; have y6f := ((unhide YD).kept k6.size (k6.block _ (unhide YD).lt hne9)).fz; have y6l := ((unhide YD).kept k6.size (k6.block _ (unhide YD).lt hne9)).lt)
                  all_goals
                    have S6 := hide ((unhide SD).tookA (Sr.took (unhide HR9) x6 hor) k6)
                    have Y6 := hide ((unhide YD).kept k6.size (k6.block _ (unhide YD).lt hne9))
                    have N6 := hide (Nb.kept (unhide ND) (k6.block _ (unhide SD).lt hne8))
                    have S7 := hide ((unhide S6).set (i := 0) (u := .int .i64 y.f0) hgw (unhide N6))
                    have Y7 := hide ((unhide Y6).set (i := 0) (u := .int .i64 y.f0) (by simp))
                    have N7 := hide (Nb.kept (w' := w6.setCell ⟨gw, 0, none⟩ (.int .i64 y.f0)) (unhide N6) (Below.heap_setCell w6 ⟨gw, 0, none⟩ _ _ (by show W.heap.size + 1 + 1 + 1 ≠ gw; omega)))
                    clear x6 hor k6 HT SD YD HR9 S6 Y6 N6 ND
                    go_wp2
                    exact ⟨⟨low y r, A4, B3, (unhide HLN).1, HJ9, HX9, S7, by rw [unhide e8]; exact Y7, N7⟩, by have := unhide LA2; have := unhide LB2; have := (unhide S7).sa.len; have := (unhide S7).sb.len; have := (unhide HLN).2; omega⟩
              | false =>
                have HNA := hide (rc_no hr)
                clear hr
                go_upto_region 6 with fail
                go_cut [29] (fun ss wx => ss = .bool (rcB B3 y) ∧ Hid (Below V4.heap.size V4 wx))
                case first =>
                  cases B3 with
                  | nil =>
                    obtain ⟨a9, c9, x9, _⟩ := (unhide hS1).sb
                    have SW := hide (show Bx V4.drew (W.heap.size + 1) [.slice a9 0 c9] from x9.drew)
                    have HM : Hid (∀ V, Bx V (W.heap.size + 1) [.slice a9 0 c9] → Calls Try.prog 52 #[.pointer (some ⟨(W.heap.size + 1), 0, none⟩)] V fun e w' => e = .returned (.bool false) ∧ w' = V) := fun V h => by simpa using moreR (W.heap.size + 1) a9 0 c9 V h
                    clear x9
                    refine wp_region_noPanic ?_
                    refine wp_region_held_drew (S := fun V => Bx V (W.heap.size + 1) [.slice a9 0 c9]) (by kernel_rfl) (unhide SW) (fun hHeld => ?_)
                    refine wpAnyH_ready (rs := [0]) (by kernel_rfl) (by simp) ?_
                    refine AllReadyH.cons rfl (fun K hK => ?_) AllReadyH.nil
                    go_simp
                    go_at_call 52
                    with_reducible refine (unhide HM _ (unhide SW)).mono ?_
                    rintro e w9 ⟨rfl, h9⟩
                    rw [h9]
                    clear h9 w9
                    refine hK.out _ _ (unhide SW) (fun hHeld => ?_)
                    clear hK K
                    try simp only [Act.put, List.getElem_toArray, List.getElem_cons_succ, List.getElem_cons_zero, List.setIfInBounds_toArray, List.set_cons_zero, List.set_cons_succ]
                    refine wpAnyH_take (i := 1) (v := ?_) rfl (by kernel_rfl) (by kernel_rfl) (by kernel_rfl) (fun _ _ _ h => h) (Or.inl ⟨by rfl, ?_⟩) hHeld ?_
                    rotate_left
                    · intro V hSw; go_simp; rfl
                    try simp only [Act.put, List.getElem_toArray, List.getElem_cons_succ, List.getElem_cons_zero, List.setIfInBounds_toArray, List.set_cons_zero, List.set_cons_succ]
                    refine wpAnyH_take (i := 2) (v := undef) rfl (by kernel_rfl) (by kernel_rfl) (by kernel_rfl) (fun _ _ _ h => h) (Or.inr ⟨by rfl, rfl⟩) hHeld ?_
                    try simp only [Act.put, List.getElem_toArray, List.getElem_cons_succ, List.getElem_cons_zero, List.setIfInBounds_toArray, List.set_cons_zero, List.set_cons_succ]
                    refine wpAnyH_take (i := 3) (v := undef) rfl (by kernel_rfl) (by kernel_rfl) (by kernel_rfl) (fun _ _ _ h => h) (Or.inr ⟨by rfl, rfl⟩) hHeld ?_
                    try simp only [Act.put, List.getElem_toArray, List.getElem_cons_succ, List.getElem_cons_zero, List.setIfInBounds_toArray, List.set_cons_zero, List.set_cons_succ]
                    refine wpAnyH_take (i := 4) (v := undef) rfl (by kernel_rfl) (by kernel_rfl) (by kernel_rfl) (fun _ _ _ h => h) (Or.inr ⟨by rfl, rfl⟩) hHeld ?_
                    try simp only [Act.put, List.getElem_toArray, List.getElem_cons_succ, List.getElem_cons_zero, List.setIfInBounds_toArray, List.set_cons_zero, List.set_cons_succ]
                    refine wpAnyH_take (i := 5) (v := undef) rfl (by kernel_rfl) (by kernel_rfl) (by kernel_rfl) (fun _ _ _ h => h) (Or.inr ⟨by rfl, rfl⟩) hHeld ?_
                    try simp only [Act.put, List.getElem_toArray, List.getElem_cons_succ, List.getElem_cons_zero, List.setIfInBounds_toArray, List.set_cons_zero, List.set_cons_succ]
                    refine wpAnyH_take (i := 6) (v := undef) rfl (by kernel_rfl) (by kernel_rfl) (by kernel_rfl) (fun _ _ _ h => h) (Or.inr ⟨by rfl, rfl⟩) hHeld ?_
                    try simp only [Act.put, List.getElem_toArray, List.getElem_cons_succ, List.getElem_cons_zero, List.setIfInBounds_toArray, List.set_cons_zero, List.set_cons_succ]
                    refine wpAnyH_take (i := 7) (v := undef) rfl (by kernel_rfl) (by kernel_rfl) (by kernel_rfl) (fun _ _ _ h => h) (Or.inr ⟨by rfl, rfl⟩) hHeld ?_
                    try simp only [Act.put, List.getElem_toArray, List.getElem_cons_succ, List.getElem_cons_zero, List.setIfInBounds_toArray, List.set_cons_zero, List.set_cons_succ]
                    refine wpAnyH_take (i := 8) (v := ?_) rfl (by kernel_rfl) (by kernel_rfl) (by kernel_rfl) (fun _ _ _ h => h) (Or.inl ⟨by rfl, ?_⟩) hHeld ?_
                    rotate_left
                    · intro V hSw; go_simp; rfl
                    try simp only [Act.put, List.getElem_toArray, List.getElem_cons_succ, List.getElem_cons_zero, List.setIfInBounds_toArray, List.set_cons_zero, List.set_cons_succ]
                    refine wpAnyH_take (i := 9) (v := ?_) rfl (by kernel_rfl) (by kernel_rfl) (by kernel_rfl) (fun _ _ _ h => h) (Or.inl ⟨by rfl, ?_⟩) hHeld ?_
                    rotate_left
                    · intro V hSw; go_simp; rfl
                    try simp only [Act.put, List.getElem_toArray, List.getElem_cons_succ, List.getElem_cons_zero, List.setIfInBounds_toArray, List.set_cons_zero, List.set_cons_succ]
                    refine wpAnyH_done (by kernel_rfl) ?_ _
                    refine NoPanic.normal ?_
                    clear hHeld
                    go_wp2
                    go_meet
                    exact ⟨rfl, (Below.refl _ _).drew⟩
                  | cons r L9 =>
                    obtain ⟨b9, o9, c9, x9, _, hb9, _, k0, k1, _⟩ := ((unhide hS1).sb).top (unhide hS1).bw (by omega)
                    have SB := hide (show Bx V4.drew (W.heap.size + 1) [.slice (some ⟨b9, o9, none⟩) (L9.length + 1) c9] ∧ V4.drew.cell? ⟨b9, o9, none⟩ = some (.int .i64 r.f0) ∧ V4.drew.cell? ⟨b9, o9 + 1, none⟩ = some (.int .i64 r.f1) ∧ Bx V4.drew gw (rangeC y) from ⟨x9.drew, by simpa using k0, by simpa using k1, (unhide hY1).drew⟩)
                    have HM : Hid (∀ V, Bx V (W.heap.size + 1) [.slice (some ⟨b9, o9, none⟩) (L9.length + 1) c9] → Calls Try.prog 52 #[.pointer (some ⟨(W.heap.size + 1), 0, none⟩)] V fun e w' => e = .returned (.bool true) ∧ w' = V) := fun V h => by simpa using moreR (W.heap.size + 1) _ (L9.length + 1) c9 V h
                    have HC := hide (fun V => reachR r y V (unhide hX).1.1 (unhide hX).1.2)
                    have hbd : b9 < V4.drew.heap.size := by simpa using hb9
                    clear x9 k0 k1 hb9
                    refine wp_region_noPanic ?_
                    refine wp_region_held_drew (S := fun V => Bx V (W.heap.size + 1) [.slice (some ⟨b9, o9, none⟩) (L9.length + 1) c9] ∧ V.cell? ⟨b9, o9, none⟩ = some (.int .i64 r.f0) ∧ V.cell? ⟨b9, o9 + 1, none⟩ = some (.int .i64 r.f1) ∧ Bx V gw (rangeC y)) (by kernel_rfl) (unhide SB) (fun hHeld => ?_)
                    refine wpAnyH_ready (rs := [0]) (by kernel_rfl) (by simp) ?_
                    refine AllReadyH.cons rfl (fun K hK => ?_) AllReadyH.nil
                    go_simp
                    go_at_call 52
                    with_reducible refine (unhide HM _ (unhide SB).1).mono ?_
                    rintro e w9 ⟨rfl, h9⟩
                    rw [h9]
                    clear h9 w9
                    refine hK.out _ _ (unhide SB) (fun hHeld => ?_)
                    clear hK K
                    try simp only [Act.put, List.getElem_toArray, List.getElem_cons_succ, List.getElem_cons_zero, List.setIfInBounds_toArray, List.set_cons_zero, List.set_cons_succ]
                    refine wpAnyH_take (i := 1) (v := ?_) rfl (by kernel_rfl) (by kernel_rfl) (by kernel_rfl) (fun _ _ _ h => h) (Or.inl ⟨by rfl, ?_⟩) hHeld ?_
                    rotate_left
                    · intro V hSw; go_simp; rfl
                    try simp only [Act.put, List.getElem_toArray, List.getElem_cons_succ, List.getElem_cons_zero, List.setIfInBounds_toArray, List.set_cons_zero, List.set_cons_succ]
                    refine wpAnyH_take (i := 2) (v := ?_) rfl (by kernel_rfl) (by kernel_rfl) (by kernel_rfl) (fun _ _ _ h => h) (Or.inl ⟨by rfl, ?_⟩) hHeld ?_
                    rotate_left
                    · intro V hSw; obtain ⟨s1, s2, s3, s4⟩ := hSw; have s1c := s1.cv; have s4c := s4.cv; have s1l := s1.lt; have s4l := s4.lt; clear s1 s4; go_simp; rfl
                    try simp only [Act.put, List.getElem_toArray, List.getElem_cons_succ, List.getElem_cons_zero, List.setIfInBounds_toArray, List.set_cons_zero, List.set_cons_succ]
                    refine wpAnyH_take (i := 3) (v := ?_) rfl (by kernel_rfl) (by kernel_rfl) (by kernel_rfl) (fun _ _ _ h => h) (Or.inl ⟨by rfl, ?_⟩) hHeld ?_
                    rotate_left
                    · intro V hSw; obtain ⟨s1, s2, s3, s4⟩ := hSw; have s1c := s1.cv; have s4c := s4.cv; have s1l := s1.lt; have s4l := s4.lt; clear s1 s4; go_simp; rfl
                    try simp only [Act.put, List.getElem_toArray, List.getElem_cons_succ, List.getElem_cons_zero, List.setIfInBounds_toArray, List.set_cons_zero, List.set_cons_succ]
                    refine wpAnyH_take (i := 4) (v := ?_) rfl (by kernel_rfl) (by kernel_rfl) (by kernel_rfl) (fun _ _ _ h => h) (Or.inl ⟨by rfl, ?_⟩) hHeld ?_
                    rotate_left
                    · intro V hSw; obtain ⟨s1, s2, s3, s4⟩ := hSw; have s1c := s1.cv; have s4c := s4.cv; have s1l := s1.lt; have s4l := s4.lt; clear s1 s4; go_simp; rfl
                    try simp only [Act.put, List.getElem_toArray, List.getElem_cons_succ, List.getElem_cons_zero, List.setIfInBounds_toArray, List.set_cons_zero, List.set_cons_succ]
                    refine wpAnyH_take (i := 5) (v := ?_) rfl (by kernel_rfl) (by kernel_rfl) (by kernel_rfl) (fun _ _ _ h => h) (Or.inl ⟨by rfl, ?_⟩) hHeld ?_
                    rotate_left
                    · intro V hSw; obtain ⟨s1, s2, s3, s4⟩ := hSw; have s1c := s1.cv; have s4c := s4.cv; have s1l := s1.lt; have s4l := s4.lt; clear s1 s4; go_simp; rfl
                    try simp only [Act.put, List.getElem_toArray, List.getElem_cons_succ, List.getElem_cons_zero, List.setIfInBounds_toArray, List.set_cons_zero, List.set_cons_succ]
                    refine wpAnyH_take (i := 6) (v := ?_) rfl (by kernel_rfl) (by kernel_rfl) (by kernel_rfl) (fun _ _ _ h => h) (Or.inl ⟨by rfl, ?_⟩) hHeld ?_
                    rotate_left
                    · intro V hSw; obtain ⟨s1, s2, s3, s4⟩ := hSw; have s1c := s1.cv; have s4c := s4.cv; have s1l := s1.lt; have s4l := s4.lt; clear s1 s4; go_simp; rfl
                    try simp only [Act.put, List.getElem_toArray, List.getElem_cons_succ, List.getElem_cons_zero, List.setIfInBounds_toArray, List.set_cons_zero, List.set_cons_succ]
                    refine wpAnyH_ready (rs := [7]) (by kernel_rfl) (by simp) ?_
                    refine AllReadyH.cons rfl (fun K hK => ?_) AllReadyH.nil
                    go_simp
                    go_at_call 55
                    with_reducible refine (unhide HC _).mono ?_
                    rintro e w9 ⟨rfl, b9'⟩
                    refine hK.out _ _ (⟨(unhide SB).1.below b9', (b9'.cell (p := ⟨b9, o9, none⟩) hbd).trans (unhide SB).2.1, (b9'.cell (p := ⟨b9, o9 + 1, none⟩) hbd).trans (unhide SB).2.2.1, (unhide SB).2.2.2.below b9'⟩) (fun hHeld => ?_)
                    clear hK K
                    try simp only [Act.put, List.getElem_toArray, List.getElem_cons_succ, List.getElem_cons_zero, List.setIfInBounds_toArray, List.set_cons_zero, List.set_cons_succ]
                    refine wpAnyH_take (i := 8) (v := ?_) rfl (by kernel_rfl) (by kernel_rfl) (by kernel_rfl) (fun _ _ _ h => h) (Or.inl ⟨by rfl, ?_⟩) hHeld ?_
                    rotate_left
                    · intro V hSw; go_simp; rfl
                    try simp only [Act.put, List.getElem_toArray, List.getElem_cons_succ, List.getElem_cons_zero, List.setIfInBounds_toArray, List.set_cons_zero, List.set_cons_succ]
                    refine wpAnyH_take (i := 9) (v := ?_) rfl (by kernel_rfl) (by kernel_rfl) (by kernel_rfl) (fun _ _ _ h => h) (Or.inl ⟨by rfl, ?_⟩) hHeld ?_
                    rotate_left
                    · intro V hSw; go_simp; rfl
                    try simp only [Act.put, List.getElem_toArray, List.getElem_cons_succ, List.getElem_cons_zero, List.setIfInBounds_toArray, List.set_cons_zero, List.set_cons_succ]
                    refine wpAnyH_done (by kernel_rfl) ?_ _
                    refine NoPanic.normal ?_
                    clear hHeld
                    go_wp2
                    go_meet
                    exact ⟨rfl, (Below.refl _ _).drew.trans (b9'.mono (by simp))⟩
                case rest =>
                  obtain ⟨e13, hb⟩ := hcut
                  rw [e13]
                  clear e13
                  have hN2 := hide (Nb.kept (unhide hN1) ((unhide hb).block _ (unhide hS1).lt))
                  have hS2 := hide ((unhide hS1).below (unhide hb))
                  have hY2 := hide ((unhide hY1).below (unhide hb))
                  clear hS1 hY1 hN1 hb
                  obtain ⟨V6, hV6⟩ : ∃ V, V = wc := ⟨_, rfl⟩
                  rw [← hV6] at hN2 hS2 hY2 ⊢
                  clear hV6
                  cases hr : rcB B3 y with
                  | true =>
                    obtain ⟨r, B4, rfl, hr1⟩ := rc_yes hr
                    obtain ⟨b9, o9, c9, x9, hc9, hb9, hn9, k0, k1, hr9⟩ := ((unhide hS2).sb).top (unhide hS2).bw (by omega)
                    have HT := hide (takeR (W.heap.size + 1) b9 o9 _ c9 r.f0 r.f1 V6.drew x9.drew hc9 (by simpa using hb9) hn9 (by simpa using k0) (by simpa using k1))
                    have HR9 := hide hr9
                    have HJ9 := hide ((unhide hW).stepB hr1)
                    have HX9 := hide (bd_low (unhide hX) ((unhide hS2).bB r List.mem_cons_self))
                    have SD := hide ((unhide hS2).below (Below.refl _ _).drew)
                    have YD := hide ((unhide hY2).drew)
                    have ND := hide (Nb.kept (unhide hN2) ((Below.refl V6.heap.size V6).drew.block _ (unhide hS2).lt))
                    have hne9 : gw ≠ (W.heap.size + 1) := by omega
                    have hne8 : W.heap.size + 1 + 1 + 1 ≠ (W.heap.size + 1) := by omega
                    have HLN : Hid (A3.length + B4.length + 1 ≤ A1.length + B1.length ∧ A3.length + B4.length < A3.length + (r :: B4).length) := by show _ ∧ _; simp only [List.length_cons] at hlt2 ⊢; omega
                    have yd := (unhide YD).cv
                    have ydl := (unhide YD).lt
                    have ydf := (unhide YD).fz
                    clear x9 hc9 hb9 hn9 k0 k1 hr9 hW hX hr hr1 hlt2 hN2 hY2
                    have fl := fldR r.f0 r.f1
                    by_cases hm : r.f0 < y.f0
                    · have e8 : Hid (rangeC (low y r) = [.int .i64 r.f0, .int .i64 y.f1]) := by show _ = _; unfold low; dsimp only [rangeC]; rw [show min y.f0 r.f0 = r.f0 by omega]
                      go_upto_region 7 with fail
                      go_region_law (go_simp; go_at_call 54; with_reducible refine (unhide HT).mono ?_; rintro e w6 ⟨rfl, ⟨a', c', x6, hor⟩, k6⟩; have y6 := ((unhide YD).kept k6.size (k6.block _ (unhide YD).lt hne9)).cv; have y6f := ((unhide YD).kept k6.size (k6.block _ (unhide YD).lt hne9)).fz; have y6l := ((unhide YD).kept k6.size (k6.block _ (unhide YD).lt hne9)).lt)
                      all_goals
                        have S6 := hide ((unhide SD).tookB (Sr.took (unhide HR9) x6 hor) k6)
                        have Y6 := hide ((unhide YD).kept k6.size (k6.block _ (unhide YD).lt hne9))
                        have N6 := hide (Nb.kept (unhide ND) (k6.block _ (unhide SD).lt hne8))
                        have S7 := hide ((unhide S6).set (i := 0) (u := .int .i64 r.f0) hgw (unhide N6))
                        have Y7 := hide ((unhide Y6).set (i := 0) (u := .int .i64 r.f0) (by simp))
                        have N7 := hide (Nb.kept (w' := w6.setCell ⟨gw, 0, none⟩ (.int .i64 r.f0)) (unhide N6) (Below.heap_setCell w6 ⟨gw, 0, none⟩ _ _ (by show W.heap.size + 1 + 1 + 1 ≠ gw; omega)))
                        clear x6 hor k6 HT SD YD HR9 S6 Y6 N6 ND
                        go_wp2
                        exact ⟨⟨low y r, A3, B4, (unhide HLN).1, HJ9, HX9, S7, by rw [unhide e8]; exact Y7, N7⟩, by have := unhide LA2; have := unhide LB2; have := (unhide S7).sa.len; have := (unhide S7).sb.len; have := (unhide HLN).2; omega⟩
                    · have e8 : Hid (rangeC (low y r) = [.int .i64 y.f0, .int .i64 y.f1]) := by show _ = _; unfold low; dsimp only [rangeC]; rw [show min y.f0 r.f0 = y.f0 by omega]
                      go_upto_region 7 with fail
                      go_region_law (go_simp; go_at_call 54; with_reducible refine (unhide HT).mono ?_; rintro e w6 ⟨rfl, ⟨a', c', x6, hor⟩, k6⟩; have y6 := ((unhide YD).kept k6.size (k6.block _ (unhide YD).lt hne9)).cv; have y6f := ((unhide YD).kept k6.size (k6.block _ (unhide YD).lt hne9)).fz; have y6l := ((unhide YD).kept k6.size (k6.block _ (unhide YD).lt hne9)).lt)
                      all_goals
                        have S6 := hide ((unhide SD).tookB (Sr.took (unhide HR9) x6 hor) k6)
                        have Y6 := hide ((unhide YD).kept k6.size (k6.block _ (unhide YD).lt hne9))
                        have N6 := hide (Nb.kept (unhide ND) (k6.block _ (unhide SD).lt hne8))
                        have S7 := hide ((unhide S6).set (i := 0) (u := .int .i64 y.f0) hgw (unhide N6))
                        have Y7 := hide ((unhide Y6).set (i := 0) (u := .int .i64 y.f0) (by simp))
                        have N7 := hide (Nb.kept (w' := w6.setCell ⟨gw, 0, none⟩ (.int .i64 y.f0)) (unhide N6) (Below.heap_setCell w6 ⟨gw, 0, none⟩ _ _ (by show W.heap.size + 1 + 1 + 1 ≠ gw; omega)))
                        clear x6 hor k6 HT SD YD HR9 S6 Y6 N6 ND
                        go_wp2
                        exact ⟨⟨low y r, A3, B4, (unhide HLN).1, HJ9, HX9, S7, by rw [unhide e8]; exact Y7, N7⟩, by have := unhide LA2; have := unhide LB2; have := (unhide S7).sa.len; have := (unhide S7).sb.len; have := (unhide HLN).2; omega⟩
                  | false =>
                    have HJ9 := hide ((unhide hW).put (unhide HNA) (rc_no hr))
                    obtain ⟨ov, xo, ro⟩ := (unhide hS2).xo
                    have HP := hide (putRange (W.heap.size + 1 + 1 + 1) (W.heap.size + 1 + 1 + 1 + 1) ov O y V6 (by omega) (by omega) (by have := (unhide hS2).lt; omega) xo ro)
                    have y6 := (unhide hY2).cv
                    have y6l := (unhide hY2).lt
                    clear xo ro hr hW hX HNA
                    go_wp2_with fail
                    refine (unhide HP).mono ?_
                    rintro e w9 ⟨rfl, v', x9, o9, k9⟩
                    have S9 := hide ((unhide hS2).put x9 o9 k9)
                    clear x9 o9 k9 HP hS2 hY2 hN2
                    go_wp2
                    change Exit.inBlock 1 _ Exit.normal _ _
                    go_wp2
                    exact ⟨⟨O ++ [y], A3, B3, by rw [List.length_append, List.length_singleton]; omega, HJ9, S9⟩, by have := unhide LA; have := unhide LB; have := (unhide S9).sa.len; have := (unhide S9).sb.len; omega⟩
      · rw [decide_eq_false g0]
        obtain rfl : A1 = [] := List.length_eq_zero_iff.1 (by omega)
        obtain rfl : B1 = [] := List.length_eq_zero_iff.1 (by omega)
        obtain ⟨ov, xo, ro⟩ := (unhide hS).xo
        obtain ⟨ao, co, rfl⟩ := ro.opens
        have HE := hide (unhide FIN O (unhide hJ))
        have o0 := xo.cv
        have r0 := (unhide hS).xr.cv
        have r0f := (unhide hS).xr.fz
        have r0l := (unhide hS).xr.lt
        have HRO := hide ro
        have HBW := hide (unhide hS).bw
        clear hJ hS LA LB FIN xo ro g0 hln hl
        go_wp2_with fail
        refine bodyPost_ret (v := .agg #[.slice ao O.length co]) (by simp [results, Try.results25, go_sem, r0]) rfl ⟨_, rfl, ?_, ?_⟩
        · rw [← unhide HE]
          exact ((unhide HRO).kq ((Kq.refl (fun q => q = W.heap.size + 1 + 1) _).set rfl) (fun q hq => by omega)).mono (by omega)
        · exact (unhide HBW).setCell (p := ⟨W.heap.size + 1 + 1, 0, none⟩) (by show W.heap.size ≤ W.heap.size + 1 + 1; omega) _
end Go.Proofs.Ythjciigcipblpaa.Rc
