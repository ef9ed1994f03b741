/-
  Contracts: one round of the hash, the program's.
-/
import Derived.Test.YtpjmnnaiegdjmaaDoorShr
import Derived.Test.YtpjmnnaiegdjmaaDoorArw
import Derived.Deep.Cut
import Derived.Lib.LazyBuf
import Derived.Deep.QuietTactic
import Derived.BigQuiet
import Derived.Laws.IdiomCopy
import Derived.Deep.RegionLaw
namespace Go.Proofs.YtpjmnnaiegdjmaaDoor
open Go.ChangeShapes Go.WideShapes Go.ChangeAt Go.RowKit
set_option linter.unusedVariables false

def chW (e f g : Nat) : Nat := (e &&& f) ^^^ ((4294967295 ^^^ e) &&& g)
def majW (a b c : Nat) : Nat := ((a &&& b) ^^^ (a &&& c)) ^^^ (b &&& c)
def bS1 (e : Nat) : Nat := (rr e 6 ^^^ rr e 11) ^^^ rr e 25
def bS0 (a : Nat) : Nat := (rr a 2 ^^^ rr a 13) ^^^ rr a 22
def lS0 (x : Nat) : Nat := (rr x 7 ^^^ rr x 18) ^^^ x / 8
def lS1 (x : Nat) : Nat := (rr x 17 ^^^ rr x 19) ^^^ x / 1024
def t1W (s : Nat → Nat) (x : Nat) : Nat := (s 7 + bS1 (s 4) + chW (s 4) (s 5) (s 6) + x) % 4294967296
def t2W (s : Nat → Nat) : Nat := (bS0 (s 0) + majW (s 0) (s 1) (s 2)) % 4294967296
/-- one round -/
def rndW (s : Nat → Nat) (x i : Nat) : Nat := if i = 0 then (t1W s x + t2W s) % 4294967296 else if i = 4 then (s 3 + t1W s x) % 4294967296 else s (i - 1)
theorem size_w1 : (Tryd.prog.info? 88).map (·.size) = some 1 := by kernel_rfl
theorem info_st : (Tryd.prog.info? 92).map (·.size) = some 8 := by kernel_rfl
theorem xlt {a b : Nat} (ha : a < 4294967296) (hb : b < 4294967296) : a ^^^ b < 4294967296 := Nat.xor_lt_two_pow (n := 32) ha hb
theorem alt {a b : Nat} (hb : b < 4294967296) : a &&& b < 4294967296 := Nat.and_lt_two_pow (n := 32) _ hb
theorem x3I (a b c : Nat) (ha : a < 4294967296) (hb : b < 4294967296) (hc : c < 4294967296) : bits .xor .u32 (bits .xor .u32 (a : Int) (b : Int)) (c : Int) = (((a ^^^ b) ^^^ c : Nat) : Int) := by
  rw [u32_xor_nat _ _ ha hb, u32_xor_nat _ _ (xlt ha hb) hc]
theorem notI (e : Nat) (he : e < 4294967296) : bits .xor .u32 (if IntKind.u32.signed = true then -1 else IntKind.u32.max) (e : Int) = ((4294967295 ^^^ e : Nat) : Int) := u32_xor_nat 4294967295 e (by omega) he
theorem chI (e f g : Nat) (he : e < 4294967296) (hf : f < 4294967296) (hg : g < 4294967296) :
    bits .xor .u32 (bits .and .u32 (e : Int) (f : Int)) (bits .and .u32 (bits .xor .u32 (if IntKind.u32.signed = true then -1 else IntKind.u32.max) (e : Int)) (g : Int)) = ((chW e f g : Nat) : Int) := by
  rw [notI e he, u32_and_nat _ _ he hf, u32_and_nat _ _ (xlt (by omega) he) hg, u32_xor_nat _ _ (alt hf) (alt hg)]
  rfl
theorem majI (a b c : Nat) (ha : a < 4294967296) (hb : b < 4294967296) (hc : c < 4294967296) :
    bits .xor .u32 (bits .xor .u32 (bits .and .u32 (a : Int) (b : Int)) (bits .and .u32 (a : Int) (c : Int))) (bits .and .u32 (b : Int) (c : Int)) = ((majW a b c : Nat) : Int) := by
  rw [u32_and_nat _ _ ha hb, u32_and_nat _ _ ha hc, u32_and_nat _ _ hb hc, x3I _ _ _ (alt hb) (alt hc) (alt hc)]
  rfl
/-- moved by one -/
def shf (s : Nat → Nat) (i : Nat) : Nat := if i = 0 then s 0 else s (i - 1)
theorem uw_take (n p m : Nat) (f : Nat → Nat) (h : p + m ≤ n) (j : Nat) (v : Value) (hv : (uw m (fun i => f (p + i)))[j]? = some v) : (uw n f)[p + j]? = some v := by
  simp only [uw_def, List.getElem?_map] at hv ⊢
  by_cases e : j < m
  · rw [List.getElem?_range e] at hv
    rw [List.getElem?_range (by omega)]
    simpa using hv
  · rw [List.getElem?_eq_none (by simp; omega)] at hv
    simp at hv
/-- copy within a row -/
theorem copy_w (w : World) (b o n : Nat) (f : Nat → Nat) (p q m dc sc : Nat) (h : Aw w b o n f) (hp : p + m ≤ n) (hq : q + m ≤ n) :
    (Builtin.copy_ #[72, 72] 3 #[.slice (some ⟨b, o + p, none⟩) m dc, .slice (some ⟨b, o + q, none⟩) m sc]).run Tryd.prog w = .ok (goInt m) (w.setCells b (o + p) (uw m (fun i => f (q + i)))) := by
  have := run_copy_cells (P := Tryd.prog) w 72 72 3 88 b (o + p) m dc ⟨b, o + q, none⟩ m sc (uw m (fun i => f (q + i))) Tryd.underlying72 size_w1 (by rw [uw_length]; exact (Nat.min_self m).symm)
    (fun j v hv => by
      have h1 := h.range (q + j) v (uw_take n q m f hq j v hv)
      rw [← Nat.add_assoc] at h1
      rw [Addr.add_mid]
      exact h1)
    (fun j hj => by rw [uw_length] at hj; rw [Nat.add_assoc, h.c (p + j) (by omega)]; rfl) (fun j hj => by rw [uw_length] at hj; rw [Nat.add_assoc]; exact h.fz (p + j) (by omega)) (uw_oneL _ _)
  rw [uw_length] at this
  exact this
theorem step_copy_run {P : Program} {ops : Array Oper} {o : Oper} {a : Act} {w : World} {K : Act → World → Prop} {Q : Exit → Act → World → Prop} {E : Prop}
    (hg : o.guard = none) (d x : Operand) (dT sT : TypeId) (hop : o.op = Op.call { callee := Callee.builtin Builtin.copy, args := #[d, x], argTypes := #[dT, sT] })
    (v u : Value) (hd : a.eval d = v) (hx : a.eval x = u) {v' : Value} {w' : World} (hr : (Builtin.copy_ #[dT, sT] o.type #[v, u]).run P w = .ok v' w') (hK : K (a.put o.dst v') w') :
    if Region.wanted o (yielded ops a.tmps) = true then Oper.wp P o a w K Q else E := by
  have hw : Region.wanted o (yielded ops a.tmps) = true := by simp [Region.wanted, hg]
  rw [if_pos hw]
  unfold Oper.wp
  simp [execOp, hop, resolve, invoke, builtin, hd, hx, hr, Result.andThen]
  exact hK
theorem Aw.drewN {w : World} {b o n : Nat} {f : Nat → Nat} (h : Aw w b o n f) (k : Nat) : Aw (w.drewN k) b o n f := ⟨h.c, h.fz, h.lt⟩
theorem Below.drewN' {B : Nat} {a w : World} (h : Below B a w) (k : Nat) : Below B a (w.drewN k) := ⟨h.os, h.tape, h.output, h.size, h.block⟩
theorem z8_new (w : World) (t : TypeId) : Aw (w.alloc (.cells #[.int .u32 0, .int .u32 0, .int .u32 0, .int .u32 0, .int .u32 0, .int .u32 0, .int .u32 0, .int .u32 0] t)) w.heap.size 0 8 (fun _ => 0) := by
  have h := Aw.new w 8 (fun _ => 0) t
  rw [uw_def] at h
  exact h
set_option maxRecDepth 100000 in
set_option maxHeartbeats 400000 in
theorem implRound (s : Nat → Nat) (x : Nat) (hs : ∀ i, s i < 4294967296) (hx : x < 4294967296) (w : World) :
    Calls Tryd.prog 96 #[.agg (uw 8 s).toArray, .int .u32 x] w fun e w' => e = .returned (.agg (uw 8 (rndW s x)).toArray) ∧ Below w.heap.size w w' := by
  go_enter Tryd.func96, Tryd.ntmps96
  have h0 := (Aw.new w 8 s 92).alloc (.cells #[.int .u32 0, .int .u32 0, .int .u32 0, .int .u32 0, .int .u32 0, .int .u32 0, .int .u32 0, .int .u32 0] 92)
  have h1 := z8_new (w.alloc (.cells (uw 8 s).toArray 92)) 92
  rw [World.size_alloc] at h1
  have hB := ((Below.refl w.heap.size w).alloc (Nat.le_refl _) (.cells (uw 8 s).toArray 92)).alloc (by simp) (.cells #[.int .u32 0, .int .u32 0, .int .u32 0, .int .u32 0, .int .u32 0, .int .u32 0, .int .u32 0, .int .u32 0] 92)
  have H0 := hide h0
  have H1 := hide h1
  have HB := hide hB
  clear h0 h1 hB
  go_wp2_with fail
  generalize (w.alloc (.cells (uw 8 s).toArray 92)).alloc (.cells #[.int .u32 0, .int .u32 0, .int .u32 0, .int .u32 0, .int .u32 0, .int .u32 0, .int .u32 0, .int .u32 0] 92) = W at H0 H1 HB ⊢
  have c0 := (unhide H0).c0 0 (by omega)
  have c1 := (unhide H0).c0 1 (by omega)
  have c2 := (unhide H0).c0 2 (by omega)
  have c4 := (unhide H0).c0 4 (by omega)
  have c5 := (unhide H0).c0 5 (by omega)
  have c6 := (unhide H0).c0 6 (by omega)
  have c7 := (unhide H0).c0 7 (by omega)
  have b0 := hs 0
  have b1 := hs 1
  have b2 := hs 2
  have b4 := hs 4
  have b5 := hs 5
  have b6 := hs 6
  have b7 := hs 7
  have HS := hide hs
  clear hs
  have T6 : Hid (∀ W, Calls Tryd.prog 98 #[.int .u32 (s 4 : Nat), .int .i64 6] W fun e w' => e = .returned (.int .u32 (rr (s 4) 6 : Nat)) ∧ w' = W) := fun W => implTurned (s 4) 6 b4 (by omega) (by omega) W
  have T11 : Hid (∀ W, Calls Tryd.prog 98 #[.int .u32 (s 4 : Nat), .int .i64 11] W fun e w' => e = .returned (.int .u32 (rr (s 4) 11 : Nat)) ∧ w' = W) := fun W => implTurned (s 4) 11 b4 (by omega) (by omega) W
  have T25 : Hid (∀ W, Calls Tryd.prog 98 #[.int .u32 (s 4 : Nat), .int .i64 25] W fun e w' => e = .returned (.int .u32 (rr (s 4) 25 : Nat)) ∧ w' = W) := fun W => implTurned (s 4) 25 b4 (by omega) (by omega) W
  have T2 : Hid (∀ W, Calls Tryd.prog 98 #[.int .u32 (s 0 : Nat), .int .i64 2] W fun e w' => e = .returned (.int .u32 (rr (s 0) 2 : Nat)) ∧ w' = W) := fun W => implTurned (s 0) 2 b0 (by omega) (by omega) W
  have T13 : Hid (∀ W, Calls Tryd.prog 98 #[.int .u32 (s 0 : Nat), .int .i64 13] W fun e w' => e = .returned (.int .u32 (rr (s 0) 13 : Nat)) ∧ w' = W) := fun W => implTurned (s 0) 13 b0 (by omega) (by omega) W
  have T22 : Hid (∀ W, Calls Tryd.prog 98 #[.int .u32 (s 0 : Nat), .int .i64 22] W fun e w' => e = .returned (.int .u32 (rr (s 0) 22 : Nat)) ∧ w' = W) := fun W => implTurned (s 0) 22 b0 (by omega) (by omega) W
  have R6 := rr_lt (s 4) 6 b4
  have R11 := rr_lt (s 4) 11 b4
  have R25 := rr_lt (s 4) 25 b4
  have R2 := rr_lt (s 0) 2 b0
  have R13 := rr_lt (s 0) 13 b0
  have R22 := rr_lt (s 0) 22 b0
  generalize e6 : rr (s 4) 6 = r6 at *
  generalize e11 : rr (s 4) 11 = r11 at *
  generalize e25 : rr (s 4) 25 = r25 at *
  generalize e2 : rr (s 0) 2 = r2 at *
  generalize e13 : rr (s 0) 13 = r13 at *
  generalize e22 : rr (s 0) 22 = r22 at *
  have EE := hide (And.intro e6 (And.intro e11 (And.intro e25 (And.intro e2 (And.intro e13 e22)))))
  clear e6 e11 e25 e2 e13 e22
  go_quiet (fail)
  replace H0 := hide ((unhide H0).drewN nq)
  replace H1 := hide ((unhide H1).drewN nq)
  replace HB := hide (Below.drewN' (unhide HB) nq)
  generalize W.drewN nq = Wa at H0 H1 HB ⊢
  clear c0 c1 c2 c4 c5 c6 c7
  have c4 := (unhide H0).c0 4 (by omega)
  have c5 := (unhide H0).c0 5 (by omega)
  have c6 := (unhide H0).c0 6 (by omega)
  go_wp2_with fail
  go_quiet (fail)
  replace H0 := hide ((unhide H0).drewN nq)
  replace H1 := hide ((unhide H1).drewN nq)
  replace HB := hide (Below.drewN' (unhide HB) nq)
  generalize Wa.drewN nq = Wb at H0 H1 HB ⊢
  clear c4 c5 c6
  have c7 := (unhide H0).c0 7 (by omega)
  go_wp2_with fail
  go_quiet (first | with_reducible exact Calls.quiet_of_same (unhide T6 _) | with_reducible exact Calls.quiet_of_same (unhide T11 _) | with_reducible exact Calls.quiet_of_same (unhide T25 _))
  rw [x3I r6 r11 r25 R6 R11 R25, chI (s 4) (s 5) (s 6) b4 b5 b6]
  have T1 : ((((s 7 : Nat) : Int) + ((r6 ^^^ r11 ^^^ r25 : Nat) : Int) + ((chW (s 4) (s 5) (s 6) : Nat) : Int)) % 4294967296 + (x : Int)) % 4294967296 = ((t1W s x : Nat) : Int) := by
    obtain ⟨q6, q11, q25, _⟩ := unhide EE
    unfold t1W bS1
    rw [q6, q11, q25]
    omega
  rw [T1]
  have HT1 : t1W s x < 4294967296 := Nat.mod_lt _ (by omega)
  clear T1
  generalize hT1 : t1W s x = t1 at *
  have ET1 := hide hT1
  clear hT1
  replace H0 := hide ((unhide H0).drewN nq)
  replace H1 := hide ((unhide H1).drewN nq)
  replace HB := hide (Below.drewN' (unhide HB) nq)
  generalize Wb.drewN nq = Wc at H0 H1 HB ⊢
  clear c7 T6 T11 T25
  go_wp2_with (first
    | (go_at_call 98; with_reducible refine (unhide T2 _).mono ?_; rintro e w9 ⟨rfl, rfl⟩)
    | (go_at_call 98; with_reducible refine (unhide T13 _).mono ?_; rintro e w9 ⟨rfl, rfl⟩)
    | (go_at_call 98; with_reducible refine (unhide T22 _).mono ?_; rintro e w9 ⟨rfl, rfl⟩))
  rw [x3I r2 r13 r22 R2 R13 R22, majI (s 0) (s 1) (s 2) b0 b1 b2]
  have T2' : (((r2 ^^^ r13 ^^^ r22 : Nat) : Int) + ((majW (s 0) (s 1) (s 2) : Nat) : Int)) % 4294967296 = ((t2W s : Nat) : Int) := by
    obtain ⟨_, _, _, q2, q13, q22⟩ := unhide EE
    unfold t2W bS0
    rw [q2, q13, q22]
    omega
  rw [T2']
  have HT2 : t2W s < 4294967296 := Nat.mod_lt _ (by omega)
  clear T2'
  generalize hT2 : t2W s = t2 at *
  have ET2 := hide hT2
  clear hT2 T2 T13 T22
  have hcp := copy_w w9.drew w.heap.size 0 8 s 1 0 7 7 8 (unhide H0).drew (by omega) (by omega)
  rw [Nat.zero_add, Nat.zero_add] at hcp
  have h5 := (unhide H0).drew.putPart (p := 1) (m := 7) (g := fun i => s (0 + i)) (G := shf s) (by omega) (fun i hi => by unfold shf; rw [if_neg (by omega), Nat.zero_add, Nat.add_sub_cancel_left]) (fun i hi h => by obtain rfl : i = 0 := (by omega); rfl)
  rw [Nat.zero_add] at h5
  have h6 := (unhide H1).drew.others (b' := w.heap.size) (o' := 1) (vs := uw 7 (fun i => s (0 + i))) (Or.inl (by omega))
  have h7 := Go.Proofs.YtpjmnnaiegdjmaaDoor.below_setCells (b := w.heap.size) (Nat.le_refl _) (uw 7 (fun i => s (0 + i))) 1 _ (unhide HB).drew
  generalize w9.drew.setCells w.heap.size 1 (uw 7 (fun i => s (0 + i))) = Wd at hcp h5 h6 h7
  have HCP := hide hcp
  replace H0 := hide h5
  replace H1 := hide h6
  replace HB := hide h7
  clear hcp h5 h6 h7
  go_region_law (refine step_copy_run rfl (.tmp 67) (.tmp 68) 72 72 rfl _ _ rfl rfl (unhide HCP) ?_)
  have d4 := (unhide H0).c0 4 (by omega)
  have f4 := (unhide H0).f0 4 (by omega)
  have b3 := unhide HS 3
  rw [show shf s 4 = s 3 from rfl] at d4
  have h8 := (unhide H0).put0 (g := fun i => if i = 4 then (s 3 + t1) % 4294967296 else shf s i) (k := 4) (x := (s 3 + t1) % 4294967296) (by omega) rfl (fun i _ hne => by rw [if_neg hne])
  have h9 := (unhide H1).other (a := ⟨w.heap.size, 4, none⟩) (v := .int .u32 (((s 3 + t1) % 4294967296 : Nat) : Int)) (by show w.heap.size ≠ w.heap.size + 1; omega)
  have h10 := (unhide HB).setCell (p := ⟨w.heap.size, 4, none⟩) (Nat.le_refl _) (.int .u32 (((s 3 + t1) % 4294967296 : Nat) : Int))
  have d0 := h8.c0 0 (by omega)
  have f0 := h8.f0 0 (by omega)
  have h11 := h8.put0 (g := rndW s x) (k := 0) (x := (t1 + t2) % 4294967296) (by omega) (by unfold rndW; rw [if_pos rfl, unhide ET1, unhide ET2]) (fun i _ hne => by
    unfold rndW
    rw [if_neg hne, unhide ET1]
    by_cases e : i = 4
    · rw [if_pos e, if_pos e]
    · rw [if_neg e, if_neg e]; unfold shf; rw [if_neg hne])
  have h12 := h9.other (a := ⟨w.heap.size, 0, none⟩) (v := .int .u32 (((t1 + t2) % 4294967296 : Nat) : Int)) (by show w.heap.size ≠ w.heap.size + 1; omega)
  have h13 := h10.setCell (p := ⟨w.heap.size, 0, none⟩) (Nat.le_refl _) (.int .u32 (((t1 + t2) % 4294967296 : Nat) : Int))
  have e34 : (((s 3 + t1) % 4294967296 : Nat) : Int) = (((s 3 : Nat) : Int) + (t1 : Int)) % 4294967296 := by omega
  have e12 : (((t1 + t2) % 4294967296 : Nat) : Int) = ((t1 : Int) + (t2 : Int)) % 4294967296 := by omega
  rw [e34] at h9 h10 h11 h12 h13 d0 f0
  rw [e12] at h11 h12 h13
  have H2 := hide h11
  replace H1 := hide h12
  replace HB := hide h13
  clear h8 h9 h10 h11 h12 h13 H0 HS EE ET1 ET2 e34 e12
  go_upto_region 8 with fail
  generalize (Wd.setCell _ _).setCell _ _ = We at H1 H2 HB ⊢
  clear d4 f4 d0 f0
  generalize hr : rndW s x = r at H2 ⊢
  refine wp_region_list ?_
  refine wpList_load_mid rfl 92 (.tmp 2) rfl w.heap.size 0 rfl (uw 8 r) _ (unhide H2).range Tryd.underlying92 rfl (by rw [uw_length]; exact info_st) ?_
  refine wpList_store_mid rfl 92 (.tmp 4) (.tmp 79) rfl (w.heap.size + 1) 0 (uw 8 r).toArray rfl rfl (by rw [uw_size]; exact (unhide H1).there) (by rw [uw_size]; exact info_st) (uw_one _ _) ?_
  refine wpList_nil ?_
  have HH := hide ((unhide H1).puts (g := r))
  clear H1 H2
  go_wp2
  refine ret_arr_w 4 (w.heap.size + 1) 8 92 _ r ?r1 ?r2 ?r3 (unhide HH) Tryd.underlying92 rfl info_st ?_
  case r1 => rfl
  case r2 => rfl
  case r3 => rfl
  exact ⟨by rw [hr], Go.Proofs.YtpjmnnaiegdjmaaDoor.below_setCells (by omega) _ _ _ (unhide HB)⟩
end Go.Proofs.YtpjmnnaiegdjmaaDoor
