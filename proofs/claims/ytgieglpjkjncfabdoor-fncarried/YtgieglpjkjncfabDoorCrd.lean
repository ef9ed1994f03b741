/-
  Contracts: what is carried, read, of both sides.
-/
import Derived.Test.YtgieglpjkjncfabDoorCpc
import Derived.Test.YtgieglpjkjncfabDoorCdc
import Derived.Test.YtgieglpjkjncfabDoorFlt
import Derived.Deep.RegionWith
import Derived.Deep.DeepCutAuto
namespace Go.Proofs.YtgieglpjkjncfabDoor.Rc
open Go.ChangeShapes Go.WideShapes Go.ChangeAt Go.RowKit Go.Deep
set_option linter.unusedVariables false
set_option maxRecDepth 100000

/-- what two numbers and all behind them are -/
def rkD (s : ByteArray) (y x : Int × Nat) : CarriedD := ⟨4 * y.1, x.1, s.extract (y.2 + x.2) s.size⟩
/-- how reading it goes: none where the stream is too great, some none where bytes lack -/
def ckO (s : ByteArray) (y : Int × Nat) : Option (Option CarriedD) :=
  if y.2 = 0 then some none else if 1152921504606846975 < y.1 then none else if (tk (dr s y.2)).2 = 0 then some none else some (some (rkD s y (tk (dr s y.2))))
def rkB : Option (Option CarriedD) → Option CarriedD
  | some (some D) => if gdK D = true then some D else none
  | _ => none
/-- what is so carried -/
def rkO (s : ByteArray) : Option CarriedD := if s.size ≤ 1500 then rkB (ckO s (tk (dr s 0))) else none
abbrev zD : CarriedD := ⟨0, 0, ⟨#[]⟩⟩
/-- what ReadCarried answers -/
def RkP (o : Option CarriedD) (e : Ending) : Prop := e = .returned (.tuple #[carriedV (o.getD zD), .bool o.isSome])
theorem frk (caps : Array Value) (w : World) (P : Int → World → Prop) (hP : ∀ c w', P c w' → w'.cell? ⟨w.heap.size, 0, none⟩ = some (.int .i64 0) ∧ w'.frozen? ⟨w.heap.size, 0, none⟩ = false)
    (h : Calls Tryd.prog 36 caps (w.alloc (.cells #[.int .i64 0] 3)) fun e w' => ∃ c : Int, (c = 0 ∧ e = .returned (.tuple #[]) ∨ e = gives c) ∧ P c w') :
    Calls Tryd.prog 35 #[.func (.func 36) #[] caps] w fun e w' => ∃ c : Int, e = .returned (.int .i64 c) ∧ ∃ w1, P c w1 ∧ w' = w1.setCell ⟨w.heap.size, 0, none⟩ (.int .i64 c) := by
  have hmf : ∀ (fn : Fn) (first cap : Array Value) (w : World), (Instr.makeFunc fn first cap).run Tryd.prog w = .ok (.func fn first cap) w := fun _ _ _ _ => rfl
  go_enter_defers Tryd.func35, Tryd.ntmps35
  go_wp2_with fail
  refine h.mono ?_
  rintro e w1 ⟨c, ⟨rfl, rfl⟩ | rfl, hp⟩
  · obtain ⟨hc, hz⟩ := hP _ _ hp
    go_wp2_with fail
    refine leaves_cons (f := 53) (args := #[.pointer (some ⟨w.heap.size, 0, none⟩)]) (by simp) (by simp [go_sem]) ?_
    refine (catch_idle ⟨w.heap.size, 0, none⟩ _).mono ?_
    rintro e u' w'' ⟨rfl, rfl, rfl⟩
    simp [Leaves, settle, results, Tryd.results35, go_sem, hc]
    exact ⟨w1, hp, rfl⟩
  · obtain ⟨hc, hz⟩ := hP _ _ hp
    go_wp2_with fail
    refine leaves_cons (f := 53) (args := #[.pointer (some ⟨w.heap.size, 0, none⟩)]) (by simp) (by simp [go_sem]) ?_
    refine (catch_panicking ⟨w.heap.size, 0, none⟩ 0 c [] _ hc hz).mono ?_
    rintro e u' w'' ⟨rfl, rfl, rfl⟩
    simp [Leaves, settle, results, Tryd.results35, go_sem, hc]
    exact ⟨w1, hp, rfl⟩

/-- what reading it comes to -/
def CkP (cb : Nat) (w : World) (o : Option (Option CarriedD)) (e : Ending) (w' : World) : Prop := match o with
  | none => e = gives 3 ∧ Kx cb w w'
  | some none => e = gives 1 ∧ Kx cb w w'
  | some (some D) => e = .returned (carriedV D) ∧ Kx cb w w'
set_option maxHeartbeats 4000000 in
theorem implCk (cb : Nat) (s : ByteArray) (told : Int) (w : World) (hs : s.size ≤ 1048576) (h : Cc w cb s 0 told) :
    Calls Tryd.prog 37 #[.pointer (some ⟨cb, 0, none⟩)] w (CkP cb w (ckO s (tk (dr s 0)))) := by
  obtain ⟨V, hV⟩ : ∃ V, V = w.alloc (.cells #[.int .i64 0, .int .i64 0, .string ⟨#[]⟩] 38) := ⟨_, rfl⟩
  have hA : Below w.heap.size w V := by rw [hV]; exact (Below.refl _ _).alloc (Nat.le_refl _) _
  have hbx : Bx V w.heap.size [.int .i64 0, .int .i64 0, .string ⟨#[]⟩] := by rw [hV]; exact Bx.new w _ _
  have hcb : cb < w.heap.size := h.lt
  have HC := hide (h.below hA)
  have HV := hide hV
  have HA := hide (Kx.of (cb := cb) hA)
  clear hV
  unfold ckO
  have i1 := tk_in (dr s 0)
  rw [dr_len] at i1
  by_cases h1 : (tk (dr s 0)).2 = 0
  · rw [if_pos h1]
    have HN := hide (fun W (hW : Cc W cb s 0 told) => up_lack cb 0 1152921504606846975 s told W hs (Nat.zero_le _) h1 hW)
    clear h1 i1
    go_enter Tryd.func37, Tryd.ntmps37
    go_wp2_with fail
    rw [← unhide HV]
    refine (unhide HN _ (unhide HC)).mono ?_
    rintro e w1 ⟨rfl, k1⟩
    go_wp2_with fail
    exact ⟨rfl, rfl, (unhide HA).trans k1⟩
  rw [if_neg h1]
  obtain ⟨y, hy⟩ : ∃ y, tk (dr s 0) = y := ⟨_, rfl⟩
  rw [hy] at h1 i1 ⊢
  by_cases h2 : 1152921504606846975 < y.1
  · rw [if_pos h2]
    have HN := hide (fun W (hW : Cc W cb s 0 told) => up_form cb 0 1152921504606846975 y s told W hs (Nat.zero_le _) hy h1 h2 hW)
    clear h1 i1 h2 hy
    go_enter Tryd.func37, Tryd.ntmps37
    go_wp2_with fail
    rw [← unhide HV]
    refine (unhide HN _ (unhide HC)).mono ?_
    rintro e w1 ⟨rfl, k1⟩
    go_wp2_with fail
    exact ⟨rfl, rfl, (unhide HA).trans k1⟩
  rw [if_neg h2]
  have HN := hide (fun W (hW : Cc W cb s 0 told) => up_ok cb 0 1152921504606846975 y s told W hs (Nat.zero_le _) hy h1 h2 hW)
  rw [Nat.zero_add] at HN
  have w4 : IntKind.i64.wrap (4 * y.1) = 4 * y.1 := wraps_i64 _ (by omega) (by omega)
  have i2 := tk_in (dr s y.2)
  rw [dr_len] at i2
  have HB := hide (fun (V1 : World) (hk : Kx cb V V1) => show Bx V1 w.heap.size [.int .i64 0, .int .i64 0, .string ⟨#[]⟩] from hbx.kept hk.size (hk.block _ hbx.lt (by omega)))
  clear hbx hy h2
  by_cases h3 : (tk (dr s y.2)).2 = 0
  · rw [if_pos h3]
    have HM := hide (fun W (hW : Cc W cb s y.2 told) => num_bad cb y.2 s told W hs (by omega) h3 hW)
    clear h1 i1 i2 h3
    go_enter Tryd.func37, Tryd.ntmps37
    go_wp2_with fail
    rw [← unhide HV]
    refine (unhide HN _ (unhide HC)).mono ?_
    rintro e w1 ⟨rfl, c1, k1⟩
    go_wp2_with fail
    refine (unhide HM _ c1).mono ?_
    rintro e w2 ⟨rfl, k2⟩
    go_wp2_with fail
    exact ⟨rfl, rfl, ((unhide HA).trans k1).trans k2⟩
  rw [if_neg h3]
  obtain ⟨x, hx⟩ : ∃ x, tk (dr s y.2) = x := ⟨_, rfl⟩
  rw [hx] at h3 i2 ⊢
  have HM := hide (fun W (hW : Cc W cb s y.2 told) => num_ok cb y.2 x s told W hs (by omega) hx h3 hW)
  unfold rkD
  obtain ⟨q, hq⟩ : ∃ q, y.2 + x.2 = q := ⟨_, rfl⟩
  rw [hq] at HM ⊢
  have hqs : q ≤ s.size := by omega
  obtain ⟨n, hn⟩ : ∃ n, s.size - q = n := ⟨_, rfl⟩
  have HT := hide (fun W (hW : Cc W cb s q told) => take_ok cb q n s told W hs (by omega) hW)
  rw [show q + n = s.size by omega] at HT
  have e1 : (s.size : Int) - (q : Int) = (n : Int) := by omega
  have w5 : IntKind.i64.wrap ((s.size : Int) - (q : Int)) = (n : Int) := by rw [e1]; exact wraps_i64 _ (by omega) (by omega)
  clear h1 i1 i2 h3 hx hq hn e1
  go_enter Tryd.func37, Tryd.ntmps37
  go_wp2_with fail
  rw [← unhide HV]
  refine (unhide HN _ (unhide HC)).mono ?_
  rintro e w1 ⟨rfl, c1, k1⟩
  have HK1 := hide k1
  clear k1 HN HC HV
  go_wp2_with fail
  refine (unhide HM _ c1).mono ?_
  rintro e w2 ⟨rfl, c2, k2⟩
  have HK2 := hide ((unhide HK1).trans k2)
  have HC2 := hide c2
  clear k2 c1 c2 HM HK1 w4
  have d0 := (unhide HC2).c0
  have d1 := (unhide HC2).c1
  have dl := (unhide HC2).lt
  generalize s.extract q s.size = d at *
  go_upto_region 3 with fail
  go_region_with (go_at_call 56; refine (unhide HT _ ((unhide HC2).below (Below.refl _ _).drew)).mono ?_; rintro e w3 ⟨rfl, c3, k3⟩; have HK3 := hide (((unhide HK2).trans (Kx.of ((Below.refl _ _).drew))).trans k3); have b3 := unhide HB _ (unhide HK3); have p0 := b3.cv 0; have p1 := b3.cv 1; have p2 := b3.cv 2; have f0 := b3.fz 0; have f1 := b3.fz 1; have f2 := b3.fz 2; have pl := b3.lt; clear b3 k3 c3)
  all_goals
    have HQ := hide (show ∀ u0 u1 u2, Kx cb w (((w3.setCell ⟨w.heap.size, 0, none⟩ u0).setCell ⟨w.heap.size, 1, none⟩ u1).setCell ⟨w.heap.size, 2, none⟩ u2) from fun u0 u1 u2 => ((((unhide HA).trans (unhide HK3)).new16 (Nat.le_refl _) u0 0).new16 (Nat.le_refl _) u1 1).new16 (Nat.le_refl _) u2 2)
    go_wp2_with fail
    refine bodyPost_ret (v := carriedV ⟨4 * y.1, x.1, d⟩) (by simp [results, Tryd.results37, go_sem, p0, p1, p2]) rfl ?_
    exact ⟨rfl, unhide HQ _ _ _⟩
/-- the closure that reads it: what it is lies in the box then -/
def RkC (cb bt : Nat) (w : World) (o : Option (Option CarriedD)) (e : Ending) (w' : World) : Prop := ∃ c : Int, (c = 0 ∧ e = .returned (.tuple #[]) ∨ e = gives c) ∧ (c = 0 ∨ c = 1 ∨ c = 3) ∧ (∀ D, o = some (some D) → c = 0 ∧ Bx w' bt (carriedC D)) ∧ ((∀ D, o ≠ some (some D)) → c ≠ 0) ∧ Kq (fun q => q = cb ∨ q = bt) w w' ∧ ∃ D, Bx w' bt (carriedC D)
theorem kx_qk {cb : Nat} {w w' : World} (h : Kx cb w w') (bl : Nat) : Kq (fun q => q = cb ∨ q = bl) w w' := ⟨h.os, h.tape, h.output, h.size, fun q hq hn => h.block q hq (fun e => hn (Or.inl e))⟩
set_option maxHeartbeats 2000000 in
theorem implR1 (cb bc bt : Nat) (s : ByteArray) (w : World) (hs : s.size ≤ 1048576) (hne : cb ≠ bc ∧ cb ≠ bt ∧ bc ≠ bt) (h : Cc w cb s 0 0) (hc : Bx w bc [.pointer (some ⟨cb, 0, none⟩)]) (ht : Bx w bt (carriedC zD)) :
    Calls Tryd.prog 36 #[.pointer (some ⟨bc, 0, none⟩), .pointer (some ⟨bt, 0, none⟩)] w (RkC cb bt w (ckO s (tk (dr s 0)))) := by
  have HI := hide (implCk cb s 0 w hs h)
  generalize ckO s (tk (dr s 0)) = o at *
  have x0 := hc.cv
  have xl := hc.lt
  have HT := hide (fun w' (k : Kx cb w w') => show Bx w' bt (carriedC zD) from ht.kept k.size (k.block _ ht.lt (by omega)))
  clear hc ht h
  match o, HI with
  | none, HI =>
    go_enter Tryd.func36, Tryd.ntmps36
    go_wp2_with fail
    refine (unhide HI).mono ?_
    rintro e w1 ⟨rfl, k1⟩
    go_wp2_with fail
    exact ⟨rfl, 3, Or.inr rfl, by omega, fun D h => (by cases h), fun _ => (by decide), kx_qk k1 bt, zD, unhide HT _ k1⟩
  | some none, HI =>
    go_enter Tryd.func36, Tryd.ntmps36
    go_wp2_with fail
    refine (unhide HI).mono ?_
    rintro e w1 ⟨rfl, k1⟩
    go_wp2_with fail
    exact ⟨rfl, 1, Or.inr rfl, by omega, fun D h => (by cases h), fun _ => (by decide), kx_qk k1 bt, zD, unhide HT _ k1⟩
  | some (some D), HI =>
    go_enter Tryd.func36, Tryd.ntmps36
    go_wp2_with fail
    refine (unhide HI).mono ?_
    rintro e w1 ⟨rfl, k1⟩
    have b1 := unhide HT _ k1
    have p0 := b1.cv 0
    have p1 := b1.cv 1
    have p2 := b1.cv 2
    have pl := b1.lt
    have pf := b1.fz
    have HX := hide (show ∀ u0 u1 u2, Bx (((w1.setCell ⟨bt, 0, none⟩ u0).setCell ⟨bt, 1, none⟩ u1).setCell ⟨bt, 2, none⟩ u2) bt [u0, u1, u2] from fun u0 u1 u2 => ((b1.set (i := 0) (by simp)).set (i := 1) (by simp)).set (i := 2) (by simp))
    have HK := hide (show ∀ u0 u1 u2, Kq (fun q => q = cb ∨ q = bt) w (((w1.setCell ⟨bt, 0, none⟩ u0).setCell ⟨bt, 1, none⟩ u1).setCell ⟨bt, 2, none⟩ u2) from fun u0 u1 u2 => (((kx_qk k1 bt).set (Or.inr rfl)).set (Or.inr rfl)).set (Or.inr rfl))
    clear b1 k1
    go_wp2
    go_end0
    exact ⟨0, Or.inl ⟨rfl, rfl⟩, Or.inl rfl, fun E h => (by injection h with h; injection h with h; subst h; exact ⟨rfl, unhide HX _ _ _⟩), fun h => absurd rfl (h D), unhide HK _ _ _, D, unhide HX _ _ _⟩
end Go.Proofs.YtgieglpjkjncfabDoor.Rc
