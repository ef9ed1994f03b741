/-
  Rows of impl.Field: read, copied by the laws, weighed, held against each other, marked.
-/
import Derived.Test.YtidgjjbdabifnabDoorRcs
import Derived.Test.YtidgjjbdabifnabDoorStx
import Derived.Deep.QuietTactic
import Derived.Deep.RegionWith
import Derived.BigQuiet
import Derived.Deep.DeepCutAuto
namespace Go.Proofs.YtidgjjbdabifnabDoor.Rc
open Go.ChangeShapes Go.WideShapes Go.ChangeAt Go.RowKit Go.Deep
set_option linter.unusedVariables false
set_option maxRecDepth 100000

/-- a record -/
structure FieldD where
  f0 : ByteArray
  f1 : ByteArray
/-- its cells -/
abbrev fieldC (D : FieldD) : List Value := [.string D.f0, .string D.f1]
/-- as a value -/
abbrev fieldV (D : FieldD) : Value := .agg #[.string D.f0, .string D.f1]
/-- how it lies in cells -/
def fieldK : Kd FieldD := ⟨fun D => [.string D.f0, .string D.f1], 2, ⟨⟨#[]⟩, ⟨#[]⟩⟩, fun _ => rfl, by decide, fun x u hu => by
  simp at hu
  rcases hu with rfl | rfl <;> rfl⟩

theorem field_c0 (L : List FieldD) (k : Nat) : cl fieldK L (k * 2) = .string (gt fieldK L k).f0 := cl_at fieldK L k 0 (by decide)
theorem field_c1 (L : List FieldD) (k : Nat) : cl fieldK L (k * 2 + 1) = .string (gt fieldK L k).f1 := cl_at fieldK L k 1 (by decide)
theorem field_r0 {w : World} {b o k : Nat} {L : List FieldD} (h : ∀ q, q < L.length * fieldK.m → w.cell? ⟨b, o + q, none⟩ = some (cl fieldK L q)) (hk : k < L.length) : w.cell? ⟨b, o + k * 2, none⟩ = some (.string (gt fieldK L k).f0) := by
  have h1 := h (k * 2) (kq_at fieldK (j := 0) hk (by decide))
  rw [field_c0] at h1
  exact h1
theorem field_r1 {w : World} {b o k : Nat} {L : List FieldD} (h : ∀ q, q < L.length * fieldK.m → w.cell? ⟨b, o + q, none⟩ = some (cl fieldK L q)) (hk : k < L.length) : w.cell? ⟨b, o + k * 2 + 1, none⟩ = some (.string (gt fieldK L k).f1) := by
  have h1 := h (k * 2 + 1) (kq_at fieldK (j := 1) hk (by decide))
  rw [field_c1, ← Nat.add_assoc] at h1
  exact h1
theorem Tryd.infoField : (Tryd.prog.info? 33).map (fun i => (i.zero, i.size, i.bytes)) = some (some (.agg #[.string ⟨#[]⟩, .string ⟨#[]⟩]), 2, 32) := by kernel_rfl
/-- one more is put behind -/
theorem pushField (w : World) (base : Nat) (v : Value) (L : List FieldD) (D : FieldD) (hown : Ro fieldK 33 base w v L) (hb : L.length ≤ 1048576) (hbase : base ≤ w.heap.size) :
    ∃ v' w', (Builtin.append_ #[22, 22] 22 #[v, .slice (some ⟨w.heap.size, 0, none⟩) 1 1]).run Tryd.prog (w.alloc (.cells #[.string D.f0, .string D.f1] 33)) = .ok v' w' ∧ Ro fieldK 33 base w' v' (L ++ [D]) ∧ Below base w w' ∧ ∀ q, q < w.heap.size → (∀ g, v.ownBlock = some g → q ≠ g) → w'.heap[q]? = w.heap[q]? := by
  obtain ⟨i0, hi, hz0, hz1, hz2⟩ := info_parts Tryd.infoField
  have hA := (Below.refl w.heap.size w).alloc (Nat.le_refl _) (.cells #[.string D.f0, .string D.f1] 33)
  obtain ⟨v', w', h1, h2, h3, _, h5⟩ := app fieldK (w.alloc (.cells #[.string D.f0, .string D.f1] 33)) 22 22 33 base i0 _ 32 Tryd.underlying22 hi hz0 hz1 hz2 rfl (by decide) v L (hown.below hA) (some ⟨w.heap.size, 0, none⟩) 1 [D] (Or.inr ⟨_, rfl, fun j u hu => by
    have e : ([D] : List FieldD).flatMap fieldK.f = fieldC D := by simp [fieldK]
    rw [e] at hu
    rw [add_none, Nat.zero_add]
    have := (Bx.new w (fieldC D) 33).cv j
    exact this.trans hu⟩) (by simp; omega) (by simp; omega)
  exact ⟨v', w', h1, h2, (hA.mono hbase).trans h3, fun q hq hn => (h5.block q (by simp; omega) (fun e => hn q e.symm rfl)).trans (hA.block q hq)⟩

/-- a row of none, and all of a row put behind it -/
theorem lit0Field (w : World) (base : Nat) (hb : base ≤ w.heap.size) : Ro fieldK 33 base (w.alloc (.cells #[] 33)) (.slice (some ⟨w.heap.size, 0, none⟩) 0 0) [] :=
  World.ownsRow_lit (base := base) (e := 33) (size := 2) w #[] 0 hb (by unfold maxLen; omega) rfl
theorem joinField (w : World) (base : Nat) (v : Value) (L M : List FieldD) (a : Option Addr) (c : Nat) (hown : Ro fieldK 33 base w v L) (h : Rd fieldK w a M) (hb : L.length + M.length ≤ 2097152) (hbase : base ≤ w.heap.size) :
    ∃ v' w', (Builtin.append_ #[22, 22] 22 #[v, .slice a M.length c]).run Tryd.prog w = .ok v' w' ∧ Ro fieldK 33 base w' v' (L ++ M) ∧ Below base w w' ∧ ∀ q, q < w.heap.size → (∀ g, v.ownBlock = some g → q ≠ g) → w'.heap[q]? = w.heap[q]? := by
  obtain ⟨i0, hi, hz0, hz1, hz2⟩ := info_parts Tryd.infoField
  obtain ⟨v', w', h1, h2, h3, _, h5⟩ := app fieldK w 22 22 33 base i0 _ 32 Tryd.underlying22 hi hz0 hz1 hz2 rfl (by decide) v L hown a c M h.sc hb hbase
  exact ⟨v', w', h1, h2, h3, fun q hq hn => h5.block q hq (fun e => hn q e.symm rfl)⟩

/-- one more is put behind, out of a row of one that lies there -/
theorem pushAtField (w : World) (base : Nat) (v : Value) (L : List FieldD) (D : FieldD) (g : Nat) (hg : Bx w g (fieldC D)) (hown : Ro fieldK 33 base w v L) (hb : L.length ≤ 1048576) (hbase : base ≤ w.heap.size) :
    ∃ v' w', (Builtin.append_ #[22, 22] 22 #[v, .slice (some ⟨g, 0, none⟩) 1 1]).run Tryd.prog w = .ok v' w' ∧ Ro fieldK 33 base w' v' (L ++ [D]) ∧ Below base w w' ∧ ∀ q, q < w.heap.size → (∀ g, v.ownBlock = some g → q ≠ g) → w'.heap[q]? = w.heap[q]? := by
  obtain ⟨i0, hi, hz0, hz1, hz2⟩ := info_parts Tryd.infoField
  obtain ⟨v', w', h1, h2, h3, _, h5⟩ := app fieldK w 22 22 33 base i0 _ 32 Tryd.underlying22 hi hz0 hz1 hz2 rfl (by decide) v L hown (some ⟨g, 0, none⟩) 1 [D] (Or.inr ⟨_, rfl, fun j u hu => by
    have e : ([D] : List FieldD).flatMap fieldK.f = fieldC D := by simp [fieldK]
    rw [e] at hu
    rw [add_none, Nat.zero_add]
    exact (hg.cv j).trans hu⟩) (by simp; omega) hbase
  exact ⟨v', w', h1, h2, h3, fun q hq hn => h5.block q hq (fun e => hn q e.symm rfl)⟩

set_option maxHeartbeats 1000000 in
theorem eqField_same (D : FieldD) (w : World) :
    Calls Tryd.prog 19 #[fieldV D, fieldV D] w fun e w' => e = .returned (.bool true) ∧ Below w.heap.size w w' := by
  go_enter Tryd.func19, Tryd.ntmps19
  go_wp2
  go_ret
  exact ⟨rfl, ((Below.refl _ _).alloc (Nat.le_refl _) _).alloc (by simp) _⟩
set_option maxHeartbeats 1000000 in
theorem eqFieldS_same (a a' : Option Addr) (cap cap' : Nat) (L : List FieldD) (w : World) (hN : L.length ≤ 1048576) (h : Rd fieldK w a L) (h' : Rd fieldK w a' L) :
    Calls Tryd.prog 7 #[.slice a L.length cap, .slice a' L.length cap'] w fun e w' => e = .returned (.bool true) ∧ Below w.heap.size w w' := by
  have HR := hide h
  have HR' := hide h'
  clear h h'
  go_enter Tryd.func7, Tryd.ntmps7
  go_wp2
  go_loopw [5] (fun i wr => ∃ k : Nat, k ≤ L.length ∧ i = .int .i64 k ∧ Below w.heap.size w wr) (fun i _ => L.length - (intOf i).toNat)
  case atStart => exact ⟨0, Nat.zero_le _, rfl, Below.refl _ _⟩
  case round =>
    obtain ⟨k, hk, rfl, hbel⟩ := hrel
    by_cases hlt : k < L.length
    · rcases (unhide HR).below hbel with h0 | ⟨b, o, rfl, _, hel⟩
      · rw [h0] at hlt; exact absurd hlt (Nat.not_lt_zero _)
      rcases (unhide HR').below hbel with h0 | ⟨b', o', rfl, _, hel'⟩
      · rw [h0] at hlt; exact absurd hlt (Nat.not_lt_zero _)
      have c0 := field_r0 hel hlt
      have c1 := field_r1 hel hlt
      have d0 := field_r0 hel' hlt
      have d1 := field_r1 hel' hlt
      have HE := hide (eqField_same (gt fieldK L k))
      clear hel hel'
      have hnk : (k : Int) < (L.length : Int) := by omega
      have hk0 : (0 : Int) ≤ (k : Int) := by omega
      go_wp2_with fail
      go_region_with (go_at_call 19; refine (unhide HE _).mono ?_; rintro e w2 ⟨rfl, hb2⟩)
      all_goals
        go_wp2
        exact ⟨⟨k + 1, by omega, by go_num, hbel.drew.trans (hb2.mono hbel.size)⟩, by simp [intOf]; omega⟩
    · go_wp2
      go_ret
      exact ⟨rfl, hbel⟩

/-- what its texts weigh, and those of a row -/
def fieldT (D : FieldD) : Nat := D.f0.size + D.f1.size
def fieldW (L : List FieldD) : Nat := (L.map fieldT).sum
theorem fieldW_take {L : List FieldD} {k : Nat} (h : k < L.length) : fieldW (L.take (k + 1)) = fieldW (L.take k) + fieldT (gt fieldK L k) := by
  have e : L.take (k + 1) = L.take k ++ [gt fieldK L k] := by rw [gt_of fieldK L k h]; exact (List.take_append_getElem h).symm
  unfold fieldW
  rw [e, List.map_append, List.sum_append]
  simp
theorem fieldW_mem {L : List FieldD} {x : FieldD} (h : x ∈ L) : fieldT x ≤ fieldW L := by
  induction L with
  | nil => cases h
  | cons y L ih =>
    unfold fieldW at *
    rw [List.map_cons, List.sum_cons]
    rcases List.mem_cons.1 h with rfl | h
    · omega
    · have := ih h
      omega
/-- what is left of a weight -/
def szPField (left n : Nat) (e : Ending) : Prop := e = .returned (.int .i64 (-1)) ∨ ∃ r : Nat, e = .returned (.int .i64 r) ∧ r + n ≤ left
/-- the marks of a row, from k0 on -/
def fieldM (k0 o : Nat) : Value := if o % 2 = 0 then .string (mtT (k0 + o)) else .string (mtT (k0 + o))
theorem field_m0 (k0 i : Nat) : fieldM k0 (i * 2) = .string (mtT (k0 + i * 2)) := by
  unfold fieldM
  rw [if_pos (show (i * 2) % 2 = 0 by omega)]
theorem field_m1 (k0 i : Nat) : fieldM k0 (i * 2 + 1) = .string (mtT (k0 + i * 2 + 1)) := by
  unfold fieldM
  rw [if_neg (show ¬ (i * 2 + 1) % 2 = 0 by omega)]
  rw [Nat.add_assoc]
set_option maxHeartbeats 4000000 in
theorem markFieldS_any (lb ls : Nat) (a : Option Addr) (cap : Nat) (L : List FieldD) (k0 : Nat) (w : World) (hn : L.length ≤ 1048576) (hk1 : 1 ≤ k0) (hk0 : k0 ≤ 100000000) (h : Ri fieldK lb ls w a L) :
    Calls Tryd.prog 8 #[.slice a L.length cap, .int .i64 k0] w fun e w' => e = .returned (.int .i64 ((k0 + L.length * 2 : Nat) : Int)) ∧ Rm lb ls w' a (L.length * 2) (fieldM k0) ∧ Kq (fun q => lb ≤ q ∧ q < ls) w w' := by
  rcases h with rfl | ⟨g, rfl, hg, h⟩
  · go_enter Tryd.func8, Tryd.ntmps8
    go_wp2
    refine wp_loop_rounds 1 ?_
    rw [rounds_succ]
    go_wp2
    go_ret
    exact ⟨by simp, Or.inl (by simp), Kq.refl _ _⟩
  have H0 : Hid (Rg w g (L.length * 2) (up 0 (fieldM k0) (cl fieldK L))) := Rg.up0 h
  clear h
  go_enter Tryd.func8, Tryd.ntmps8
  go_wp2
  go_loopw [1, 5] (fun kv iv wr => ∃ i : Nat, i ≤ L.length ∧ iv = .int .i64 i ∧ kv = .int .i64 ((k0 + i * 2 : Nat) : Int) ∧ Hid (Rg wr g (L.length * 2) (up (i * 2) (fieldM k0) (cl fieldK L))) ∧ Hid (Kq (fun q => lb ≤ q ∧ q < ls) w wr)) (fun _ iv _ => L.length - (intOf iv).toNat)
  case atStart => exact ⟨0, Nat.zero_le _, rfl, by simp, by simpa using H0, Kq.refl _ _⟩
  case round =>
    obtain ⟨i, hi, rfl, rfl, hG, hK⟩ := hrel
    clear H0
    by_cases hlt : i < L.length
    · have hnk : (i : Int) < (L.length : Int) := by omega
      obtain ⟨kk, hkk⟩ : ∃ kk : Nat, kk = k0 + i * 2 := ⟨_, rfl⟩
      have hkb : kk ≤ 200000000 := by omega
      have T0 := hide (markText_any (kk) (by omega) (by omega))
      have T1 := hide (markText_any (kk + 1) (by omega) (by omega))
      have E0 := hide (field_m0 k0 i)
      rw [← hkk] at E0
      have E1 := hide (field_m1 k0 i)
      rw [← hkk] at E1
      generalize mtT (kk) = t0 at *
      generalize mtT (kk + 1) = t1 at *
      rw [← hkk]
      have HKK := hide hkk
      clear hkk
      have G0 := hG
      have K0 := hK
      clear hG hK
      have c0 := (unhide G0).c (i * 2) (by omega)
      have f0 := (unhide G0).fz (i * 2)
      have c1 := (unhide G0).c (i * 2 + 1) (by omega)
      have f1 := (unhide G0).fz (i * 2 + 1)
      have hgl := (unhide G0).lt
      go_wp2_with fail
      refine (unhide T0 _).mono ?_
      rintro e v0 ⟨rfl, b0⟩
      replace G0 := hide ((unhide G0).below b0)
      replace K0 := hide ((unhide K0).trans (Kq.of b0))
      clear b0 c0 f0 c1 f1 hgl
      have c0 := (unhide G0).c (i * 2) (by omega)
      have f0 := (unhide G0).fz (i * 2)
      have c1 := (unhide G0).c (i * 2 + 1) (by omega)
      have f1 := (unhide G0).fz (i * 2 + 1)
      have hgl := (unhide G0).lt
      have G1 := hide ((unhide G0).mark (c := i * 2) (by omega) (.string t0) (unhide E0))
      have K1 := hide ((unhide K0).set (g := g) (i := i * 2) (u := .string t0) hg)
      go_wp2_with fail
      refine (unhide T1 _).mono ?_
      rintro e v1 ⟨rfl, b1⟩
      replace G1 := hide ((unhide G1).below b1)
      replace K1 := hide ((unhide K1).trans (Kq.of b1))
      clear b1 c1 f1 hgl
      have c1 := (unhide G1).c (i * 2 + 1) (by omega)
      have f1 := (unhide G1).fz (i * 2 + 1)
      have hgl := (unhide G1).lt
      have G2 := hide ((unhide G1).mark (c := i * 2 + 1) (by omega) (.string t1) (unhide E1))
      have K2 := hide ((unhide K1).set (g := g) (i := i * 2 + 1) (u := .string t1) hg)
      go_wp2
      exact ⟨⟨i + 1, by omega, by go_num, by have := unhide HKK; go_num, by have h9 := unhide G2; rw [show i * 2 + 1 + 1 = (i + 1) * 2 by omega] at h9; exact h9, K2⟩, by simp [intOf]; omega⟩
    · obtain rfl : i = L.length := by omega
      have F := hide (And.intro (unhide hG).all (unhide hK))
      clear hG hK
      go_wp2
      go_ret
      exact ⟨rfl, Or.inr ⟨g, rfl, hg, (unhide F).1⟩, (unhide F).2⟩
set_option maxHeartbeats 4000000 in
theorem heldFieldS_any (lb ls : Nat) (a : Option Addr) (n cap k0 : Nat) (w : World) (hn : n ≤ 1048576) (hk1 : 1 ≤ k0) (hk0 : k0 ≤ 100000000) (h : Rm lb ls w a (n * 2) (fieldM k0)) :
    Calls Tryd.prog 9 #[.slice a n cap, .int .i64 k0] w fun e w' => e = .returned (.int .i64 ((k0 + n * 2 : Nat) : Int)) ∧ Below w.heap.size w w' := by
  have HR := hide h
  clear h
  go_enter Tryd.func9, Tryd.ntmps9
  go_wp2
  go_loopw [1, 5] (fun kv iv wr => ∃ i : Nat, i ≤ n ∧ iv = .int .i64 i ∧ kv = .int .i64 ((k0 + i * 2 : Nat) : Int) ∧ Hid (Below w.heap.size w wr)) (fun _ iv _ => n - (intOf iv).toNat)
  case atStart => exact ⟨0, Nat.zero_le _, rfl, by simp, Below.refl _ _⟩
  case round =>
    obtain ⟨i, hi, rfl, rfl, hB⟩ := hrel
    by_cases hlt : i < n
    · rcases (unhide HR).below (unhide hB) with h0 | ⟨g, rfl, _, hG⟩
      · omega
      have hnk : (i : Int) < (n : Int) := by omega
      have hi0 : (0 : Int) ≤ (i : Int) := by omega
      obtain ⟨kk, hkk⟩ : ∃ kk : Nat, kk = k0 + i * 2 := ⟨_, rfl⟩
      have hkb : kk ≤ 200000000 := by omega
      have c0 := hG.c (i * 2) (by omega)
      rw [field_m0, ← hkk] at c0
      have c1 := hG.c (i * 2 + 1) (by omega)
      rw [field_m1, ← hkk] at c1
      have hlb := hG.lt
      have T0 := hide (markText_any (kk) (by omega) (by omega))
      generalize mtT (kk) = t0 at *
      have T1 := hide (markText_any (kk + 1) (by omega) (by omega))
      generalize mtT (kk + 1) = t1 at *
      rw [← hkk]
      have HKK := hide hkk
      clear hkk hG
      go_upto_region 4 with fail
      go_cut [19] (fun x wx => x = .bool false ∧ Hid (Below wr.heap.size wr wx))
      case first =>
        have hcur : Below wr.heap.size wr wr.drew := (Below.refl _ _).drew
        go_region_with (go_at_call 20; refine (unhide T0 _).mono ?_; rintro e w0 ⟨rfl, b0⟩; have hcur := hcur.trans (b0.mono hcur.size); have hc0 := (hcur.cell (p := ⟨g, i * 2, none⟩) hlb).trans c0)
        all_goals
          have HC := hide hcur
          go_wp2
          go_meet
          exact ⟨rfl, HC⟩
      case rest =>
      obtain ⟨rfl, HC⟩ := hcut
      obtain ⟨w5, hw5⟩ : ∃ V, V = wc := ⟨_, rfl⟩
      rw [← hw5] at HC ⊢
      clear hw5
      have c1' := ((unhide HC).cell (p := ⟨g, i * 2 + 1, none⟩) hlb).trans c1
      have hlb' : g < w5.heap.size := Nat.lt_of_lt_of_le hlb (unhide HC).size
      clear c0 c1 hlb
      have HB5 := hide ((unhide hB).trans ((unhide HC).mono (unhide hB).size))
      clear HC
      have hcur : Below w5.heap.size w5 w5.drew := (Below.refl _ _).drew
      go_wp2_with fail
      go_region_with (go_at_call 20; refine (unhide T1 _).mono ?_; rintro e w1 ⟨rfl, b1⟩; have hcur := hcur.trans (b1.mono hcur.size); have hc1 := (hcur.cell (p := ⟨g, i * 2 + 1, none⟩) hlb').trans c1')
      all_goals
        have HB2 := hide ((unhide HB5).trans (hcur.mono (unhide HB5).size))
        go_wp2
        exact ⟨⟨i + 1, by omega, by go_num, by have := unhide HKK; go_num, HB2⟩, by simp [intOf]; omega⟩
    · obtain rfl : i = n := by omega
      go_wp2
      go_ret
      exact ⟨rfl, unhide hB⟩
end Go.Proofs.YtidgjjbdabifnabDoor.Rc
