/-
  Rows of impl.Capsule: read, copied by the laws, weighed, held against each other, marked.
-/
import Derived.Test.YtgieglpjkjncfaaDoorRcs
import Derived.Test.YtgieglpjkjncfaaDoorStx
import Derived.Deep.QuietTactic
import Derived.Deep.RegionWith
import Derived.BigQuiet
namespace Go.Proofs.YtgieglpjkjncfaaDoor.Rc
open Go.ChangeShapes Go.WideShapes Go.ChangeAt Go.RowKit Go.Deep
set_option linter.unusedVariables false
set_option maxRecDepth 100000

/-- a record -/
structure CapsuleD where
  f0 : Int
  f1 : ByteArray
/-- its cells -/
abbrev capsuleC (D : CapsuleD) : List Value := [.int .i64 D.f0, .string D.f1]
/-- as a value -/
abbrev capsuleV (D : CapsuleD) : Value := .agg #[.int .i64 D.f0, .string D.f1]
/-- how it lies in cells -/
def capsuleK : Kd CapsuleD := ⟨fun D => [.int .i64 D.f0, .string D.f1], 2, ⟨0, ⟨#[]⟩⟩, fun _ => rfl, by decide, fun x u hu => by
  simp at hu
  rcases hu with rfl | rfl <;> rfl⟩

theorem capsule_c0 (L : List CapsuleD) (k : Nat) : cl capsuleK L (k * 2) = .int .i64 (gt capsuleK L k).f0 := cl_at capsuleK L k 0 (by decide)
theorem capsule_c1 (L : List CapsuleD) (k : Nat) : cl capsuleK L (k * 2 + 1) = .string (gt capsuleK L k).f1 := cl_at capsuleK L k 1 (by decide)
theorem capsule_r0 {w : World} {b o k : Nat} {L : List CapsuleD} (h : ∀ q, q < L.length * capsuleK.m → w.cell? ⟨b, o + q, none⟩ = some (cl capsuleK L q)) (hk : k < L.length) : w.cell? ⟨b, o + k * 2, none⟩ = some (.int .i64 (gt capsuleK L k).f0) := by
  have h1 := h (k * 2) (kq_at capsuleK (j := 0) hk (by decide))
  rw [capsule_c0] at h1
  exact h1
theorem capsule_r1 {w : World} {b o k : Nat} {L : List CapsuleD} (h : ∀ q, q < L.length * capsuleK.m → w.cell? ⟨b, o + q, none⟩ = some (cl capsuleK L q)) (hk : k < L.length) : w.cell? ⟨b, o + k * 2 + 1, none⟩ = some (.string (gt capsuleK L k).f1) := by
  have h1 := h (k * 2 + 1) (kq_at capsuleK (j := 1) hk (by decide))
  rw [capsule_c1, ← Nat.add_assoc] at h1
  exact h1
theorem Tryd.infoCapsule : (Tryd.prog.info? 42).map (fun i => (i.zero, i.size, i.bytes)) = some (some (.agg #[.int .i64 0, .string ⟨#[]⟩]), 2, 24) := by kernel_rfl
/-- one more is put behind -/
theorem pushCapsule (w : World) (base : Nat) (v : Value) (L : List CapsuleD) (D : CapsuleD) (hown : Ro capsuleK 42 base w v L) (hb : L.length ≤ 1048576) (hbase : base ≤ w.heap.size) :
    ∃ v' w', (Builtin.append_ #[26, 26] 26 #[v, .slice (some ⟨w.heap.size, 0, none⟩) 1 1]).run Tryd.prog (w.alloc (.cells #[.int .i64 D.f0, .string D.f1] 42)) = .ok v' w' ∧ Ro capsuleK 42 base w' v' (L ++ [D]) ∧ Below base w w' ∧ ∀ q, q < w.heap.size → (∀ g, v.ownBlock = some g → q ≠ g) → w'.heap[q]? = w.heap[q]? := by
  obtain ⟨i0, hi, hz0, hz1, hz2⟩ := info_parts Tryd.infoCapsule
  have hA := (Below.refl w.heap.size w).alloc (Nat.le_refl _) (.cells #[.int .i64 D.f0, .string D.f1] 42)
  obtain ⟨v', w', h1, h2, h3, _, h5⟩ := app capsuleK (w.alloc (.cells #[.int .i64 D.f0, .string D.f1] 42)) 26 26 42 base i0 _ 24 Tryd.underlying26 hi hz0 hz1 hz2 rfl (by decide) v L (hown.below hA) (some ⟨w.heap.size, 0, none⟩) 1 [D] (Or.inr ⟨_, rfl, fun j u hu => by
    have e : ([D] : List CapsuleD).flatMap capsuleK.f = capsuleC D := by simp [capsuleK]
    rw [e] at hu
    rw [add_none, Nat.zero_add]
    have := (Bx.new w (capsuleC D) 42).cv j
    exact this.trans hu⟩) (by simp; omega) (by simp; omega)
  exact ⟨v', w', h1, h2, (hA.mono hbase).trans h3, fun q hq hn => (h5.block q (by simp; omega) (fun e => hn q e.symm rfl)).trans (hA.block q hq)⟩

/-- a row of none, and all of a row put behind it -/
theorem lit0Capsule (w : World) (base : Nat) (hb : base ≤ w.heap.size) : Ro capsuleK 42 base (w.alloc (.cells #[] 42)) (.slice (some ⟨w.heap.size, 0, none⟩) 0 0) [] :=
  World.ownsRow_lit (base := base) (e := 42) (size := 2) w #[] 0 hb (by unfold maxLen; omega) rfl
theorem joinCapsule (w : World) (base : Nat) (v : Value) (L M : List CapsuleD) (a : Option Addr) (c : Nat) (hown : Ro capsuleK 42 base w v L) (h : Rd capsuleK w a M) (hb : L.length + M.length ≤ 2097152) (hbase : base ≤ w.heap.size) :
    ∃ v' w', (Builtin.append_ #[26, 26] 26 #[v, .slice a M.length c]).run Tryd.prog w = .ok v' w' ∧ Ro capsuleK 42 base w' v' (L ++ M) ∧ Below base w w' ∧ ∀ q, q < w.heap.size → (∀ g, v.ownBlock = some g → q ≠ g) → w'.heap[q]? = w.heap[q]? := by
  obtain ⟨i0, hi, hz0, hz1, hz2⟩ := info_parts Tryd.infoCapsule
  obtain ⟨v', w', h1, h2, h3, _, h5⟩ := app capsuleK w 26 26 42 base i0 _ 24 Tryd.underlying26 hi hz0 hz1 hz2 rfl (by decide) v L hown a c M h.sc hb hbase
  exact ⟨v', w', h1, h2, h3, fun q hq hn => h5.block q hq (fun e => hn q e.symm rfl)⟩

/-- one more is put behind, out of a row of one that lies there -/
theorem pushAtCapsule (w : World) (base : Nat) (v : Value) (L : List CapsuleD) (D : CapsuleD) (g : Nat) (hg : Bx w g (capsuleC D)) (hown : Ro capsuleK 42 base w v L) (hb : L.length ≤ 1048576) (hbase : base ≤ w.heap.size) :
    ∃ v' w', (Builtin.append_ #[26, 26] 26 #[v, .slice (some ⟨g, 0, none⟩) 1 1]).run Tryd.prog w = .ok v' w' ∧ Ro capsuleK 42 base w' v' (L ++ [D]) ∧ Below base w w' ∧ ∀ q, q < w.heap.size → (∀ g, v.ownBlock = some g → q ≠ g) → w'.heap[q]? = w.heap[q]? := by
  obtain ⟨i0, hi, hz0, hz1, hz2⟩ := info_parts Tryd.infoCapsule
  obtain ⟨v', w', h1, h2, h3, _, h5⟩ := app capsuleK w 26 26 42 base i0 _ 24 Tryd.underlying26 hi hz0 hz1 hz2 rfl (by decide) v L hown (some ⟨g, 0, none⟩) 1 [D] (Or.inr ⟨_, rfl, fun j u hu => by
    have e : ([D] : List CapsuleD).flatMap capsuleK.f = capsuleC D := by simp [capsuleK]
    rw [e] at hu
    rw [add_none, Nat.zero_add]
    exact (hg.cv j).trans hu⟩) (by simp; omega) hbase
  exact ⟨v', w', h1, h2, h3, fun q hq hn => h5.block q hq (fun e => hn q e.symm rfl)⟩

set_option maxHeartbeats 1000000 in
theorem toCapsule_any (D : CapsuleD) (w : World) : Calls Tryd.prog 17 #[capsuleV D] w fun e w' => e = .returned (capsuleV D) ∧ Below w.heap.size w w' := by
  go_enter Tryd.func17, Tryd.ntmps17
  go_wp2
  refine bodyPost_ret (v := capsuleV D) (by simp [results, Tryd.results17, go_sem]) rfl ⟨rfl, ?_⟩
  exact (((Below.refl _ _).alloc (Nat.le_refl _) _).alloc (by simp) _).alloc (by simp; omega) _
set_option maxHeartbeats 1000000 in
theorem toCapsuleS_any (a : Option Addr) (cap : Nat) (L : List CapsuleD) (w : World) (hN : L.length ≤ 1048576) (h : Rd capsuleK w a L) :
    Calls Tryd.prog 7 #[.slice a L.length cap] w fun e w' => ∃ g, e = .returned (.slice (some ⟨g, 0, none⟩) L.length L.length) ∧ Ri capsuleK w.heap.size w'.heap.size w' (some ⟨g, 0, none⟩) L ∧ Below w.heap.size w w' := by
  obtain ⟨i0, hi, hz0, hz1, hz2⟩ := info_parts Tryd.infoCapsule
  obtain ⟨w1, hmk, hown, hgr⟩ := run_make_full (P := Tryd.prog) w w.heap.size 26 42 i0 _ 2 Tryd.underlying26 hi hz0 hz1 .i64 .i64 L.length (by rw [hz2]; omega) (by unfold maxLen; omega) (Nat.le_refl _)
  have HM : Hid (Mk capsuleK w w1 L 0) := by
    refine ⟨(Below.refl _ _).grown hgr (Nat.le_refl _) (fun k hk => by cases hk), (hown.lt w.heap.size rfl).2, fun j hj => by omega, fun o ho => ?_, fun o => hown.frozenAt o⟩
    change o < L.length * 2 at ho
    rw [hown.cellAt o (by omega)]; simp [madeCells]; omega
  clear hown hgr hi hz0 hz1 hz2
  have HR := hide h
  clear h
  go_enter Tryd.func7, Tryd.ntmps7
  go_wp2
  go_loopw [4] (fun i wr => ∃ k : Nat, k ≤ L.length ∧ i = .int .i64 k ∧ Mk capsuleK w wr L (k * 2)) (fun i _ => L.length - (intOf i).toNat)
  case atStart => exact ⟨0, Nat.zero_le _, rfl, by simpa using unhide HM⟩
  case round =>
    obtain ⟨k, hk, rfl, hmr⟩ := hrel
    by_cases hlt : k < L.length
    · rcases (unhide HR).below hmr.bel with h0 | ⟨b, off, rfl, _, hel⟩
      · rw [h0] at hlt; exact absurd hlt (Nat.not_lt_zero _)
      have c0 := capsule_r0 hel hlt
      have c1 := capsule_r1 hel hlt
      clear hel
      have HT := hide (toCapsule_any (gt capsuleK L k))
      have HM2 := hide hmr
      clear hmr HM
      go_wp2_with fail
      refine (unhide HT _).mono ?_
      rintro e w2 ⟨rfl, hb2⟩
      have hm2 := (unhide HM2).below hb2
      obtain ⟨v0, e0⟩ := Option.isSome_iff_exists.1 (hm2.rm (k * 2) (kq_at capsuleK (j := 0) hlt (by decide)))
      have f0 := hm2.fz (k * 2)
      obtain ⟨v1, e1⟩ := Option.isSome_iff_exists.1 (hm2.rm (k * 2 + 1) (kq_at capsuleK (j := 1) hlt (by decide)))
      have f1 := hm2.fz (k * 2 + 1)
      have hs2 := hm2.lt
      have M0 := hide hm2
      have M1 := hide ((unhide M0).step (kq_at capsuleK (j := 0) hlt (by decide)) (.int .i64 (gt capsuleK L k).f0) (capsule_c0 L k))
      have M2 := hide ((unhide M1).step (kq_at capsuleK (j := 1) hlt (by decide)) (.string (gt capsuleK L k).f1) (capsule_c1 L k))
      clear hm2 hb2
      go_wp2
      exact ⟨⟨k + 1, by omega, by go_num, by have h9 := unhide M2; rwa [show k * 2 + 1 + 1 = (k + 1) * 2 by omega] at h9⟩, by simp [intOf]; omega⟩
    · obtain rfl : k = L.length := by omega
      have HA := hide hmr
      clear hmr
      go_wp2
      go_ret
      exact ⟨_, rfl, (unhide HA).ri, (unhide HA).bel⟩
set_option maxHeartbeats 1000000 in
theorem eqCapsule_same (D : CapsuleD) (w : World) :
    Calls Tryd.prog 21 #[capsuleV D, capsuleV D] w fun e w' => e = .returned (.bool true) ∧ Below w.heap.size w w' := by
  go_enter Tryd.func21, Tryd.ntmps21
  go_wp2
  go_ret
  exact ⟨rfl, ((Below.refl _ _).alloc (Nat.le_refl _) _).alloc (by simp) _⟩
set_option maxHeartbeats 1000000 in
theorem eqCapsuleS_same (a a' : Option Addr) (cap cap' : Nat) (L : List CapsuleD) (w : World) (hN : L.length ≤ 1048576) (h : Rd capsuleK w a L) (h' : Rd capsuleK w a' L) :
    Calls Tryd.prog 9 #[.slice a L.length cap, .slice a' L.length cap'] w fun e w' => e = .returned (.bool true) ∧ Below w.heap.size w w' := by
  have HR := hide h
  have HR' := hide h'
  clear h h'
  go_enter Tryd.func9, Tryd.ntmps9
  go_wp2
  go_loopw [5] (fun i wr => ∃ k : Nat, k ≤ L.length ∧ i = .int .i64 k ∧ Below w.heap.size w wr) (fun i _ => L.length - (intOf i).toNat)
  case atStart => exact ⟨0, Nat.zero_le _, rfl, Below.refl _ _⟩
  case round =>
    obtain ⟨k, hk, rfl, hbel⟩ := hrel
    by_cases hlt : k < L.length
    · rcases (unhide HR).below hbel with h0 | ⟨b, o, rfl, _, hel⟩
      · rw [h0] at hlt; exact absurd hlt (Nat.not_lt_zero _)
      rcases (unhide HR').below hbel with h0 | ⟨b', o', rfl, _, hel'⟩
      · rw [h0] at hlt; exact absurd hlt (Nat.not_lt_zero _)
      have c0 := capsule_r0 hel hlt
      have c1 := capsule_r1 hel hlt
      have d0 := capsule_r0 hel' hlt
      have d1 := capsule_r1 hel' hlt
      have HE := hide (eqCapsule_same (gt capsuleK L k))
      clear hel hel'
      have hnk : (k : Int) < (L.length : Int) := by omega
      have hk0 : (0 : Int) ≤ (k : Int) := by omega
      go_wp2_with fail
      go_region_with (go_at_call 21; refine (unhide HE _).mono ?_; rintro e w2 ⟨rfl, hb2⟩)
      all_goals
        go_wp2
        exact ⟨⟨k + 1, by omega, by go_num, hbel.drew.trans (hb2.mono hbel.size)⟩, by simp [intOf]; omega⟩
    · go_wp2
      go_ret
      exact ⟨rfl, hbel⟩

/-- what its texts weigh, and those of a row -/
def capsuleT (D : CapsuleD) : Nat := D.f1.size
def capsuleW (L : List CapsuleD) : Nat := (L.map capsuleT).sum
theorem capsuleW_take {L : List CapsuleD} {k : Nat} (h : k < L.length) : capsuleW (L.take (k + 1)) = capsuleW (L.take k) + capsuleT (gt capsuleK L k) := by
  have e : L.take (k + 1) = L.take k ++ [gt capsuleK L k] := by rw [gt_of capsuleK L k h]; exact (List.take_append_getElem h).symm
  unfold capsuleW
  rw [e, List.map_append, List.sum_append]
  simp
theorem capsuleW_mem {L : List CapsuleD} {x : CapsuleD} (h : x ∈ L) : capsuleT x ≤ capsuleW L := by
  induction L with
  | nil => cases h
  | cons y L ih =>
    unfold capsuleW at *
    rw [List.map_cons, List.sum_cons]
    rcases List.mem_cons.1 h with rfl | h
    · omega
    · have := ih h
      omega
/-- what is left of a weight -/
def szPCapsule (left n : Nat) (e : Ending) : Prop := e = .returned (.int .i64 (-1)) ∨ ∃ r : Nat, e = .returned (.int .i64 r) ∧ r + n ≤ left
set_option maxHeartbeats 1000000 in
theorem szCapsule_any (D : CapsuleD) (left : Nat) (w : World) (hs1 : D.f1.size ≤ maxLen) (hl : left ≤ 1048576) : Calls Tryd.prog 14 #[capsuleV D, .int .i64 left] w fun e w' => szPCapsule left (capsuleT D) e ∧ Below w.heap.size w w' := by
  have B0 := hide ((Below.refl w.heap.size w).alloc (Nat.le_refl _) (.cells (capsuleC D).toArray 39))
  have HT : Hid (capsuleT D = D.f1.size) := rfl
  unfold maxLen at *
  obtain ⟨f0, f1⟩ := D
  dsimp only at *
  have w1 : IntKind.i64.wrap ((left : Int) - (f1.size : Int)) = (left : Int) - (f1.size : Int) := by rw [IntKind.wrap_i64]; omega
  by_cases h1 : (left : Int) - (f1.size : Int) < 0
  · go_enter Tryd.func14, Tryd.ntmps14
    go_wp2
    go_ret
    exact ⟨Or.inl rfl, unhide B0⟩
  go_enter Tryd.func14, Tryd.ntmps14
  go_wp2
  go_ret
  refine ⟨Or.inr ⟨left - f1.size, ?_, ?_⟩, unhide B0⟩
  · rw [show ((left - f1.size : Nat) : Int) = (left : Int) - (f1.size : Int) by omega]
    rfl
  · rw [unhide HT]
    omega
set_option maxHeartbeats 2000000 in
theorem szCapsuleS_any (a : Option Addr) (cap left : Nat) (L : List CapsuleD) (w : World) (hn : L.length ≤ maxLen) (hz : ∀ i, i < L.length → (gt capsuleK L i).f1.size ≤ maxLen) (hl : left ≤ 1048576) (h : Rd capsuleK w a L) :
    Calls Tryd.prog 5 #[.slice a L.length cap, .int .i64 left] w fun e w' => szPCapsule left (L.length + capsuleW L) e ∧ Below w.heap.size w w' := by
  unfold maxLen at hn
  have e1 : IntKind.i64.wrap ((left : Int) - (L.length : Int)) = (left : Int) - (L.length : Int) := by rw [IntKind.wrap_i64]; omega
  by_cases h0 : L.length ≤ left
  · have e2 : ¬ (left : Int) - (L.length : Int) < 0 := by omega
    have HR := hide h
    have HZ := hide hz
    have e3 : (left : Int) - (L.length : Int) = ((left - L.length : Nat) : Int) := by omega
    have S0 := hide (show (left - L.length) + (L.length + capsuleW (L.take 0)) ≤ left by show (left - L.length) + (L.length + 0) ≤ left; omega)
    have hln : L.length ≤ 1048576 := by omega
    clear h hz
    obtain ⟨l0, hl0⟩ : ∃ l0 : Nat, l0 = left - L.length := ⟨_, rfl⟩
    rw [← hl0] at S0 e3
    rw [e3] at e2
    replace e1 : IntKind.i64.wrap ((left : Int) - (L.length : Int)) = (l0 : Int) := by rw [e1]; exact e3
    have hl1 : l0 ≤ left := by omega
    clear e3 hl0
    go_enter Tryd.func5, Tryd.ntmps5
    go_wp2
    go_loopw [1, 5] (fun lv iv wr => ∃ (k r : Nat), k ≤ L.length ∧ iv = .int .i64 k ∧ lv = .int .i64 r ∧ r ≤ left ∧ Hid (r + (L.length + capsuleW (L.take k)) ≤ left) ∧ Hid (Below w.heap.size w wr)) (fun _ iv _ => L.length - (intOf iv).toNat)
    case atStart => exact ⟨0, l0, Nat.zero_le _, rfl, rfl, hl1, S0, Below.refl _ _⟩
    case round =>
      obtain ⟨k, r, hk, rfl, rfl, hr, hs, hB⟩ := hrel
      clear S0
      by_cases hlt : k < L.length
      · rcases (unhide HR).below (unhide hB) with h9 | ⟨b, o, rfl, _, hel⟩
        · rw [h9] at hlt; exact absurd hlt (Nat.not_lt_zero _)
        have c0 := capsule_r0 hel hlt
        have c1 := capsule_r1 hel hlt
        have zz := unhide HZ k hlt
        have HS := hide (fun W => szCapsule_any (gt capsuleK L k) r W zz (by omega))
        have hW := hide (capsuleW_take hlt)
        have hnk : (k : Int) < (L.length : Int) := by omega
        have hk0 : (0 : Int) ≤ (k : Int) := by omega
        clear hel zz
        go_wp2_with fail
        refine (unhide HS _).mono ?_
        rintro e w2 ⟨he, b2⟩
        have HB2 := hide ((unhide hB).trans (b2.mono (unhide hB).size))
        clear b2
        rcases he with rfl | ⟨r2, rfl, h2⟩
        · go_wp2
          go_ret
          exact ⟨Or.inl rfl, unhide HB2⟩
        · have hr2 : ¬ (r2 : Int) < 0 := by omega
          have HS2 : Hid (r2 + (L.length + capsuleW (L.take (k + 1))) ≤ left) := by have h1 := unhide hs; show _ ≤ _; rw [unhide hW]; omega
          have hr3 : r2 ≤ left := by omega
          clear h2 hs hW
          go_wp2
          exact ⟨⟨k + 1, r2, by omega, by go_num, rfl, hr3, HS2, HB2⟩, by simp [intOf]; omega⟩
      · obtain rfl : k = L.length := by omega
        rw [List.take_length] at hs
        go_wp2
        go_ret
        exact ⟨Or.inr ⟨r, rfl, unhide hs⟩, unhide hB⟩
  · have e2 : (left : Int) - (L.length : Int) < 0 := by omega
    clear h hz
    go_enter Tryd.func5, Tryd.ntmps5
    go_wp2
    go_ret
    exact ⟨Or.inl rfl, Below.refl _ _⟩
/-- the marks of a row, from k0 on -/
def capsuleM (k0 o : Nat) : Value := if o % 2 = 0 then .int .i64 ((k0 + o : Nat) : Int) else .string (mtT (k0 + o))
theorem capsule_m0 (k0 i : Nat) : capsuleM k0 (i * 2) = .int .i64 ((k0 + i * 2 : Nat) : Int) := by
  unfold capsuleM
  rw [if_pos (show (i * 2) % 2 = 0 by omega)]
theorem capsule_m1 (k0 i : Nat) : capsuleM k0 (i * 2 + 1) = .string (mtT (k0 + i * 2 + 1)) := by
  unfold capsuleM
  rw [if_neg (show ¬ (i * 2 + 1) % 2 = 0 by omega)]
  rw [Nat.add_assoc]
end Go.Proofs.YtgieglpjkjncfaaDoor.Rc
