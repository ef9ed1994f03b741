/-
  Rows of impl.Sent: read, copied by the laws, weighed, held against each other, marked.
-/
import Derived.Test.YtianpcipipdokaaRcs
import Derived.Deep.QuietTactic
import Derived.Deep.RegionWith
import Derived.BigQuiet
namespace Go.Proofs.Ytianpcipipdokaa.Rc
open Go.ChangeShapes Go.WideShapes Go.ChangeAt Go.RowKit Go.Deep
set_option linter.unusedVariables false
set_option maxRecDepth 100000

/-- a record -/
structure SentD where
  f0 : Int
  f1 : Int
  f2 : Int
/-- its cells -/
abbrev sentC (D : SentD) : List Value := [.int .i64 D.f0, .int .i64 D.f1, .int .i64 D.f2]
/-- as a value -/
abbrev sentV (D : SentD) : Value := .agg #[.int .i64 D.f0, .int .i64 D.f1, .int .i64 D.f2]
/-- how it lies in cells -/
def sentK : Kd SentD := ⟨fun D => [.int .i64 D.f0, .int .i64 D.f1, .int .i64 D.f2], 3, ⟨0, 0, 0⟩, fun _ => rfl, by decide, fun x u hu => by
  simp at hu
  rcases hu with rfl | rfl | rfl <;> rfl⟩

theorem sent_c0 (L : List SentD) (k : Nat) : cl sentK L (k * 3) = .int .i64 (gt sentK L k).f0 := cl_at sentK L k 0 (by decide)
theorem sent_c1 (L : List SentD) (k : Nat) : cl sentK L (k * 3 + 1) = .int .i64 (gt sentK L k).f1 := cl_at sentK L k 1 (by decide)
theorem sent_c2 (L : List SentD) (k : Nat) : cl sentK L (k * 3 + 2) = .int .i64 (gt sentK L k).f2 := cl_at sentK L k 2 (by decide)
theorem sent_r0 {w : World} {b o k : Nat} {L : List SentD} (h : ∀ q, q < L.length * sentK.m → w.cell? ⟨b, o + q, none⟩ = some (cl sentK L q)) (hk : k < L.length) : w.cell? ⟨b, o + k * 3, none⟩ = some (.int .i64 (gt sentK L k).f0) := by
  have h1 := h (k * 3) (kq_at sentK (j := 0) hk (by decide))
  rw [sent_c0] at h1
  exact h1
theorem sent_r1 {w : World} {b o k : Nat} {L : List SentD} (h : ∀ q, q < L.length * sentK.m → w.cell? ⟨b, o + q, none⟩ = some (cl sentK L q)) (hk : k < L.length) : w.cell? ⟨b, o + k * 3 + 1, none⟩ = some (.int .i64 (gt sentK L k).f1) := by
  have h1 := h (k * 3 + 1) (kq_at sentK (j := 1) hk (by decide))
  rw [sent_c1, ← Nat.add_assoc] at h1
  exact h1
theorem sent_r2 {w : World} {b o k : Nat} {L : List SentD} (h : ∀ q, q < L.length * sentK.m → w.cell? ⟨b, o + q, none⟩ = some (cl sentK L q)) (hk : k < L.length) : w.cell? ⟨b, o + k * 3 + 2, none⟩ = some (.int .i64 (gt sentK L k).f2) := by
  have h1 := h (k * 3 + 2) (kq_at sentK (j := 2) hk (by decide))
  rw [sent_c2, ← Nat.add_assoc] at h1
  exact h1
theorem Try.infoSent : (Try.prog.info? 52).map (fun i => (i.zero, i.size, i.bytes)) = some (some (.agg #[.int .i64 0, .int .i64 0, .int .i64 0]), 3, 24) := by kernel_rfl
/-- one more is put behind -/
theorem pushSent (w : World) (base : Nat) (v : Value) (L : List SentD) (D : SentD) (hown : Ro sentK 52 base w v L) (hb : L.length ≤ 1048576) (hbase : base ≤ w.heap.size) :
    ∃ v' w', (Builtin.append_ #[30, 30] 30 #[v, .slice (some ⟨w.heap.size, 0, none⟩) 1 1]).run Try.prog (w.alloc (.cells #[.int .i64 D.f0, .int .i64 D.f1, .int .i64 D.f2] 52)) = .ok v' w' ∧ Ro sentK 52 base w' v' (L ++ [D]) ∧ Below base w w' ∧ ∀ q, q < w.heap.size → (∀ g, v.ownBlock = some g → q ≠ g) → w'.heap[q]? = w.heap[q]? := by
  obtain ⟨i0, hi, hz0, hz1, hz2⟩ := info_parts Try.infoSent
  have hA := (Below.refl w.heap.size w).alloc (Nat.le_refl _) (.cells #[.int .i64 D.f0, .int .i64 D.f1, .int .i64 D.f2] 52)
  obtain ⟨v', w', h1, h2, h3, _, h5⟩ := app sentK (w.alloc (.cells #[.int .i64 D.f0, .int .i64 D.f1, .int .i64 D.f2] 52)) 30 30 52 base i0 _ 24 Try.underlying30 hi hz0 hz1 hz2 rfl (by decide) v L (hown.below hA) (some ⟨w.heap.size, 0, none⟩) 1 [D] (Or.inr ⟨_, rfl, fun j u hu => by
    have e : ([D] : List SentD).flatMap sentK.f = sentC D := by simp [sentK]
    rw [e] at hu
    rw [add_none, Nat.zero_add]
    have := (Bx.new w (sentC D) 52).cv j
    exact this.trans hu⟩) (by simp; omega) (by simp; omega)
  exact ⟨v', w', h1, h2, (hA.mono hbase).trans h3, fun q hq hn => (h5.block q (by simp; omega) (fun e => hn q e.symm rfl)).trans (hA.block q hq)⟩

/-- a row of none, and all of a row put behind it -/
theorem lit0Sent (w : World) (base : Nat) (hb : base ≤ w.heap.size) : Ro sentK 52 base (w.alloc (.cells #[] 52)) (.slice (some ⟨w.heap.size, 0, none⟩) 0 0) [] :=
  World.ownsRow_lit (base := base) (e := 52) (size := 3) w #[] 0 hb (by unfold maxLen; omega) rfl
theorem joinSent (w : World) (base : Nat) (v : Value) (L M : List SentD) (a : Option Addr) (c : Nat) (hown : Ro sentK 52 base w v L) (h : Rd sentK w a M) (hb : L.length + M.length ≤ 2097152) (hbase : base ≤ w.heap.size) :
    ∃ v' w', (Builtin.append_ #[30, 30] 30 #[v, .slice a M.length c]).run Try.prog w = .ok v' w' ∧ Ro sentK 52 base w' v' (L ++ M) ∧ Below base w w' ∧ ∀ q, q < w.heap.size → (∀ g, v.ownBlock = some g → q ≠ g) → w'.heap[q]? = w.heap[q]? := by
  obtain ⟨i0, hi, hz0, hz1, hz2⟩ := info_parts Try.infoSent
  obtain ⟨v', w', h1, h2, h3, _, h5⟩ := app sentK w 30 30 52 base i0 _ 24 Try.underlying30 hi hz0 hz1 hz2 rfl (by decide) v L hown a c M h.sc hb hbase
  exact ⟨v', w', h1, h2, h3, fun q hq hn => h5.block q hq (fun e => hn q e.symm rfl)⟩

/-- one more is put behind, out of a row of one that lies there -/
theorem pushAtSent (w : World) (base : Nat) (v : Value) (L : List SentD) (D : SentD) (g : Nat) (hg : Bx w g (sentC D)) (hown : Ro sentK 52 base w v L) (hb : L.length ≤ 1048576) (hbase : base ≤ w.heap.size) :
    ∃ v' w', (Builtin.append_ #[30, 30] 30 #[v, .slice (some ⟨g, 0, none⟩) 1 1]).run Try.prog w = .ok v' w' ∧ Ro sentK 52 base w' v' (L ++ [D]) ∧ Below base w w' ∧ ∀ q, q < w.heap.size → (∀ g, v.ownBlock = some g → q ≠ g) → w'.heap[q]? = w.heap[q]? := by
  obtain ⟨i0, hi, hz0, hz1, hz2⟩ := info_parts Try.infoSent
  obtain ⟨v', w', h1, h2, h3, _, h5⟩ := app sentK w 30 30 52 base i0 _ 24 Try.underlying30 hi hz0 hz1 hz2 rfl (by decide) v L hown (some ⟨g, 0, none⟩) 1 [D] (Or.inr ⟨_, rfl, fun j u hu => by
    have e : ([D] : List SentD).flatMap sentK.f = sentC D := by simp [sentK]
    rw [e] at hu
    rw [add_none, Nat.zero_add]
    exact (hg.cv j).trans hu⟩) (by simp; omega) hbase
  exact ⟨v', w', h1, h2, h3, fun q hq hn => h5.block q hq (fun e => hn q e.symm rfl)⟩

set_option maxHeartbeats 1000000 in
theorem toSent_any (D : SentD) (w : World) : Calls Try.prog 50 #[sentV D] w fun e w' => e = .returned (sentV D) ∧ Below w.heap.size w w' := by
  go_enter Try.func50, Try.ntmps50
  go_wp2
  refine bodyPost_ret (v := sentV D) (by simp [results, Try.results50, go_sem]) rfl ⟨rfl, ?_⟩
  exact (((Below.refl _ _).alloc (Nat.le_refl _) _).alloc (by simp) _).alloc (by simp; omega) _
set_option maxHeartbeats 1000000 in
theorem toSentS_any (a : Option Addr) (cap : Nat) (L : List SentD) (w : World) (hN : L.length ≤ 1048576) (h : Rd sentK w a L) :
    Calls Try.prog 26 #[.slice a L.length cap] w fun e w' => ∃ g, e = .returned (.slice (some ⟨g, 0, none⟩) L.length L.length) ∧ Ri sentK w.heap.size w'.heap.size w' (some ⟨g, 0, none⟩) L ∧ Below w.heap.size w w' := by
  obtain ⟨i0, hi, hz0, hz1, hz2⟩ := info_parts Try.infoSent
  obtain ⟨w1, hmk, hown, hgr⟩ := run_make_full (P := Try.prog) w w.heap.size 30 52 i0 _ 3 Try.underlying30 hi hz0 hz1 .i64 .i64 L.length (by rw [hz2]; omega) (by unfold maxLen; omega) (Nat.le_refl _)
  have HM : Hid (Mk sentK w w1 L 0) := by
    refine ⟨(Below.refl _ _).grown hgr (Nat.le_refl _) (fun k hk => by cases hk), (hown.lt w.heap.size rfl).2, fun j hj => by omega, fun o ho => ?_, fun o => hown.frozenAt o⟩
    change o < L.length * 3 at ho
    rw [hown.cellAt o (by omega)]; simp [madeCells]; omega
  clear hown hgr hi hz0 hz1 hz2
  have HR := hide h
  clear h
  go_enter Try.func26, Try.ntmps26
  go_wp2
  go_loopw [4] (fun i wr => ∃ k : Nat, k ≤ L.length ∧ i = .int .i64 k ∧ Mk sentK w wr L (k * 3)) (fun i _ => L.length - (intOf i).toNat)
  case atStart => exact ⟨0, Nat.zero_le _, rfl, by simpa using unhide HM⟩
  case round =>
    obtain ⟨k, hk, rfl, hmr⟩ := hrel
    by_cases hlt : k < L.length
    · rcases (unhide HR).below hmr.bel with h0 | ⟨b, off, rfl, _, hel⟩
      · rw [h0] at hlt; exact absurd hlt (Nat.not_lt_zero _)
      have c0 := sent_r0 hel hlt
      have c1 := sent_r1 hel hlt
      have c2 := sent_r2 hel hlt
      clear hel
      have HT := hide (toSent_any (gt sentK L k))
      have HM2 := hide hmr
      clear hmr HM
      go_wp2_with fail
      refine (unhide HT _).mono ?_
      rintro e w2 ⟨rfl, hb2⟩
      have hm2 := (unhide HM2).below hb2
      obtain ⟨v0, e0⟩ := Option.isSome_iff_exists.1 (hm2.rm (k * 3) (kq_at sentK (j := 0) hlt (by decide)))
      have f0 := hm2.fz (k * 3)
      obtain ⟨v1, e1⟩ := Option.isSome_iff_exists.1 (hm2.rm (k * 3 + 1) (kq_at sentK (j := 1) hlt (by decide)))
      have f1 := hm2.fz (k * 3 + 1)
      obtain ⟨v2, e2⟩ := Option.isSome_iff_exists.1 (hm2.rm (k * 3 + 2) (kq_at sentK (j := 2) hlt (by decide)))
      have f2 := hm2.fz (k * 3 + 2)
      have hs2 := hm2.lt
      have M0 := hide hm2
      have M1 := hide ((unhide M0).step (kq_at sentK (j := 0) hlt (by decide)) (.int .i64 (gt sentK L k).f0) (sent_c0 L k))
      have M2 := hide ((unhide M1).step (kq_at sentK (j := 1) hlt (by decide)) (.int .i64 (gt sentK L k).f1) (sent_c1 L k))
      have M3 := hide ((unhide M2).step (kq_at sentK (j := 2) hlt (by decide)) (.int .i64 (gt sentK L k).f2) (sent_c2 L k))
      clear hm2 hb2
      go_wp2
      exact ⟨⟨k + 1, by omega, by go_num, by have h9 := unhide M3; rwa [show k * 3 + 1 + 1 + 1 = (k + 1) * 3 by omega] at h9⟩, by simp [intOf]; omega⟩
    · obtain rfl : k = L.length := by omega
      have HA := hide hmr
      clear hmr
      go_wp2
      go_ret
      exact ⟨_, rfl, (unhide HA).ri, (unhide HA).bel⟩
set_option maxHeartbeats 1000000 in
theorem eqSent_same (D : SentD) (w : World) :
    Calls Try.prog 61 #[sentV D, sentV D] w fun e w' => e = .returned (.bool true) ∧ Below w.heap.size w w' := by
  go_enter Try.func61, Try.ntmps61
  go_wp2
  go_ret
  exact ⟨rfl, ((Below.refl _ _).alloc (Nat.le_refl _) _).alloc (by simp) _⟩
set_option maxHeartbeats 1000000 in
theorem eqSentS_same (a a' : Option Addr) (cap cap' : Nat) (L : List SentD) (w : World) (hN : L.length ≤ 1048576) (h : Rd sentK w a L) (h' : Rd sentK w a' L) :
    Calls Try.prog 41 #[.slice a L.length cap, .slice a' L.length cap'] w fun e w' => e = .returned (.bool true) ∧ Below w.heap.size w w' := by
  have HR := hide h
  have HR' := hide h'
  clear h h'
  go_enter Try.func41, Try.ntmps41
  go_wp2
  go_loopw [5] (fun i wr => ∃ k : Nat, k ≤ L.length ∧ i = .int .i64 k ∧ Below w.heap.size w wr) (fun i _ => L.length - (intOf i).toNat)
  case atStart => exact ⟨0, Nat.zero_le _, rfl, Below.refl _ _⟩
  case round =>
    obtain ⟨k, hk, rfl, hbel⟩ := hrel
    by_cases hlt : k < L.length
    · rcases (unhide HR).below hbel with h0 | ⟨b, o, rfl, _, hel⟩
      · rw [h0] at hlt; exact absurd hlt (Nat.not_lt_zero _)
      rcases (unhide HR').below hbel with h0 | ⟨b', o', rfl, _, hel'⟩
      · rw [h0] at hlt; exact absurd hlt (Nat.not_lt_zero _)
      have c0 := sent_r0 hel hlt
      have c1 := sent_r1 hel hlt
      have c2 := sent_r2 hel hlt
      have d0 := sent_r0 hel' hlt
      have d1 := sent_r1 hel' hlt
      have d2 := sent_r2 hel' hlt
      have HE := hide (eqSent_same (gt sentK L k))
      clear hel hel'
      have hnk : (k : Int) < (L.length : Int) := by omega
      have hk0 : (0 : Int) ≤ (k : Int) := by omega
      go_wp2_with fail
      go_region_with (go_at_call 61; refine (unhide HE _).mono ?_; rintro e w2 ⟨rfl, hb2⟩)
      all_goals
        go_wp2
        exact ⟨⟨k + 1, by omega, by go_num, hbel.drew.trans (hb2.mono hbel.size)⟩, by simp [intOf]; omega⟩
    · go_wp2
      go_ret
      exact ⟨rfl, hbel⟩
theorem szSentS_any (a : Option Addr) (n cap left : Nat) (w : World) (hn : n ≤ maxLen) (hl : left ≤ 1048576) :
    Calls Try.prog 18 #[.slice a n cap, .int .i64 left] w fun e w' => szQ left n e ∧ w' = w := by
  unfold maxLen at hn
  by_cases h : n ≤ left
  · have e1 : IntKind.i64.wrap ((left : Int) - (n : Int)) = (left : Int) - (n : Int) := by rw [IntKind.wrap_i64]; omega
    have e2 : ¬ (left : Int) - (n : Int) < 0 := by omega
    have H3 := hide h
    clear h
    go_enter Try.func18, Try.ntmps18
    go_wp2
    go_ret
    exact ⟨Or.inr ⟨left - n, by rw [Int.ofNat_sub (unhide H3)]; rfl, by omega, unhide H3⟩, rfl⟩
  · have e1 : IntKind.i64.wrap ((left : Int) - (n : Int)) = (left : Int) - (n : Int) := by rw [IntKind.wrap_i64]; omega
    have e2 : (left : Int) - (n : Int) < 0 := by omega
    clear h
    go_enter Try.func18, Try.ntmps18
    go_wp2
    go_ret
    exact ⟨Or.inl rfl, rfl⟩
/-- the marks of a row, from k0 on -/
def sentM (k0 o : Nat) : Value := .int .i64 ((k0 + o : Nat) : Int)
set_option maxHeartbeats 2000000 in
theorem markSentS_any (lb ls : Nat) (a : Option Addr) (cap : Nat) (L : List SentD) (k0 : Nat) (w : World) (hn : L.length ≤ 1048576) (hk0 : k0 ≤ 100000000) (h : Ri sentK lb ls w a L) :
    Calls Try.prog 44 #[.slice a L.length cap, .int .i64 k0] w fun e w' => e = .returned (.int .i64 ((k0 + L.length * 3 : Nat) : Int)) ∧ Rm lb ls w' a (L.length * 3) (sentM k0) ∧ Kq (fun q => lb ≤ q ∧ q < ls) w w' := by
  rcases h with rfl | ⟨g, rfl, hg, h⟩
  · go_enter Try.func44, Try.ntmps44
    go_wp2
    refine wp_loop_rounds 1 ?_
    rw [rounds_succ]
    go_wp2
    go_ret
    exact ⟨by simp, Or.inl (by simp), Kq.refl _ _⟩
  have H0 : Hid (Rg w g (L.length * 3) (up 0 (sentM k0) (cl sentK L))) := Rg.up0 h
  clear h
  go_enter Try.func44, Try.ntmps44
  go_wp2
  go_loopw [1, 5] (fun kv iv wr => ∃ i : Nat, i ≤ L.length ∧ iv = .int .i64 i ∧ kv = .int .i64 ((k0 + i * 3 : Nat) : Int) ∧ Rg wr g (L.length * 3) (up (i * 3) (sentM k0) (cl sentK L)) ∧ Kq (fun q => lb ≤ q ∧ q < ls) w wr) (fun _ iv _ => L.length - (intOf iv).toNat)
  case atStart => exact ⟨0, Nat.zero_le _, rfl, by simp, by simpa using unhide H0, Kq.refl _ _⟩
  case round =>
    obtain ⟨i, hi, rfl, rfl, hG, hK⟩ := hrel
    clear H0
    by_cases hlt : i < L.length
    · have hnk : (i : Int) < (L.length : Int) := by omega
      obtain ⟨kk, hkk⟩ : ∃ kk : Nat, kk = k0 + i * 3 := ⟨_, rfl⟩
      have hkb : kk ≤ 200000000 := by omega
      have c0 := hG.c (i * 3) (by omega)
      have f0 := hG.fz (i * 3)
      have c1 := hG.c (i * 3 + 1) (by omega)
      have f1 := hG.fz (i * 3 + 1)
      have c2 := hG.c (i * 3 + 2) (by omega)
      have f2 := hG.fz (i * 3 + 2)
      have hgl := hG.lt
      have G0 := hide hG
      have G1 := hide ((unhide G0).mark (c := i * 3) (by omega) (.int .i64 ((kk : Nat) : Int)) (by rw [hkk]; rfl))
      have G2 := hide ((unhide G1).mark (c := i * 3 + 1) (by omega) (.int .i64 ((kk + 1 : Nat) : Int)) (by rw [hkk]; rfl))
      have G3 := hide ((unhide G2).mark (c := i * 3 + 2) (by omega) (.int .i64 ((kk + 2 : Nat) : Int)) (by rw [hkk]; rfl))
      have HG3 := hide (unhide G3)
      have HK := hide (((hK.set (g := g) (i := i * 3) (u := .int .i64 ((kk : Nat) : Int)) hg).set (g := g) (i := i * 3 + 1) (u := .int .i64 ((kk + 1 : Nat) : Int)) hg).set (g := g) (i := i * 3 + 2) (u := .int .i64 ((kk + 2 : Nat) : Int)) hg)
      rw [← hkk]
      have HKK := hide hkk
      clear hkk hG hK G0 G1 G2 G3
      go_wp2
      exact ⟨⟨i + 1, by omega, by go_num, by have := unhide HKK; go_num, by have h9 := unhide HG3; rw [show i * 3 + 1 + 1 + 1 = (i + 1) * 3 by omega] at h9; exact h9, unhide HK⟩, by simp [intOf]; omega⟩
    · obtain rfl : i = L.length := by omega
      have F := hide (And.intro hG.all hK)
      clear hG hK
      go_wp2
      go_ret
      exact ⟨rfl, Or.inr ⟨g, rfl, hg, (unhide F).1⟩, (unhide F).2⟩
set_option maxHeartbeats 2000000 in
theorem heldSentS_any (lb ls : Nat) (a : Option Addr) (n cap k0 : Nat) (w : World) (hn : n ≤ 1048576) (hk0 : k0 ≤ 100000000) (h : Rm lb ls w a (n * 3) (sentM k0)) :
    Calls Try.prog 45 #[.slice a n cap, .int .i64 k0] w fun e w' => e = .returned (.int .i64 ((k0 + n * 3 : Nat) : Int)) ∧ Below w.heap.size w w' := by
  have HR := hide h
  clear h
  go_enter Try.func45, Try.ntmps45
  go_wp2
  go_loopw [1, 5] (fun kv iv wr => ∃ i : Nat, i ≤ n ∧ iv = .int .i64 i ∧ kv = .int .i64 ((k0 + i * 3 : Nat) : Int) ∧ Below w.heap.size w wr) (fun _ iv _ => n - (intOf iv).toNat)
  case atStart => exact ⟨0, Nat.zero_le _, rfl, by simp, Below.refl _ _⟩
  case round =>
    obtain ⟨i, hi, rfl, rfl, hB⟩ := hrel
    by_cases hlt : i < n
    · rcases (unhide HR).below hB with h0 | ⟨g, rfl, _, hG⟩
      · omega
      have hnk : (i : Int) < (n : Int) := by omega
      have hi0 : (0 : Int) ≤ (i : Int) := by omega
      have hlb := hG.lt
      obtain ⟨kk, hkk⟩ : ∃ kk : Nat, kk = k0 + i * 3 := ⟨_, rfl⟩
      have hkb : kk ≤ 200000000 := by omega
      have c0 : wr.cell? ⟨g, i * 3, none⟩ = some (.int .i64 ((kk : Int))) := by rw [hkk]; exact hG.c (i * 3) (by omega)
      have c1 : wr.cell? ⟨g, i * 3 + 1, none⟩ = some (.int .i64 ((kk : Int) + 1)) := by rw [hkk]; exact hG.c (i * 3 + 1) (by omega)
      have c2 : wr.cell? ⟨g, i * 3 + 2, none⟩ = some (.int .i64 ((kk : Int) + 2)) := by rw [hkk]; exact hG.c (i * 3 + 2) (by omega)
      rw [← hkk]
      have HKK := hide hkk
      have HB := hide hB
      clear hkk hG hB
      go_wp2_with fail
      go_wp2
      exact ⟨⟨i + 1, by omega, by go_num, by have := unhide HKK; go_num, unhide HB⟩, by simp [intOf]; omega⟩
    · obtain rfl : i = n := by omega
      go_wp2
      go_ret
      exact ⟨rfl, hB⟩
end Go.Proofs.Ytianpcipipdokaa.Rc
