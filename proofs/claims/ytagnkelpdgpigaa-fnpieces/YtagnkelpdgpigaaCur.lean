/-
  Contracts: what the model draws with: a cursor over bytes.
-/
import Derived.Test.YtagnkelpdgpigaaBase
import Derived.WalkKit
import Derived.ProofKit
import Derived.Deep.QuietTactic
import Derived.Deep.RegionWith
import Derived.BigQuiet
namespace Go.Proofs.Ytagnkelpdgpigaa
open Go.ChangeShapes Go.WideShapes Go.ChangeAt Go.RowKit
set_option linter.unusedVariables false

/-- Bytes that came in. -/
def Cd (w : World) (a : Option Addr) (N : Nat) : Prop :=
  N = 0 ∨ ∃ b off, a = some ⟨b, off, none⟩ ∧ b < w.heap.size ∧ ∀ i, i < N → ∃ x : Nat, x < 256 ∧ w.cell? ⟨b, off + i, none⟩ = some (.int .u8 (x : Int))
theorem Cd.below {w w' : World} {a : Option Addr} {N : Nat} (h : Cd w a N) (hb : Below w.heap.size w w') : Cd w' a N := by
  rcases h with h | ⟨b, off, e, hl, h⟩
  · exact Or.inl h
  · refine Or.inr ⟨b, off, e, Nat.lt_of_lt_of_le hl hb.size, fun i hi => ?_⟩
    obtain ⟨x, h1, h2⟩ := h i hi
    exact ⟨x, h1, (hb.cell (p := ⟨b, off + i, none⟩) hl).trans h2⟩
/-- All but one block is as it was. -/
structure Kx (cb : Nat) (w w' : World) : Prop where
  os : w'.os = w.os
  tape : w'.tape = w.tape
  output : w'.output = w.output
  size : w.heap.size ≤ w'.heap.size
  block : ∀ k, k < w.heap.size → k ≠ cb → w'.heap[k]? = w.heap[k]?
theorem Kx.refl (cb : Nat) (w : World) : Kx cb w w := ⟨rfl, rfl, rfl, Nat.le_refl _, fun _ _ _ => rfl⟩
theorem Kx.trans {cb : Nat} {a b c : World} (h : Kx cb a b) (k : Kx cb b c) : Kx cb a c :=
  ⟨k.os.trans h.os, k.tape.trans h.tape, k.output.trans h.output, Nat.le_trans h.size k.size, fun i hi hne => (k.block i (Nat.lt_of_lt_of_le hi h.size) hne).trans (h.block i hi hne)⟩
theorem Kx.alloc {cb : Nat} {a w : World} (h : Kx cb a w) (o : Obj) : Kx cb a (w.alloc o) :=
  h.trans ⟨rfl, rfl, rfl, by simp, fun k hk _ => Below.heap_alloc _ _ _ hk⟩
theorem Kx.drew {cb : Nat} {a w : World} (h : Kx cb a w) : Kx cb a w.drew := h.trans ⟨rfl, rfl, rfl, Nat.le_refl _, fun _ _ _ => rfl⟩
theorem Kx.set {cb : Nat} {a w : World} (h : Kx cb a w) (o : Nat) (u : Value) : Kx cb a (w.setCell ⟨cb, o, none⟩ u) :=
  h.trans ⟨rfl, rfl, rfl, by simp [World.setCell], fun k _ hne => Below.heap_setCell _ _ _ _ (by simpa using hne)⟩
theorem Kx.below {cb B : Nat} {w w' : World} (h : Kx cb w w') (h1 : B ≤ cb) (h2 : B ≤ w.heap.size) : Below B w w' :=
  ⟨h.os, h.tape, h.output, h.size, fun k hk => h.block k (by omega) (by omega)⟩
theorem Kx.cell {cb : Nat} {w w' : World} (h : Kx cb w w') {p : Addr} (h1 : p.block < w.heap.size) (h2 : p.block ≠ cb) : w'.cell? p = w.cell? p := World.cell?_of_block (w := w) (h.block p.block h1 h2)
/-- The cursor at cb: its bytes, where it is (P at most), what it mixes. -/
structure Cu (w : World) (cb : Nat) (a : Option Addr) (N cap P : Nat) : Prop where
  lt : cb < w.heap.size
  c0 : w.cell? ⟨cb, 0, none⟩ = some (.slice a N cap)
  c1 : ∃ p : Nat, p ≤ P ∧ w.cell? ⟨cb, 1, none⟩ = some (.int .i64 (p : Int))
  c2 : ∃ s : Int, 0 ≤ s ∧ s < 18446744073709551616 ∧ w.cell? ⟨cb, 2, none⟩ = some (.int .u64 s)
  fz : ∀ o, w.frozen? ⟨cb, o, none⟩ = false
  cd : N = 0 ∨ ∃ b off, a = some ⟨b, off, none⟩ ∧ b < w.heap.size ∧ b ≠ cb ∧ ∀ i, i < N → ∃ x : Nat, x < 256 ∧ w.cell? ⟨b, off + i, none⟩ = some (.int .u8 (x : Int))
theorem Cu.same {w w' : World} {cb : Nat} {a : Option Addr} {N cap P : Nat} (h : Cu w cb a N cap P) (hb : Below w.heap.size w w') : Cu w' cb a N cap P := by
  obtain ⟨hc, hf⟩ := bcell hb
  refine ⟨Nat.lt_of_lt_of_le h.lt hb.size, (hc _ _ h.lt).trans h.c0, ?_, ?_, fun o => (hf _ _ h.lt).trans (h.fz o), ?_⟩
  · obtain ⟨p, h1, h2⟩ := h.c1
    exact ⟨p, h1, (hc _ _ h.lt).trans h2⟩
  · obtain ⟨s, h1, h2, h3⟩ := h.c2
    exact ⟨s, h1, h2, (hc _ _ h.lt).trans h3⟩
  · rcases h.cd with h0 | ⟨b, off, e, hl, hne, h⟩
    · exact Or.inl h0
    · refine Or.inr ⟨b, off, e, Nat.lt_of_lt_of_le hl hb.size, hne, fun i hi => ?_⟩
      obtain ⟨x, h1, h2⟩ := h i hi
      exact ⟨x, h1, (hc _ _ hl).trans h2⟩
theorem Cu.mono {w : World} {cb : Nat} {a : Option Addr} {N cap P Q : Nat} (h : Cu w cb a N cap P) (hq : P ≤ Q) : Cu w cb a N cap Q := by
  obtain ⟨p, h1, h2⟩ := h.c1
  exact ⟨h.lt, h.c0, ⟨p, Nat.le_trans h1 hq, h2⟩, h.c2, h.fz, h.cd⟩
theorem Cu.put {w : World} {cb : Nat} {a : Option Addr} {N cap P p : Nat} {s : Int} (h : Cu w cb a N cap P) (hp : p ≤ P) (hs0 : 0 ≤ s) (hs1 : s < 18446744073709551616) :
    Cu ((w.setCell ⟨cb, 1, none⟩ (.int .i64 ((p : Int) + 1))).setCell ⟨cb, 2, none⟩ (.int .u64 s)) cb a N cap (P + 1) := by
  obtain ⟨q, _, h1⟩ := h.c1
  obtain ⟨s', _, _, h2⟩ := h.c2
  refine ⟨by simpa using h.lt, ?_, ⟨p + 1, by omega, ?_⟩, ⟨s, hs0, hs1, ?_⟩, fun o => by simp [h.fz], ?_⟩
  · rw [World.cell?_setCell_other _ _ _ _ (by simp), World.cell?_setCell_other _ _ _ _ (by simp)]; exact h.c0
  · rw [World.cell?_setCell_other _ _ _ _ (by simp), World.cell?_setCell_same _ _ _ h1]; simp
  · exact World.cell?_setCell_same _ _ _ (u := .int .u64 s') (by rw [World.cell?_setCell_other _ _ _ _ (by simp)]; exact h2)
  · rcases h.cd with h0 | ⟨b, off, e, hl, hne, h⟩
    · exact Or.inl h0
    · refine Or.inr ⟨b, off, e, by simpa using hl, hne, fun i hi => ?_⟩
      obtain ⟨x, h1, h2⟩ := h i hi
      refine ⟨x, h1, ?_⟩
      rw [World.cell?_setCell_other _ _ _ _ (by intro e; simp at e <;> omega), World.cell?_setCell_other _ _ _ _ (by intro e; simp at e <;> omega)]; exact h2
theorem Kx.of {cb : Nat} {w w' : World} (h : Below w.heap.size w w') : Kx cb w w' := ⟨h.os, h.tape, h.output, h.size, fun k hk _ => h.block k hk⟩
theorem bdr (w : World) (n : Nat) : Below w.heap.size w (w.drewN n) := below_drewN (Below.refl _ _) n
theorem u64_in (x : Int) : 0 ≤ IntKind.u64.wrap x ∧ IntKind.u64.wrap x < 18446744073709551616 := by rw [IntKind.wrap_u64]; omega
theorem and255 (x : Int) (h0 : 0 ≤ x) (h1 : x < 18446744073709551616) : bits .and .u64 x 255 = x % 256 := by
  first | go_bits2 | exact bits_mask .u64 64 (by decide) (fun n a b => by rw [IntKind.wrap_u64]; omega) 8 (by decide) x h0 h1
theorem top_in (x : Int) : 0 ≤ wrap64 (bits .and .u64 (IntKind.u64.wrap x / 1099511627776) 255) ∧ wrap64 (bits .and .u64 (IntKind.u64.wrap x / 1099511627776) 255) < 256 := by
  have h := u64_in x
  rw [and255 _ (by omega) (by omega)]
  rw [show wrap64 (IntKind.u64.wrap x / 1099511627776 % 256) = IntKind.u64.wrap x / 1099511627776 % 256 by unfold wrap64; omega]
  omega

set_option maxHeartbeats 1000000 in
theorem next_any (cb : Nat) (a : Option Addr) (N cap P : Nat) (w : World) (hN : N ≤ 1048576) (hP : P ≤ 1000000) (h : Cu w cb a N cap P) :
    Calls Try.prog 24 #[.pointer (some ⟨cb, 0, none⟩)] w fun e w' => ∃ r : Int, e = .returned (.int .i64 r) ∧ 0 ≤ r ∧ r < 256 ∧ Cu w' cb a N cap (P + 1) ∧ Kx cb w w' := by
  have HU := hide h
  obtain ⟨hlt, c0, ⟨p, hp, c1⟩, ⟨s, hs0, hs1, c2⟩, fz, cd⟩ := h
  have f1 := fz 1
  have f2 := fz 2
  have HF := hide fz
  have HC := hide cd
  clear fz cd
  by_cases hpn : p < N
  · have hpi : (p : Int) < (N : Int) := by omega
    rcases unhide HC with h0 | ⟨b, off, rfl, hbl, hne, hx⟩
    · omega
    obtain ⟨x, hx1, hx2⟩ := hx p hpn
    clear hx
    go_enter Try.func24, Try.ntmps24
    go_wp2
    go_quiet (fail)
    go_wp2
    go_quiet (fail)
    go_wp2
    go_quiet (fail)
    go_wp2
    go_ret
    exact ⟨x, rfl, by omega, by omega, (((unhide HU).same (bdr _ _)).put hp (u64_in _).1 (u64_in _).2).same (bdr _ _), (((Kx.of (bdr _ _)).set 1 _).set 2 _).trans (Kx.of (bdr _ _))⟩
  · have hpi : ¬ (p : Int) < (N : Int) := by omega
    clear HC
    go_enter Try.func24, Try.ntmps24
    go_wp2
    go_quiet (fail)
    go_wp2
    go_quiet (fail)
    go_wp2
    go_ret
    exact ⟨_, rfl, (top_in _).1, (top_in _).2, (((unhide HU).same (bdr _ _)).put hp (u64_in _).1 (u64_in _).2).same (bdr _ _), (((Kx.of (bdr _ _)).set 1 _).set 2 _).trans (Kx.of (bdr _ _))⟩

set_option maxHeartbeats 1000000 in
theorem pick_any (cb : Nat) (a : Option Addr) (N cap P : Nat) (n : Int) (w : World) (hN : N ≤ 1048576) (hP : P ≤ 900000) (h0 : 1 < n) (h1 : n ≤ 60000) (h : Cu w cb a N cap P) :
    Calls Try.prog 11 #[.pointer (some ⟨cb, 0, none⟩), .int .i64 n] w fun e w' => ∃ r : Int, e = .returned (.int .i64 r) ∧ 0 ≤ r ∧ r < n ∧ Cu w' cb a N cap (P + 2) ∧ Kx cb w w' := by
  have HU := hide h
  clear h
  by_cases hb : n ≤ 200
  · go_enter Try.func11, Try.ntmps11
    go_wp2_with fail
    refine (next_any cb a N cap P _ hN (by omega) (unhide HU)).mono ?_
    rintro e w1 ⟨r, rfl, hr0, hr1, u1, k1⟩
    go_wp2
    go_ret
    exact ⟨_, rfl, Int.emod_nonneg _ (by omega), Int.emod_lt_of_pos _ (by omega), u1.mono (by omega), k1⟩
  · go_enter Try.func11, Try.ntmps11
    go_wp2_with fail
    refine (next_any cb a N cap P _ hN (by omega) (unhide HU)).mono ?_
    rintro e w1 ⟨r, rfl, hr0, hr1, u1, k1⟩
    have HU1 := hide u1
    clear u1
    go_wp2_with fail
    refine (next_any cb a N cap (P + 1) _ hN (by omega) (unhide HU1)).mono ?_
    rintro e w2 ⟨r2, rfl, hs0, hs1, u2, k2⟩
    go_wp2
    go_ret
    exact ⟨_, rfl, Int.emod_nonneg _ (by omega), Int.emod_lt_of_pos _ (by omega), u2, k1.trans k2⟩

theorem one_any (cb : Nat) (a : Option Addr) (N cap P : Nat) (n : Int) (w : World) (hN : N ≤ 1048576) (hP : P ≤ 900000) (h0 : 1 < n) (h1 : n ≤ 60000) (h : Cu w cb a N cap P) :
    Calls Try.prog 23 #[.pointer (some ⟨cb, 0, none⟩), .int .i64 n] w fun e w' => ∃ r : Bool, e = .returned (.bool r) ∧ Cu w' cb a N cap (P + 2) ∧ Kx cb w w' := by
  have HU := hide h
  clear h
  go_enter Try.func23, Try.ntmps23
  go_wp2_with fail
  refine (pick_any cb a N cap P n _ hN hP h0 h1 (unhide HU)).mono ?_
  rintro e w1 ⟨r, rfl, hr0, hr1, u1, k1⟩
  go_wp2
  go_ret
  exact ⟨_, rfl, u1, k1⟩

theorem and62 (n : Int) : bits .and .i64 n 4611686018427387903 = n % 4611686018427387904 := by
  have h62 : (BitVec.ofInt 64 4611686018427387903).toNat = 2 ^ 62 - 1 := by decide
  have key : (BitVec.ofInt 64 n &&& BitVec.ofInt 64 4611686018427387903).toNat = (n % ((2 ^ 64 : Nat) : Int)).toNat % 2 ^ 62 := by
    rw [BitVec.toNat_and, BitVec.toNat_ofInt, h62, Nat.and_two_pow_sub_one_eq_mod]
  show IntKind.i64.wrap ((BitVec.ofInt 64 n &&& BitVec.ofInt 64 4611686018427387903).toNat : Nat) = n % 4611686018427387904
  rw [key, IntKind.wrap_i64]
  omega
theorem lit_cells (w : World) (l : List Int) (t : TypeId) (p : Int → Prop) (h : ∀ x ∈ l, p x) : ∀ i, i < l.length → ∃ x, p x ∧ (w.alloc (.cells (l.map (Value.int .i64)).toArray t)).cell? ⟨w.heap.size, i, none⟩ = some (.int .i64 x) := by
  intro i hi
  refine ⟨l[i], h _ (List.getElem_mem hi), ?_⟩
  simp [hi]
theorem Cu.alloc {w : World} {cb : Nat} {a : Option Addr} {N cap P : Nat} (h : Cu w cb a N cap P) (o : Obj) : Cu (w.alloc o) cb a N cap P := h.same ((Below.refl _ _).alloc (Nat.le_refl _) _)

theorem cu_first {w : World} {a : Option Addr} {N : Nat} (cap : Nat) (t : TypeId) (h : Cd w a N) : Cu (w.alloc (.cells #[.slice a N cap, .int .i64 0, .int .u64 0] t)) w.heap.size a N cap 0 := by
  refine ⟨by simp, by simp, ⟨0, Nat.le_refl _, by simp⟩, ⟨0, by omega, by omega, by simp⟩, fun o => by simp, ?_⟩
  rcases h with h0 | ⟨b, off, e, hl, h⟩
  · exact Or.inl h0
  · refine Or.inr ⟨b, off, e, by simp; omega, by omega, fun i hi => ?_⟩
    obtain ⟨x, h1, h2⟩ := h i hi
    exact ⟨x, h1, (((Below.refl w.heap.size w).alloc (Nat.le_refl _) _).cell (p := ⟨b, off + i, none⟩) hl).trans h2⟩
theorem Kx.draw {w w' : World} {o : Obj} (h : Kx w.heap.size (w.alloc o) w') : Below w.heap.size w w' :=
  ((Below.refl _ _).alloc (Nat.le_refl _) _).trans (h.below (Nat.le_refl _) (by simp))

end Go.Proofs.Ytagnkelpdgpigaa
