/-
  Contracts: what the model draws with: a cursor over bytes. Contracts: bytes and texts that the model draws. Contracts: secrets, infos, numbers and ids that the model draws; a number of bytes. Contracts: keys, blocks and texts that the model draws for AES. Contracts: what is drawn to be sealed. Contracts: what is drawn to be minted. How bytes that are handed to a law read.
-/
import Derived.Test.YtkpodgeinanceaaBase
import Derived.WalkKit
import Derived.ProofKit
import Derived.Deep.QuietTactic
import Derived.Deep.RegionWith
import Derived.BigQuiet
import Derived.Test.YtkpodgeinanceaaArs
import Derived.Laws.Concat
import Derived.Test.YtkpodgeinanceaaMnt
import Derived.Test.YtkpodgeinanceaaBxsX
import Derived.SizedLaws
import Derived.Deep.Slices
import Derived.Lib.SmallJoins
namespace Go.Proofs.Ytkpodgeinanceaa
open Go.ChangeShapes Go.WideShapes Go.ChangeAt Go.RowKit
set_option linter.unusedVariables false

/-- Bytes that came in. -/
def Cd (w : World) (a : Option Addr) (N : Nat) : Prop :=
  N = 0 ∨ ∃ b off, a = some ⟨b, off, none⟩ ∧ b < w.heap.size ∧ ∀ i, i < N → ∃ x : Nat, x < 256 ∧ w.cell? ⟨b, off + i, none⟩ = some (.int .u8 (x : Int))
theorem Cd.below {w w' : World} {a : Option Addr} {N : Nat} (h : Cd w a N) (hb : Below w.heap.size w w') : Cd w' a N := by
  rcases h with h | ⟨b, off, e, hl, h⟩
  · exact Or.inl h
  · refine Or.inr ⟨b, off, e, Nat.lt_of_lt_of_le hl hb.size, fun i hi => ?_⟩
    obtain ⟨x, h1, h2⟩ := h i hi
    exact ⟨x, h1, (hb.cell (p := ⟨b, off + i, none⟩) hl).trans h2⟩
/-- All but one block is as it was. -/
structure Kx (cb : Nat) (w w' : World) : Prop where
  os : w'.os = w.os
  tape : w'.tape = w.tape
  output : w'.output = w.output
  size : w.heap.size ≤ w'.heap.size
  block : ∀ k, k < w.heap.size → k ≠ cb → w'.heap[k]? = w.heap[k]?
theorem Kx.refl (cb : Nat) (w : World) : Kx cb w w := ⟨rfl, rfl, rfl, Nat.le_refl _, fun _ _ _ => rfl⟩
theorem Kx.trans {cb : Nat} {a b c : World} (h : Kx cb a b) (k : Kx cb b c) : Kx cb a c :=
  ⟨k.os.trans h.os, k.tape.trans h.tape, k.output.trans h.output, Nat.le_trans h.size k.size, fun i hi hne => (k.block i (Nat.lt_of_lt_of_le hi h.size) hne).trans (h.block i hi hne)⟩
theorem Kx.alloc {cb : Nat} {a w : World} (h : Kx cb a w) (o : Obj) : Kx cb a (w.alloc o) :=
  h.trans ⟨rfl, rfl, rfl, by simp, fun k hk _ => Below.heap_alloc _ _ _ hk⟩
theorem Kx.drew {cb : Nat} {a w : World} (h : Kx cb a w) : Kx cb a w.drew := h.trans ⟨rfl, rfl, rfl, Nat.le_refl _, fun _ _ _ => rfl⟩
theorem Kx.set {cb : Nat} {a w : World} (h : Kx cb a w) (o : Nat) (u : Value) : Kx cb a (w.setCell ⟨cb, o, none⟩ u) :=
  h.trans ⟨rfl, rfl, rfl, by simp [World.setCell], fun k _ hne => Below.heap_setCell _ _ _ _ (by simpa using hne)⟩
theorem Kx.below {cb B : Nat} {w w' : World} (h : Kx cb w w') (h1 : B ≤ cb) (h2 : B ≤ w.heap.size) : Below B w w' :=
  ⟨h.os, h.tape, h.output, h.size, fun k hk => h.block k (by omega) (by omega)⟩
theorem Kx.cell {cb : Nat} {w w' : World} (h : Kx cb w w') {p : Addr} (h1 : p.block < w.heap.size) (h2 : p.block ≠ cb) : w'.cell? p = w.cell? p := World.cell?_of_block (w := w) (h.block p.block h1 h2)
/-- The cursor at cb: its bytes, where it is (P at most), what it mixes. -/
structure Cu (w : World) (cb : Nat) (a : Option Addr) (N cap P : Nat) : Prop where
  lt : cb < w.heap.size
  c0 : w.cell? ⟨cb, 0, none⟩ = some (.slice a N cap)
  c1 : ∃ p : Nat, p ≤ P ∧ w.cell? ⟨cb, 1, none⟩ = some (.int .i64 (p : Int))
  c2 : ∃ s : Int, 0 ≤ s ∧ s < 18446744073709551616 ∧ w.cell? ⟨cb, 2, none⟩ = some (.int .u64 s)
  fz : ∀ o, w.frozen? ⟨cb, o, none⟩ = false
  cd : N = 0 ∨ ∃ b off, a = some ⟨b, off, none⟩ ∧ b < w.heap.size ∧ b ≠ cb ∧ ∀ i, i < N → ∃ x : Nat, x < 256 ∧ w.cell? ⟨b, off + i, none⟩ = some (.int .u8 (x : Int))
theorem Cu.same {w w' : World} {cb : Nat} {a : Option Addr} {N cap P : Nat} (h : Cu w cb a N cap P) (hb : Below w.heap.size w w') : Cu w' cb a N cap P := by
  obtain ⟨hc, hf⟩ := bcell hb
  refine ⟨Nat.lt_of_lt_of_le h.lt hb.size, (hc _ _ h.lt).trans h.c0, ?_, ?_, fun o => (hf _ _ h.lt).trans (h.fz o), ?_⟩
  · obtain ⟨p, h1, h2⟩ := h.c1
    exact ⟨p, h1, (hc _ _ h.lt).trans h2⟩
  · obtain ⟨s, h1, h2, h3⟩ := h.c2
    exact ⟨s, h1, h2, (hc _ _ h.lt).trans h3⟩
  · rcases h.cd with h0 | ⟨b, off, e, hl, hne, h⟩
    · exact Or.inl h0
    · refine Or.inr ⟨b, off, e, Nat.lt_of_lt_of_le hl hb.size, hne, fun i hi => ?_⟩
      obtain ⟨x, h1, h2⟩ := h i hi
      exact ⟨x, h1, (hc _ _ hl).trans h2⟩
theorem Cu.mono {w : World} {cb : Nat} {a : Option Addr} {N cap P Q : Nat} (h : Cu w cb a N cap P) (hq : P ≤ Q) : Cu w cb a N cap Q := by
  obtain ⟨p, h1, h2⟩ := h.c1
  exact ⟨h.lt, h.c0, ⟨p, Nat.le_trans h1 hq, h2⟩, h.c2, h.fz, h.cd⟩
theorem Cu.put {w : World} {cb : Nat} {a : Option Addr} {N cap P p : Nat} {s : Int} (h : Cu w cb a N cap P) (hp : p ≤ P) (hs0 : 0 ≤ s) (hs1 : s < 18446744073709551616) :
    Cu ((w.setCell ⟨cb, 1, none⟩ (.int .i64 ((p : Int) + 1))).setCell ⟨cb, 2, none⟩ (.int .u64 s)) cb a N cap (P + 1) := by
  obtain ⟨q, _, h1⟩ := h.c1
  obtain ⟨s', _, _, h2⟩ := h.c2
  refine ⟨by simpa using h.lt, ?_, ⟨p + 1, by omega, ?_⟩, ⟨s, hs0, hs1, ?_⟩, fun o => by simp [h.fz], ?_⟩
  · rw [World.cell?_setCell_other _ _ _ _ (by simp), World.cell?_setCell_other _ _ _ _ (by simp)]; exact h.c0
  · rw [World.cell?_setCell_other _ _ _ _ (by simp), World.cell?_setCell_same _ _ _ h1]; simp
  · exact World.cell?_setCell_same _ _ _ (u := .int .u64 s') (by rw [World.cell?_setCell_other _ _ _ _ (by simp)]; exact h2)
  · rcases h.cd with h0 | ⟨b, off, e, hl, hne, h⟩
    · exact Or.inl h0
    · refine Or.inr ⟨b, off, e, by simpa using hl, hne, fun i hi => ?_⟩
      obtain ⟨x, h1, h2⟩ := h i hi
      refine ⟨x, h1, ?_⟩
      rw [World.cell?_setCell_other _ _ _ _ (by intro e; simp at e <;> omega), World.cell?_setCell_other _ _ _ _ (by intro e; simp at e <;> omega)]; exact h2
theorem Kx.of {cb : Nat} {w w' : World} (h : Below w.heap.size w w') : Kx cb w w' := ⟨h.os, h.tape, h.output, h.size, fun k hk _ => h.block k hk⟩
theorem bdr (w : World) (n : Nat) : Below w.heap.size w (w.drewN n) := below_drewN (Below.refl _ _) n
theorem u64_in (x : Int) : 0 ≤ IntKind.u64.wrap x ∧ IntKind.u64.wrap x < 18446744073709551616 := by rw [IntKind.wrap_u64]; omega
theorem and255 (x : Int) (h0 : 0 ≤ x) (h1 : x < 18446744073709551616) : bits .and .u64 x 255 = x % 256 := by
  first | go_bits2 | exact bits_mask .u64 64 (by decide) (fun n a b => by rw [IntKind.wrap_u64]; omega) 8 (by decide) x h0 h1
theorem top_in (x : Int) : 0 ≤ wrap64 (bits .and .u64 (IntKind.u64.wrap x / 1099511627776) 255) ∧ wrap64 (bits .and .u64 (IntKind.u64.wrap x / 1099511627776) 255) < 256 := by
  have h := u64_in x
  rw [and255 _ (by omega) (by omega)]
  rw [show wrap64 (IntKind.u64.wrap x / 1099511627776 % 256) = IntKind.u64.wrap x / 1099511627776 % 256 by unfold wrap64; omega]
  omega

set_option maxHeartbeats 1000000 in
theorem next_any (cb : Nat) (a : Option Addr) (N cap P : Nat) (w : World) (hN : N ≤ 1048576) (hP : P ≤ 1000000) (h : Cu w cb a N cap P) :
    Calls Try.prog 64 #[.pointer (some ⟨cb, 0, none⟩)] w fun e w' => ∃ r : Int, e = .returned (.int .i64 r) ∧ 0 ≤ r ∧ r < 256 ∧ Cu w' cb a N cap (P + 1) ∧ Kx cb w w' := by
  have HU := hide h
  obtain ⟨hlt, c0, ⟨p, hp, c1⟩, ⟨s, hs0, hs1, c2⟩, fz, cd⟩ := h
  have f1 := fz 1
  have f2 := fz 2
  have HF := hide fz
  have HC := hide cd
  clear fz cd
  by_cases hpn : p < N
  · have hpi : (p : Int) < (N : Int) := by omega
    rcases unhide HC with h0 | ⟨b, off, rfl, hbl, hne, hx⟩
    · omega
    obtain ⟨x, hx1, hx2⟩ := hx p hpn
    clear hx
    go_enter Try.func64, Try.ntmps64
    go_wp2
    go_quiet (fail)
    go_wp2
    go_quiet (fail)
    go_wp2
    go_quiet (fail)
    go_wp2
    go_ret
    exact ⟨x, rfl, by omega, by omega, (((unhide HU).same (bdr _ _)).put hp (u64_in _).1 (u64_in _).2).same (bdr _ _), (((Kx.of (bdr _ _)).set 1 _).set 2 _).trans (Kx.of (bdr _ _))⟩
  · have hpi : ¬ (p : Int) < (N : Int) := by omega
    clear HC
    go_enter Try.func64, Try.ntmps64
    go_wp2
    go_quiet (fail)
    go_wp2
    go_quiet (fail)
    go_wp2
    go_ret
    exact ⟨_, rfl, (top_in _).1, (top_in _).2, (((unhide HU).same (bdr _ _)).put hp (u64_in _).1 (u64_in _).2).same (bdr _ _), (((Kx.of (bdr _ _)).set 1 _).set 2 _).trans (Kx.of (bdr _ _))⟩

set_option maxHeartbeats 1000000 in
theorem pick_any (cb : Nat) (a : Option Addr) (N cap P : Nat) (n : Int) (w : World) (hN : N ≤ 1048576) (hP : P ≤ 900000) (h0 : 1 < n) (h1 : n ≤ 60000) (h : Cu w cb a N cap P) :
    Calls Try.prog 47 #[.pointer (some ⟨cb, 0, none⟩), .int .i64 n] w fun e w' => ∃ r : Int, e = .returned (.int .i64 r) ∧ 0 ≤ r ∧ r < n ∧ Cu w' cb a N cap (P + 2) ∧ Kx cb w w' := by
  have HU := hide h
  clear h
  by_cases hb : n ≤ 200
  · go_enter Try.func47, Try.ntmps47
    go_wp2_with fail
    refine (next_any cb a N cap P _ hN (by omega) (unhide HU)).mono ?_
    rintro e w1 ⟨r, rfl, hr0, hr1, u1, k1⟩
    go_wp2
    go_ret
    exact ⟨_, rfl, Int.emod_nonneg _ (by omega), Int.emod_lt_of_pos _ (by omega), u1.mono (by omega), k1⟩
  · go_enter Try.func47, Try.ntmps47
    go_wp2_with fail
    refine (next_any cb a N cap P _ hN (by omega) (unhide HU)).mono ?_
    rintro e w1 ⟨r, rfl, hr0, hr1, u1, k1⟩
    have HU1 := hide u1
    clear u1
    go_wp2_with fail
    refine (next_any cb a N cap (P + 1) _ hN (by omega) (unhide HU1)).mono ?_
    rintro e w2 ⟨r2, rfl, hs0, hs1, u2, k2⟩
    go_wp2
    go_ret
    exact ⟨_, rfl, Int.emod_nonneg _ (by omega), Int.emod_lt_of_pos _ (by omega), u2, k1.trans k2⟩

theorem one_any (cb : Nat) (a : Option Addr) (N cap P : Nat) (n : Int) (w : World) (hN : N ≤ 1048576) (hP : P ≤ 900000) (h0 : 1 < n) (h1 : n ≤ 60000) (h : Cu w cb a N cap P) :
    Calls Try.prog 44 #[.pointer (some ⟨cb, 0, none⟩), .int .i64 n] w fun e w' => ∃ r : Bool, e = .returned (.bool r) ∧ Cu w' cb a N cap (P + 2) ∧ Kx cb w w' := by
  have HU := hide h
  clear h
  go_enter Try.func44, Try.ntmps44
  go_wp2_with fail
  refine (pick_any cb a N cap P n _ hN hP h0 h1 (unhide HU)).mono ?_
  rintro e w1 ⟨r, rfl, hr0, hr1, u1, k1⟩
  go_wp2
  go_ret
  exact ⟨_, rfl, u1, k1⟩

set_option maxHeartbeats 1000000 in
theorem among_any (cb : Nat) (a : Option Addr) (N cap P l m c : Nat) (p : Int → Prop) (w : World) (hN : N ≤ 1048576) (hP : P ≤ 900000) (h0 : 1 < m) (h1 : m ≤ 60000) (hl : l < w.heap.size) (hne : l ≠ cb)
    (hx : ∀ i, i < m → ∃ x : Int, p x ∧ w.cell? ⟨l, i, none⟩ = some (.int .i64 x)) (h : Cu w cb a N cap P) :
    Calls Try.prog 46 #[.pointer (some ⟨cb, 0, none⟩), .slice (some ⟨l, 0, none⟩) m c] w fun e w' => ∃ r : Int, e = .returned (.int .i64 r) ∧ p r ∧ Cu w' cb a N cap (P + 2) ∧ Kx cb w w' := by
  have HU := hide h
  have HX := hide hx
  clear h hx
  go_enter Try.func46, Try.ntmps46
  go_wp2_with fail
  refine (pick_any cb a N cap P m _ hN hP (by omega) (by omega) (unhide HU)).mono ?_
  rintro e w1 ⟨r, rfl, hr0, hr1, u1, k1⟩
  obtain ⟨i, rfl⟩ := Int.eq_ofNat_of_zero_le hr0
  obtain ⟨x, hp, hx⟩ := unhide HX i (by omega)
  have hx1 := (k1.cell (p := ⟨l, i, none⟩) hl hne).trans hx
  have HPx := hide hp
  clear hp hx
  go_wp2
  go_ret
  exact ⟨x, rfl, unhide HPx, u1, k1⟩

theorem and62 (n : Int) : bits .and .i64 n 4611686018427387903 = n % 4611686018427387904 := by
  have h62 : (BitVec.ofInt 64 4611686018427387903).toNat = 2 ^ 62 - 1 := by decide
  have key : (BitVec.ofInt 64 n &&& BitVec.ofInt 64 4611686018427387903).toNat = (n % ((2 ^ 64 : Nat) : Int)).toNat % 2 ^ 62 := by
    rw [BitVec.toNat_and, BitVec.toNat_ofInt, h62, Nat.and_two_pow_sub_one_eq_mod]
  show IntKind.i64.wrap ((BitVec.ofInt 64 n &&& BitVec.ofInt 64 4611686018427387903).toNat : Nat) = n % 4611686018427387904
  rw [key, IntKind.wrap_i64]
  omega
theorem lit_cells (w : World) (l : List Int) (t : TypeId) (p : Int → Prop) (h : ∀ x ∈ l, p x) : ∀ i, i < l.length → ∃ x, p x ∧ (w.alloc (.cells (l.map (Value.int .i64)).toArray t)).cell? ⟨w.heap.size, i, none⟩ = some (.int .i64 x) := by
  intro i hi
  refine ⟨l[i], h _ (List.getElem_mem hi), ?_⟩
  simp [hi]
theorem Cu.alloc {w : World} {cb : Nat} {a : Option Addr} {N cap P : Nat} (h : Cu w cb a N cap P) (o : Obj) : Cu (w.alloc o) cb a N cap P := h.same ((Below.refl _ _).alloc (Nat.le_refl _) _)

theorem cu_first {w : World} {a : Option Addr} {N : Nat} (cap : Nat) (t : TypeId) (h : Cd w a N) : Cu (w.alloc (.cells #[.slice a N cap, .int .i64 0, .int .u64 0] t)) w.heap.size a N cap 0 := by
  refine ⟨by simp, by simp, ⟨0, Nat.le_refl _, by simp⟩, ⟨0, by omega, by omega, by simp⟩, fun o => by simp, ?_⟩
  rcases h with h0 | ⟨b, off, e, hl, h⟩
  · exact Or.inl h0
  · refine Or.inr ⟨b, off, e, by simp; omega, by omega, fun i hi => ?_⟩
    obtain ⟨x, h1, h2⟩ := h i hi
    exact ⟨x, h1, (((Below.refl w.heap.size w).alloc (Nat.le_refl _) _).cell (p := ⟨b, off + i, none⟩) hl).trans h2⟩
theorem Kx.draw {w w' : World} {o : Obj} (h : Kx w.heap.size (w.alloc o) w') : Below w.heap.size w w' :=
  ((Below.refl _ _).alloc (Nat.le_refl _) _).trans (h.below (Nat.le_refl _) (by simp))

end Go.Proofs.Ytkpodgeinanceaa
namespace Go.Proofs.Ytkpodgeinanceaa
open Go.ChangeShapes Go.WideShapes Go.ChangeAt Go.RowKit
set_option linter.unusedVariables false

theorem Kx.setNew {cb : Nat} {a w : World} (h : Kx cb a w) {p : Addr} (hp : a.heap.size ≤ p.block) (u : Value) : Kx cb a (w.setCell p u) :=
  ⟨h.os, h.tape, h.output, by simpa [World.setCell] using h.size, fun k hk hne => (Below.heap_setCell _ _ _ _ (by omega)).trans (h.block k hk hne)⟩
theorem Cu.setNew {w0 w : World} {cb : Nat} {a : Option Addr} {N cap P P0 : Nat} (h0 : Cu w0 cb a N cap P0) (h : Cu w cb a N cap P) {g : Nat} (hg : w0.heap.size ≤ g) (o : Nat) (u : Value) : Cu (w.setCell ⟨g, o, none⟩ u) cb a N cap P := by
  have hl := h0.lt
  have hne : ∀ q : Nat, (⟨g, o, none⟩ : Addr) ≠ ⟨cb, q, none⟩ := fun q e => absurd (congrArg Addr.block e) (by show g ≠ cb; omega)
  have hc : ∀ q : Nat, (w.setCell ⟨g, o, none⟩ u).cell? ⟨cb, q, none⟩ = w.cell? ⟨cb, q, none⟩ := fun q => World.cell?_setCell_other _ _ _ _ (hne q)
  refine ⟨by simpa [World.setCell] using h.lt, (hc 0).trans h.c0, ?_, ?_, fun q => ?_, ?_⟩
  · obtain ⟨p, h1, h2⟩ := h.c1
    exact ⟨p, h1, (hc 1).trans h2⟩
  · obtain ⟨s, h1, h2, h3⟩ := h.c2
    exact ⟨s, h1, h2, (hc 2).trans h3⟩
  · have := h.fz q
    rw [← this]
    exact World.frozen?_of_block (w := w) (a := ⟨cb, q, none⟩) (Below.heap_setCell w ⟨g, o, none⟩ u cb (by show cb ≠ g; omega))
  · rcases h.cd with e | ⟨b, off, e, hl1, hn1, hx⟩
    · exact Or.inl e
    · rcases h0.cd with e0 | ⟨b0, off0, e0, hl0, _, _⟩
      · exact Or.inl e0
      · have hb : b = b0 := by
          rw [e] at e0
          simp at e0
          exact e0.1
        refine Or.inr ⟨b, off, e, by simpa [World.setCell] using hl1, hn1, fun i hi => ?_⟩
        obtain ⟨x, h1, h2⟩ := hx i hi
        refine ⟨x, h1, ?_⟩
        rw [World.cell?_setCell_other _ _ _ _ (fun e9 => absurd (congrArg Addr.block e9) (by show g ≠ b; omega))]
        exact h2
theorem Ar.kx {cb b o n : Nat} {f : Nat → Nat} {w w' : World} (h : Kx cb w w') (hI : Ar w b o n f) (hne : b ≠ cb) : Ar w' b o n f := by
  have e := h.block b hI.lt hne
  exact ⟨fun i hi => (World.cell?_of_block (a := ⟨b, o + i, none⟩) e).trans (hI.c i hi), fun i hi => (World.frozen?_of_block (a := ⟨b, o + i, none⟩) e).trans (hI.fz i hi), Nat.lt_of_lt_of_le hI.lt h.size⟩
set_option maxRecDepth 100000 in
set_option maxHeartbeats 1000000 in
theorem sizedBytes_any (cb : Nat) (a : Option Addr) (N cap P n : Nat) (w : World) (hN : N ≤ 1048576) (hP : P ≤ 500000) (hn : n ≤ 10000) (h : Cu w cb a N cap P) :
    Calls Try.prog 45 #[.pointer (some ⟨cb, 0, none⟩), .int .i64 n] w fun e w' => ∃ f, e = .returned (.slice (some ⟨w.heap.size, 0, none⟩) n n) ∧ (∀ i, f i < 256) ∧ Ar w' w.heap.size 0 n f ∧ Cu w' cb a N cap (P + 2 * n) ∧ Kx cb w w' := by
  have HU := hide h
  have hcl := h.lt
  have hmk := mk_bytes n (by omega) w
  have hN0 := Ar.new w n (fun _ => 0) 5
  have u1 := h.alloc (.cells (us n fun _ => 0).toArray 5)
  have k1 := (Kx.refl cb w).alloc (.cells (us n fun _ => 0).toArray 5)
  have A1 := hide hN0
  have U1 := hide u1
  have K1 := hide k1
  clear h hN0 u1 k1
  go_enter Try.func45, Try.ntmps45
  go_wp2_with fail
  go_loopw [11] (fun iv wr => ∃ (k : Nat) (f : Nat → Nat), k ≤ n ∧ iv = .int .i64 k ∧ (∀ i, f i < 256) ∧ Ar wr w.heap.size 0 n f ∧ Cu wr cb a N cap (P + 2 * k) ∧ Kx cb w wr) (fun iv _ => n - (intOf iv).toNat)
  case atStart => exact ⟨0, _, by omega, rfl, fun _ => by omega, unhide A1, unhide U1, unhide K1⟩
  case round =>
    obtain ⟨k, f, hk, rfl, hf, hA, hU, hK⟩ := hrel
    clear A1 U1 K1
    by_cases hlt : k < n
    · have U0 := hide hU
      have K0 := hide hK
      have A0 := hide hA
      have F0 := hide hf
      clear hU hK hA hf hmk
      go_wp2_with fail
      refine (pick_any cb a N cap (P + 2 * k) 256 _ hN (by omega) (by omega) (by omega) (unhide U0)).mono ?_
      rintro e w1 ⟨r, rfl, hr0, hr1, u1, k1⟩
      obtain ⟨x, rfl⟩ := Int.eq_ofNat_of_zero_le hr0
      have A1 := Ar.kx k1 (unhide A0) (by omega)
      have K1 := (unhide K0).trans k1
      have hc := A1.c0 k hlt
      have hz := A1.f0 k hlt
      have A2 := hide (A1.put0 (g := fun i => if i = k then x else f i) (k := k) (x := x) hlt (by simp) (fun i _ hne => by simp [hne]))
      have K2 := hide (K1.setNew (p := ⟨w.heap.size, k, none⟩) (Nat.le_refl _) (.int .u8 (x : Int)))
      have U2 := hide (Cu.setNew (unhide HU) u1 (Nat.le_refl _) k (.int .u8 (x : Int)))
      have F2 : Hid (∀ i, (if i = k then x else f i) < 256) := fun i => by
        by_cases e : i = k
        · rw [if_pos e]; omega
        · rw [if_neg e]; exact unhide F0 i
      clear A1 K1 u1 k1 U0 K0 A0 F0
      generalize hf2 : (fun i => if i = k then x else f i) = f2 at *
      have HF2 := hide hf2
      clear hf2
      go_wp2
      exact ⟨⟨k + 1, f2, by omega, by go_num, by rw [← unhide HF2]; exact unhide F2, unhide A2, by rw [show P + 2 * (k + 1) = P + 2 * k + 2 by omega]; exact unhide U2, unhide K2⟩, by simp [intOf]; omega⟩
    · obtain rfl : k = n := by omega
      clear hmk
      go_wp2
      go_ret
      exact ⟨f, rfl, hf, hA, hU, hK⟩
theorem bq_le (n m : Nat) (f : Nat → Nat) (h : n ≤ m) : (bq n f).size ≤ m := by rw [bq_size]; exact h
end Go.Proofs.Ytkpodgeinanceaa
namespace Go.Proofs.Ytkpodgeinanceaa
open Go.ChangeShapes Go.WideShapes Go.ChangeAt Go.RowKit
set_option linter.unusedVariables false

set_option maxHeartbeats 1000000 in
theorem of_any (cb : Nat) (a : Option Addr) (N cap P l m c : Nat) (p : ByteArray → Prop) (w : World) (hN : N ≤ 1048576) (hP : P ≤ 900000) (h0 : 1 < m) (h1 : m ≤ 60000) (hl : l < w.heap.size) (hne : l ≠ cb)
    (hx : ∀ i, i < m → ∃ x : ByteArray, p x ∧ w.cell? ⟨l, i, none⟩ = some (.string x)) (h : Cu w cb a N cap P) :
    Calls Try.prog 48 #[.pointer (some ⟨cb, 0, none⟩), .slice (some ⟨l, 0, none⟩) m c] w fun e w' => ∃ r : ByteArray, e = .returned (.string r) ∧ p r ∧ Cu w' cb a N cap (P + 2) ∧ Kx cb w w' := by
  have HU := hide h
  have HX := hide hx
  clear h hx
  go_enter Try.func48, Try.ntmps48
  go_wp2_with fail
  refine (pick_any cb a N cap P m _ hN hP (by omega) (by omega) (unhide HU)).mono ?_
  rintro e w1 ⟨r, rfl, hr0, hr1, u1, k1⟩
  obtain ⟨i, rfl⟩ := Int.eq_ofNat_of_zero_le hr0
  obtain ⟨x, hp, hx⟩ := unhide HX i (by omega)
  have hx1 := (k1.cell (p := ⟨l, i, none⟩) hl hne).trans hx
  have HPx := hide hp
  clear hp hx
  go_wp2
  go_ret
  exact ⟨x, rfl, unhide HPx, u1, k1⟩
theorem lit_texts (w : World) (l : List ByteArray) (t : TypeId) (p : ByteArray → Prop) (h : ∀ x ∈ l, p x) : ∀ i, i < l.length → ∃ x, p x ∧ (w.alloc (.cells (l.map Value.string).toArray t)).cell? ⟨w.heap.size, i, none⟩ = some (.string x) := by
  intro i hi
  exact ⟨l[i], h _ (List.getElem_mem hi), by simp [hi]⟩
set_option maxRecDepth 100000 in
set_option maxHeartbeats 1000000 in
theorem id_any (cb : Nat) (a : Option Addr) (N cap P : Nat) (w : World) (hN : N ≤ 1048576) (hP : P ≤ 400000) (h : Cu w cb a N cap P) :
    Calls Try.prog 49 #[.pointer (some ⟨cb, 0, none⟩)] w fun e w' => ∃ t : ByteArray, e = .returned (.string t) ∧ t.size ≤ 21 ∧ Cu w' cb a N cap (P + 60) ∧ Kx cb w w' := by
  have HU := hide h
  clear h
  go_enter Try.func49, Try.ntmps49
  go_wp2_with fail
  refine (pick_any cb a N cap P 10 _ hN (by omega) (by omega) (by omega) (unhide HU)).mono ?_
  rintro e w1 ⟨r, rfl, hr0, hr1, u1, k1⟩
  obtain ⟨n, rfl⟩ := Int.eq_ofNat_of_zero_le hr0
  have U1 := hide u1
  have K1 := hide k1
  clear u1 k1 HU
  go_wp2_with fail
  refine (one_any cb a N cap (P + 2) 12 _ hN (by omega) (by omega) (by omega) (unhide U1)).mono ?_
  rintro e w2 ⟨rb, rfl, u2, k2⟩
  have U2 := hide u2
  have K2 := hide ((unhide K1).trans k2)
  clear u2 k2 U1 K1
  cases rb with
  | false =>
    go_wp2_with fail
    refine (sizedBytes_any cb a N cap (P + 2 + 2) n _ hN (by omega) (by omega) (unhide U2)).mono ?_
    rintro e w3 ⟨f, rfl, hf, hA, u3, k3⟩
    have hst := ar_string hA (fun i _ => hf i) n
    have U3 := hide (u3.mono (Q := P + 60) (by omega))
    have K3 := hide ((unhide K2).trans k3)
    have hsz := bq_le n 21 f (by omega)
    clear u3 k3 hA hf
    generalize bq n f = t at *
    go_wp2
    go_ret
    exact ⟨t, rfl, hsz, unhide U3, unhide K3⟩
  | true =>
    have hne : w2.heap.size ≠ cb := by have := (unhide U2).lt; omega
    have hx := lit_cells w2 [20, 21, 0] 3 (fun x => 0 ≤ x ∧ x ≤ 21) (by decide)
    have UA := hide ((unhide U2).alloc (.cells #[.int .i64 20, .int .i64 21, .int .i64 0] 3))
    have KA := hide ((unhide K2).alloc (.cells #[.int .i64 20, .int .i64 21, .int .i64 0] 3))
    have HX := hide hx
    clear hx U2 K2
    go_wp2_with fail
    refine (among_any cb a N cap (P + 2 + 2) w2.heap.size 3 3 (fun x => 0 ≤ x ∧ x ≤ 21) _ hN (by omega) (by omega) (by omega) (by simp) hne (unhide HX) (unhide UA)).mono ?_
    rintro e w3 ⟨r, rfl, ⟨h0, h1⟩, u3, k3⟩
    obtain ⟨m, rfl⟩ := Int.eq_ofNat_of_zero_le h0
    have U3 := hide u3
    have K3 := hide ((unhide KA).trans k3)
    clear u3 k3 UA KA HX
    go_wp2_with fail
    refine (sizedBytes_any cb a N cap (P + 2 + 2 + 2) m _ hN (by omega) (by omega) (unhide U3)).mono ?_
    rintro e w4 ⟨f, rfl, hf, hA, u4, k4⟩
    have hst := ar_string hA (fun i _ => hf i) m
    have U4 := hide (u4.mono (Q := P + 60) (by omega))
    have K4 := hide ((unhide K3).trans k4)
    have hsz := bq_le m 21 f (by omega)
    clear u4 k4 hA hf
    generalize bq m f = t at *
    go_wp2
    go_ret
    exact ⟨t, rfl, hsz, unhide U4, unhide K4⟩
set_option maxRecDepth 100000 in
set_option maxHeartbeats 1000000 in
theorem numberOf_any (a : Option Addr) (N cap : Nat) (w : World) (hN : N ≤ 1048576) (h : Cd w a N) :
    Calls Try.prog 14 #[.slice a N cap] w fun e w' => ∃ r : Nat, e = .returned (.int .i64 r) ∧ r < 1000003 ∧ Below w.heap.size w w' := by
  have HC := hide h
  clear h
  go_enter Try.func14, Try.ntmps14
  go_wp2_with fail
  go_loopw [3, 8] (fun nv iv wr => ∃ k r : Nat, k ≤ N ∧ iv = .int .i64 k ∧ nv = .int .i64 r ∧ r < 1000003 ∧ wr = w) (fun _ iv _ => N - (intOf iv).toNat)
  case atStart => exact ⟨0, 0, by omega, rfl, rfl, by omega, rfl⟩
  case round =>
    obtain ⟨k, r, hk, rfl, rfl, hr, hww⟩ := hrel
    obtain rfl := hww.symm
    by_cases hlt : k < N
    · rcases unhide HC with h0 | ⟨b, off, rfl, hl, hx⟩
      · omega
      · obtain ⟨x, hx0, hx1⟩ := hx k hlt
        clear hx HC
        go_wp2
        exact ⟨⟨k + 1, (31 * r + x) % 1000003, by omega, by go_num, by congr 1, Nat.mod_lt _ (by omega), trivial⟩, by simp [intOf]; omega⟩
    · obtain rfl : k = N := by omega
      clear HC
      go_wp2
      go_ret
      exact ⟨r, rfl, hr, Below.refl _ _⟩
end Go.Proofs.Ytkpodgeinanceaa
namespace Go.Proofs.Ytkpodgeinanceaa
open Go.ChangeShapes Go.WideShapes Go.ChangeAt Go.RowKit
set_option linter.unusedVariables false

set_option maxRecDepth 100000 in
set_option maxHeartbeats 1000000 in
theorem block_any (cb : Nat) (a : Option Addr) (N cap P : Nat) (w : World) (hN : N ≤ 1048576) (hP : P ≤ 400000) (h : Cu w cb a N cap P) :
    Calls Try.prog 26 #[.pointer (some ⟨cb, 0, none⟩)] w fun e w' => ∃ t : ByteArray, e = .returned (.string t) ∧ t.size ≤ 17 ∧ Cu w' cb a N cap (P + 50) ∧ Kx cb w w' := by
  have HU := hide h
  clear h
  go_enter Try.func26, Try.ntmps26
  go_wp2_with fail
  refine (one_any cb a N cap P 30 _ hN (by omega) (by omega) (by omega) (unhide HU)).mono ?_
  rintro e w1 ⟨rb, rfl, u1, k1⟩
  have U1 := hide u1
  have K1 := hide k1
  clear u1 k1 HU
  cases rb with
  | true =>
    have hne : w1.heap.size ≠ cb := by have := (unhide U1).lt; omega
    have hx := lit_cells w1 [0, 15, 17] 3 (fun x => 0 ≤ x ∧ x ≤ 17) (by decide)
    have UA := hide ((unhide U1).alloc (.cells #[.int .i64 0, .int .i64 15, .int .i64 17] 3))
    have KA := hide ((unhide K1).alloc (.cells #[.int .i64 0, .int .i64 15, .int .i64 17] 3))
    have HX := hide hx
    clear hx U1 K1
    go_wp2_with fail
    refine (among_any cb a N cap (P + 2) w1.heap.size 3 3 (fun x => 0 ≤ x ∧ x ≤ 17) _ hN (by omega) (by omega) (by omega) (by simp) hne (unhide HX) (unhide UA)).mono ?_
    rintro e w3 ⟨r, rfl, ⟨h0, h1⟩, u3, k3⟩
    obtain ⟨m, rfl⟩ := Int.eq_ofNat_of_zero_le h0
    have U3 := hide u3
    have K3 := hide ((unhide KA).trans k3)
    clear u3 k3 UA KA HX
    go_wp2_with fail
    refine (sizedBytes_any cb a N cap (P + 2 + 2) m _ hN (by omega) (by omega) (unhide U3)).mono ?_
    rintro e w4 ⟨f, rfl, hf, hA, u4, k4⟩
    have hst := ar_string hA (fun i _ => hf i) m
    have U4 := hide (u4.mono (Q := P + 50) (by omega))
    have K4 := hide ((unhide K3).trans k4)
    have hsz := bq_le m 17 f (by omega)
    clear u4 k4 hA hf
    generalize bq m f = t at *
    go_wp2
    go_ret
    exact ⟨t, rfl, hsz, unhide U4, unhide K4⟩
  | false =>
    go_wp2_with fail
    refine (one_any cb a N cap (P + 2) 8 _ hN (by omega) (by omega) (by omega) (unhide U1)).mono ?_
    rintro e w2 ⟨rb, rfl, u2, k2⟩
    have U2 := hide u2
    have K2 := hide ((unhide K1).trans k2)
    clear u2 k2 U1 K1
    cases rb with
    | false =>
      go_wp2_with fail
      refine (sizedBytes_any cb a N cap (P + 2 + 2) 16 _ hN (by omega) (by omega) (unhide U2)).mono ?_
      rintro e w3 ⟨f, rfl, hf, hA, u3, k3⟩
      have hst := ar_string hA (fun i _ => hf i) 16
      have U3 := hide (u3.mono (Q := P + 50) (by omega))
      have K3 := hide ((unhide K2).trans k3)
      have hsz := bq_le 16 17 f (by omega)
      clear u3 k3 hA hf
      generalize bq 16 f = t at *
      go_wp2
      go_ret
      exact ⟨t, rfl, hsz, unhide U3, unhide K3⟩
    | true =>
      have hmk : (Instr.makeSlice 32 (.int .i64 16) (.int .i64 16)).run Try.prog w2 = .ok (.slice (some ⟨w2.heap.size, 0, none⟩) 16 16) (w2.alloc (.cells (us 16 fun _ => 0).toArray 5)) := mk_bytes 16 (by omega) w2
      have hst := ar_string (Ar.new w2 16 (fun _ => 0) 5) (fun i _ => by omega) 16
      have U3 := hide (((unhide U2).alloc (.cells (us 16 fun _ => 0).toArray 5)).mono (Q := P + 50) (by omega))
      have K3 := hide ((unhide K2).alloc (.cells (us 16 fun _ => 0).toArray 5))
      have hsz := bq_le 16 17 (fun _ => 0) (by omega)
      clear U2 K2
      generalize w2.alloc (.cells (us 16 fun _ => 0).toArray 5) = w3 at *
      generalize bq 16 (fun _ => 0) = t at *
      go_wp2
      go_ret
      exact ⟨t, rfl, hsz, unhide U3, unhide K3⟩
end Go.Proofs.Ytkpodgeinanceaa
namespace Go.Proofs.Ytkpodgeinanceaa
open Go.ChangeShapes Go.WideShapes Go.ChangeAt Go.RowKit
set_option linter.unusedVariables false

set_option maxRecDepth 100000 in
set_option maxHeartbeats 1000000 in
theorem nonce_any (cb : Nat) (a : Option Addr) (N cap P : Nat) (w : World) (hN : N ≤ 1048576) (hP : P ≤ 400000) (h : Cu w cb a N cap P) :
    Calls Try.prog 27 #[.pointer (some ⟨cb, 0, none⟩)] w fun e w' => ∃ t : ByteArray, e = .returned (.string t) ∧ t.size ≤ 13 ∧ Cu w' cb a N cap (P + 50) ∧ Kx cb w w' := by
  have HU := hide h
  clear h
  go_enter Try.func27, Try.ntmps27
  go_wp2_with fail
  refine (one_any cb a N cap P 30 _ hN (by omega) (by omega) (by omega) (unhide HU)).mono ?_
  rintro e w2 ⟨rb, rfl, u2, k2⟩
  have U2 := hide u2
  have K2 := hide k2
  clear u2 k2 HU
  cases rb with
  | false =>
    have HSZ : Hid (∀ W, Cu W cb a N cap (P + 2) → Calls Try.prog 45 #[.pointer (some ⟨cb, 0, none⟩), .int .i64 12] W fun e w' => ∃ f, e = .returned (.slice (some ⟨W.heap.size, 0, none⟩) 12 12) ∧ (∀ i, f i < 256) ∧ Ar w' W.heap.size 0 12 f ∧ Cu w' cb a N cap (P + 2 + 2 * 12) ∧ Kx cb W w') := fun W h => sizedBytes_any cb a N cap (P + 2) 12 W hN (by omega) (by omega) h
    go_wp2_with fail
    refine (unhide HSZ _ (unhide U2)).mono ?_
    rintro e w3 ⟨f, rfl, hf, hA, u3, k3⟩
    have hst := ar_string hA (fun i _ => hf i) 12
    have U3 := hide (u3.mono (Q := P + 50) (by omega))
    have K3 := hide ((unhide K2).trans k3)
    have hsz := bq_le 12 13 f (by omega)
    clear u3 k3 hA hf
    generalize bq 12 f = t at *
    go_wp2
    go_ret
    exact ⟨t, rfl, hsz, unhide U3, unhide K3⟩
  | true =>
    go_wp2_with fail
    refine (pick_any cb a N cap (P + 2) 2 _ hN (by omega) (by omega) (by omega) (unhide U2)).mono ?_
    rintro e w3 ⟨r, rfl, hr0, hr1, u3, k3⟩
    obtain ⟨n0, rfl⟩ := Int.eq_ofNat_of_zero_le hr0
    obtain ⟨m, hm⟩ : ∃ m : Nat, m = 11 + 2 * n0 := ⟨_, rfl⟩
    have hmI : 11 + 2 * (n0 : Int) = (m : Int) := by omega
    have hml : m ≤ 13 := by omega
    have U3 := hide u3
    have K3 := hide ((unhide K2).trans k3)
    clear u3 k3 U2 K2 hm
    go_wp2_with fail
    refine (sizedBytes_any cb a N cap (P + 2 + 2) m _ hN (by omega) (by omega) (unhide U3)).mono ?_
    rintro e w4 ⟨f, rfl, hf, hA, u4, k4⟩
    have hst := ar_string hA (fun i _ => hf i) m
    have U4 := hide (u4.mono (Q := P + 50) (by omega))
    have K4 := hide ((unhide K3).trans k4)
    have hsz := bq_le m 13 f (by omega)
    clear u4 k4 hA hf
    generalize bq m f = t at *
    go_wp2
    go_ret
    exact ⟨t, rfl, hsz, unhide U4, unhide K4⟩
end Go.Proofs.Ytkpodgeinanceaa
namespace Go.Proofs.Ytkpodgeinanceaa
open Go.ChangeShapes Go.WideShapes Go.ChangeAt Go.RowKit
set_option linter.unusedVariables false

set_option maxRecDepth 100000 in
set_option maxHeartbeats 1000000 in
theorem address_any (cb : Nat) (a : Option Addr) (N cap P : Nat) (w : World) (hN : N ≤ 1048576) (hP : P ≤ 400000) (h : Cu w cb a N cap P) :
    Calls Try.prog 28 #[.pointer (some ⟨cb, 0, none⟩)] w fun e w' => ∃ t : ByteArray, e = .returned (.string t) ∧ t.size ≤ 19 ∧ Cu w' cb a N cap (P + 60) ∧ Kx cb w w' := by
  have HU := hide h
  clear h
  go_enter Try.func28, Try.ntmps28
  go_wp2_with fail
  refine (one_any cb a N cap P 40 _ hN (by omega) (by omega) (by omega) (unhide HU)).mono ?_
  rintro e w2 ⟨rb, rfl, u2, k2⟩
  have U2 := hide u2
  have K2 := hide k2
  clear u2 k2 HU
  have hne : w2.heap.size ≠ cb := by have := (unhide U2).lt; omega
  cases rb with
  | false =>
    have hx := lit_texts w2 [⟨#[97, 100, 100, 114, 49]⟩, ⟨#[97, 100, 100, 114, 50]⟩, ⟨#[49, 48, 46, 48, 46, 48, 46, 49]⟩] 9 (fun x => x.size ≤ 19) (by decide)
    have UA := hide ((unhide U2).alloc (.cells #[.string ⟨#[97, 100, 100, 114, 49]⟩, .string ⟨#[97, 100, 100, 114, 50]⟩, .string ⟨#[49, 48, 46, 48, 46, 48, 46, 49]⟩] 9))
    have KA := hide ((unhide K2).alloc (.cells #[.string ⟨#[97, 100, 100, 114, 49]⟩, .string ⟨#[97, 100, 100, 114, 50]⟩, .string ⟨#[49, 48, 46, 48, 46, 48, 46, 49]⟩] 9))
    have HX := hide hx
    clear hx U2 K2
    go_wp2_with fail
    refine (of_any cb a N cap (P + 2) w2.heap.size 3 3 (fun x => x.size ≤ 19) _ hN (by omega) (by omega) (by omega) (by simp) hne (unhide HX) (unhide UA)).mono ?_
    rintro e w3 ⟨t, rfl, hsz, u3, k3⟩
    have U3 := hide (u3.mono (Q := P + 60) (by omega))
    have K3 := hide ((unhide KA).trans k3)
    clear u3 k3 UA KA HX
    go_wp2
    go_ret
    exact ⟨t, rfl, hsz, unhide U3, unhide K3⟩
  | true =>
    have hx := lit_cells w2 [0, 18, 19] 3 (fun x => 0 ≤ x ∧ x ≤ 19) (by decide)
    have UA := hide ((unhide U2).alloc (.cells #[.int .i64 0, .int .i64 18, .int .i64 19] 3))
    have KA := hide ((unhide K2).alloc (.cells #[.int .i64 0, .int .i64 18, .int .i64 19] 3))
    have HX := hide hx
    clear hx U2 K2
    go_wp2_with fail
    refine (among_any cb a N cap (P + 2) w2.heap.size 3 3 (fun x => 0 ≤ x ∧ x ≤ 19) _ hN (by omega) (by omega) (by omega) (by simp) hne (unhide HX) (unhide UA)).mono ?_
    rintro e w3 ⟨r, rfl, ⟨h0, h1⟩, u3, k3⟩
    obtain ⟨m, rfl⟩ := Int.eq_ofNat_of_zero_le h0
    have U3 := hide u3
    have K3 := hide ((unhide KA).trans k3)
    clear u3 k3 UA KA HX
    go_wp2_with fail
    refine (sizedBytes_any cb a N cap (P + 2 + 2) m _ hN (by omega) (by omega) (unhide U3)).mono ?_
    rintro e w4 ⟨f, rfl, hf, hA, u4, k4⟩
    have hst := ar_string hA (fun i _ => hf i) m
    have U4 := hide (u4.mono (Q := P + 60) (by omega))
    have K4 := hide ((unhide K3).trans k4)
    have hsz := bq_le m 19 f (by omega)
    clear u4 k4 hA hf
    generalize bq m f = t at *
    go_wp2
    go_ret
    exact ⟨t, rfl, hsz, unhide U4, unhide K4⟩
theorem Bx.kx {cb g : Nat} {w w' : World} {xs : List Value} (h : Bx w g xs) (k : Kx cb w w') (hne : g ≠ cb) : Bx w' g xs := h.kept k.size (k.block g h.lt hne)
set_option maxRecDepth 100000 in
set_option maxHeartbeats 1000000 in
theorem minted_any (cb : Nat) (a : Option Addr) (N cap P : Nat) (w : World) (hN : N ≤ 1048576) (hP : P ≤ 300000) (h : Cu w cb a N cap P) :
    Calls Try.prog 29 #[.pointer (some ⟨cb, 0, none⟩)] w fun e w' => ∃ (d : ByteArray) (t : Int) (n : Bool), e = .returned (mnV d t n) ∧ d.size ≤ 21 ∧ -1 ≤ t ∧ t ≤ 1000000001 ∧ Cu w' cb a N cap (P + 100) ∧ Kx cb w w' := by
  have HU := hide (h.alloc (.cells #[.string ⟨#[]⟩, .int .i64 0, .bool false] 25))
  have H0 := hide h
  have K0 : Hid (Kx cb w (w.alloc (.cells #[.string ⟨#[]⟩, .int .i64 0, .bool false] 25))) := (Kx.refl cb w).alloc _
  have X0 : Hid (Bx (w.alloc (.cells #[.string ⟨#[]⟩, .int .i64 0, .bool false] 25)) w.heap.size [.string ⟨#[]⟩, .int .i64 0, .bool false]) := Bx.new w _ _
  have hne : w.heap.size ≠ cb := by have := h.lt; omega
  clear h
  go_enter Try.func29, Try.ntmps29
  go_wp2_with fail
  refine (id_any cb a N cap P _ hN (by omega) (unhide HU)).mono ?_
  rintro e w1 ⟨d, rfl, hd, u1, k1⟩
  have U1 := hide u1
  have K1 := hide ((unhide K0).trans k1)
  have X1 := hide ((unhide X0).kx k1 hne)
  clear u1 k1 HU K0 X0
  go_wp2_with fail
  refine (pick_any cb a N cap (P + 60) 100 _ hN (by omega) (by omega) (by omega) (unhide U1)).mono ?_
  rintro e w2 ⟨t, rfl, ht0, ht1, u2, k2⟩
  have U2 := hide u2
  have K2 := hide ((unhide K1).trans k2)
  have X2 := hide ((unhide X1).kx k2 hne)
  clear u2 k2 U1 K1 X1
  go_wp2_with fail
  refine (one_any cb a N cap (P + 60 + 2) 3 _ hN (by omega) (by omega) (by omega) (unhide U2)).mono ?_
  rintro e w3 ⟨n, rfl, u3, k3⟩
  have U3 := hide (u3.alloc (.cells #[.string d, .int .i64 t, .bool n] 25))
  have K3 := hide (((unhide K2).trans k3).alloc (.cells #[.string d, .int .i64 t, .bool n] 25))
  have X3 := hide (((unhide X2).kx k3 hne).alloc (.cells #[.string d, .int .i64 t, .bool n] 25))
  have M3 : Hid (Bx (w3.alloc (.cells #[.string d, .int .i64 t, .bool n] 25)) w3.heap.size [.string d, .int .i64 t, .bool n]) := Bx.new w3 _ _
  have hn3 : w3.heap.size ≠ cb := by have := u3.lt; omega
  have hn4 : w3.heap.size ≠ w.heap.size := by have := (((unhide X2).kx k3 hne)).lt; omega
  have hn5 : w.heap.size ≤ w3.heap.size := by have := (((unhide X2).kx k3 hne)).lt; omega
  clear u3 k3 U2 K2 X2
  go_wp2_with fail
  generalize w3.alloc (.cells #[.string d, .int .i64 t, .bool n] 25) = W3 at *
  generalize w3.heap.size = g at *
  refine (one_any cb a N cap (P + 60 + 2 + 2) 20 _ hN (by omega) (by omega) (by omega) (unhide U3)).mono ?_
  rintro e w4 ⟨rb, rfl, u4, k4⟩
  have U4 := hide u4
  have K4 := hide ((unhide K3).trans k4)
  have X4 := (unhide X3).kx k4 hne
  have M4 := (unhide M3).kx k4 hn3
  clear u4 k4 U3 K3 X3 M3
  cases rb with
  | false =>
    have z0 := X4.cv
    have zf := X4.fz
    have m0 := M4.cv
    have UZ := hide ((unhide U4).mono (Q := P + 100) (by omega))
    clear X4 M4 U4
    go_wp2
    refine bodyPost_ret (v := mnV d t n) (by simp [results, Try.results29, go_sem, z0]) rfl ⟨d, t, n, rfl, hd, by omega, by omega, ?_, ?_⟩
    · iterate 3 refine Cu.setNew (unhide H0) ?_ (Nat.le_refl _) _ _
      exact unhide UZ
    · iterate 3 refine Kx.setNew ?_ (Nat.le_refl _) _
      exact unhide K4
  | true =>
    have hx := lit_cells w4 [-1, 1000000000, 1000000001] 3 (fun x => -1 ≤ x ∧ x ≤ 1000000001) (by decide)
    have hn6 : w4.heap.size ≠ cb := by have := (unhide U4).lt; omega
    have UA := hide ((unhide U4).alloc (.cells #[.int .i64 (-1), .int .i64 1000000000, .int .i64 1000000001] 3))
    have KA := hide ((unhide K4).alloc (.cells #[.int .i64 (-1), .int .i64 1000000000, .int .i64 1000000001] 3))
    have XA := hide (X4.alloc (.cells #[.int .i64 (-1), .int .i64 1000000000, .int .i64 1000000001] 3))
    have MA := hide (M4.alloc (.cells #[.int .i64 (-1), .int .i64 1000000000, .int .i64 1000000001] 3))
    have HX := hide hx
    clear hx U4 K4 X4 M4
    go_wp2_with fail
    refine (among_any cb a N cap (P + 60 + 2 + 2 + 2) w4.heap.size 3 3 (fun x => -1 ≤ x ∧ x ≤ 1000000001) _ hN (by omega) (by omega) (by omega) (by simp) hn6 (unhide HX) (unhide UA)).mono ?_
    rintro e w5 ⟨r, rfl, ⟨h0, h1⟩, u5, k5⟩
    have UZ := hide (u5.mono (Q := P + 100) (by omega))
    have K5 := hide ((unhide KA).trans k5)
    have X5 := (unhide XA).kx k5 hne
    have M5 := (unhide MA).kx k5 hn3
    clear u5 k5 UA KA HX XA MA
    have z0 := X5.cv
    have zf := X5.fz
    have m0 := M5.cv
    have mf := M5.fz
    clear X5 M5
    go_wp2
    refine bodyPost_ret (v := mnV d r n) (by simp [results, Try.results29, go_sem, z0]) rfl ⟨d, r, n, rfl, hd, by omega, by omega, ?_, ?_⟩
    · iterate 3 refine Cu.setNew (unhide H0) ?_ (Nat.le_refl _) _ _
      refine Cu.setNew (unhide H0) ?_ hn5 _ _
      exact unhide UZ
    · iterate 3 refine Kx.setNew ?_ (Nat.le_refl _) _
      refine Kx.setNew ?_ hn5 _
      exact unhide K5
set_option maxRecDepth 100000 in
set_option maxHeartbeats 1000000 in
theorem drawMT_any (a : Option Addr) (N cap : Nat) (w : World) (hN : N ≤ 1048576) (h : Cd w a N) :
    Calls Try.prog 11 #[.slice a N cap] w fun e w' => ∃ (k n ad d : ByteArray) (t : Int) (b : Bool), e = .returned (.tuple #[.string k, .string n, .string ad, mnV d t b]) ∧ k.size ≤ 17 ∧ n.size ≤ 13 ∧ ad.size ≤ 19 ∧ d.size ≤ 21 ∧ -1 ≤ t ∧ t ≤ 1000000001 ∧ Below w.heap.size w w' := by
  have b0 := (Below.refl w.heap.size w).alloc (Nat.le_refl _) (.cells #[.string ⟨#[]⟩, .int .i64 0, .bool false] 25)
  have U0 := hide (cu_first cap 51 (h.below b0))
  have X0 : Hid (Bx (w.alloc (.cells #[.string ⟨#[]⟩, .int .i64 0, .bool false] 25)) w.heap.size [.string ⟨#[]⟩, .int .i64 0, .bool false]) := Bx.new w _ _
  clear h
  go_enter Try.func11, Try.ntmps11
  go_wp2_with fail
  have hz : (w.alloc (.cells #[.string ⟨#[]⟩, .int .i64 0, .bool false] 25)).heap.size = w.heap.size + 1 := by simp
  generalize w.alloc (.cells #[.string ⟨#[]⟩, .int .i64 0, .bool false] 25) = W0 at *
  rw [hz] at U0
  have b1 := (Below.refl W0.heap.size W0).alloc (Nat.le_refl _) (.cells #[.slice a N cap, .int .i64 0, .int .u64 0] 51)
  have X1 := hide ((unhide X0).below b1)
  have hz1 : (W0.alloc (.cells #[.slice a N cap, .int .i64 0, .int .u64 0] 51)).heap.size = w.heap.size + 1 + 1 := by simp [hz]
  generalize W0.alloc (.cells #[.slice a N cap, .int .i64 0, .int .u64 0] 51) = W1 at *
  have B1 := hide (b0.trans (b1.mono (by omega)))
  have hs1 : w.heap.size ≤ W1.heap.size := by omega
  have hne : w.heap.size ≠ w.heap.size + 1 := by omega
  clear b0 b1 X0 hz hz1
  refine (block_any (w.heap.size + 1) a N cap 0 _ hN (by omega) (unhide U0)).mono ?_
  rintro e w2 ⟨k, rfl, hk, u2, k2⟩
  have U2 := hide (u2.mono (Q := 50) (by omega))
  have K2 := hide k2
  clear u2 k2 U0
  go_wp2_with fail
  refine (nonce_any (w.heap.size + 1) a N cap 50 _ hN (by omega) (unhide U2)).mono ?_
  rintro e w3 ⟨n, rfl, hn, u3, k3⟩
  have U3 := hide u3
  have K3 := hide ((unhide K2).trans k3)
  clear u3 k3 U2 K2
  go_wp2_with fail
  refine (address_any (w.heap.size + 1) a N cap (50 + 50) _ hN (by omega) (unhide U3)).mono ?_
  rintro e w4 ⟨ad, rfl, had, u4, k4⟩
  have U4 := hide u4
  have K4 := hide ((unhide K3).trans k4)
  clear u4 k4 U3 K3
  go_wp2_with fail
  refine (minted_any (w.heap.size + 1) a N cap (50 + 50 + 60) _ hN (by omega) (unhide U4)).mono ?_
  rintro e w5 ⟨d, t, b, rfl, hd, ht0, ht1, u5, k5⟩
  have k15 := (unhide K4).trans k5
  have X5 := (unhide X1).kx k15 hne
  have B5 := hide ((unhide B1).trans (k15.below (by omega) hs1))
  clear u5 k5 U4 K4 k15 X1 B1
  have z0 := X5.cv
  have zf := X5.fz
  clear X5
  go_wp2
  refine bodyPost_ret (v := .tuple #[.string k, .string n, .string ad, mnV d t b]) ?_ rfl ⟨k, n, ad, d, t, b, rfl, hk, hn, had, hd, ht0, ht1, ?_⟩
  · simp [results, Try.results11, go_sem, z0]
  · iterate 3 refine Below.setCell ?_ (by simp) _
    exact unhide B5
end Go.Proofs.Ytkpodgeinanceaa
namespace Go.Proofs.Ytkpodgeinanceaa
open Go.ChangeShapes Go.WideShapes Go.ChangeAt Go.RowKit
set_option linter.unusedVariables false

theorem cU8 : Try.prog.cellsOf 5 = 1 := by kernel_rfl
theorem bU8 : Try.prog.bytesOf 5 = 1 := by kernel_rfl
theorem open_bytes {H : Type} {enc : TypeId × Value → H} {W : World} {spare : Nat → Bool} {held : Bool} {fuel : Nat} {v : Value} {x : DataW H × List MemPlace}
    (h : DataW.trod enc Try.prog W 0 spare held fuel 32 [v] = some x) :
    ∃ (a : Option Addr) (N cap : Nat), v = .slice a N cap ∧ N ≤ maxLen ∧ Cd W a N ∧ (N = 0 ∨ ∃ elems spare, x.1 = .slice elems spare ∧ elems.length = N) := by
  rcases Go.Deep.open_slice1 Try.underlying32 cU8 h with ⟨hc, _⟩ | ⟨a, len, cap, m, n, V, D, Pl, hc, _, hl, hm, hmm, hx, he⟩
  · exact ⟨none, 0, 0, by simpa using hc, by unfold maxLen; omega, Or.inl rfl, Or.inl rfl⟩
  · have hlm : len ≤ m := by rw [hmm]; split <;> omega
    refine ⟨some a, len, cap, by simpa using hc, by omega, ?_, Or.inr ⟨_, _, by rw [hx], by simp⟩⟩
    by_cases h0 : len = 0
    · exact Or.inl h0
    obtain ⟨b, off, spot⟩ := a
    have hs : spot = none := by
      have := World.cell?_spot (he 0 (by omega)).1
      simpa [Addr.add] using this
    subst hs
    have ad : ∀ j : Nat, (⟨b, off, none⟩ : Addr).add j = ⟨b, off + j, none⟩ := by intro j; unfold Addr.add; split <;> simp_all
    refine Or.inr ⟨b, off, rfl, ?_, fun i hi => ?_⟩
    · have := World.block_lt_of_cell? W _ (he 0 (by omega)).1
      simpa [ad] using this
    · obtain ⟨h1, h2⟩ := he i (by omega)
      obtain ⟨y, e0, _, w0⟩ := DataW.trod_int Try.underlying5 h2
      rw [ad, show V i = .int .u8 y by simpa using e0] at h1
      have hy := bounds_u8 w0
      obtain ⟨z, rfl⟩ := Int.eq_ofNat_of_zero_le hy.1
      exact ⟨z, by omega, h1⟩
end Go.Proofs.Ytkpodgeinanceaa
