/-
  Contracts: what the model draws with: a cursor over bytes. Arrays of bytes in a block, as functions of the place: read, written, kept. Texts and arrays of bytes. Contracts: bytes and texts that the model draws. Contracts: secrets, infos, numbers and ids that the model draws; a number of bytes.
-/
import Derived.Test.YtgjohakjknmngaaDoorBase
import Derived.WalkKit
import Derived.ProofKit
import Derived.Deep.QuietTactic
import Derived.Deep.RegionWith
import Derived.BigQuiet
import Derived.Deep.RegionHeld3
import Derived.Deep.MidRow
namespace Go.Proofs.YtgjohakjknmngaaDoor.Dr
open Go.ChangeShapes Go.WideShapes Go.ChangeAt Go.RowKit
set_option linter.unusedVariables false

/-- Bytes that came in. -/
def Cd (w : World) (a : Option Addr) (N : Nat) : Prop :=
  N = 0 ∨ ∃ b off, a = some ⟨b, off, none⟩ ∧ b < w.heap.size ∧ ∀ i, i < N → ∃ x : Nat, x < 256 ∧ w.cell? ⟨b, off + i, none⟩ = some (.int .u8 (x : Int))
theorem Cd.below {w w' : World} {a : Option Addr} {N : Nat} (h : Cd w a N) (hb : Below w.heap.size w w') : Cd w' a N := by
  rcases h with h | ⟨b, off, e, hl, h⟩
  · exact Or.inl h
  · refine Or.inr ⟨b, off, e, Nat.lt_of_lt_of_le hl hb.size, fun i hi => ?_⟩
    obtain ⟨x, h1, h2⟩ := h i hi
    exact ⟨x, h1, (hb.cell (p := ⟨b, off + i, none⟩) hl).trans h2⟩
/-- All but one block is as it was. -/
structure Kx (cb : Nat) (w w' : World) : Prop where
  os : w'.os = w.os
  tape : w'.tape = w.tape
  output : w'.output = w.output
  size : w.heap.size ≤ w'.heap.size
  block : ∀ k, k < w.heap.size → k ≠ cb → w'.heap[k]? = w.heap[k]?
theorem Kx.refl (cb : Nat) (w : World) : Kx cb w w := ⟨rfl, rfl, rfl, Nat.le_refl _, fun _ _ _ => rfl⟩
theorem Kx.trans {cb : Nat} {a b c : World} (h : Kx cb a b) (k : Kx cb b c) : Kx cb a c :=
  ⟨k.os.trans h.os, k.tape.trans h.tape, k.output.trans h.output, Nat.le_trans h.size k.size, fun i hi hne => (k.block i (Nat.lt_of_lt_of_le hi h.size) hne).trans (h.block i hi hne)⟩
theorem Kx.alloc {cb : Nat} {a w : World} (h : Kx cb a w) (o : Obj) : Kx cb a (w.alloc o) :=
  h.trans ⟨rfl, rfl, rfl, by simp, fun k hk _ => Below.heap_alloc _ _ _ hk⟩
theorem Kx.drew {cb : Nat} {a w : World} (h : Kx cb a w) : Kx cb a w.drew := h.trans ⟨rfl, rfl, rfl, Nat.le_refl _, fun _ _ _ => rfl⟩
theorem Kx.set {cb : Nat} {a w : World} (h : Kx cb a w) (o : Nat) (u : Value) : Kx cb a (w.setCell ⟨cb, o, none⟩ u) :=
  h.trans ⟨rfl, rfl, rfl, by simp [World.setCell], fun k _ hne => Below.heap_setCell _ _ _ _ (by simpa using hne)⟩
theorem Kx.below {cb B : Nat} {w w' : World} (h : Kx cb w w') (h1 : B ≤ cb) (h2 : B ≤ w.heap.size) : Below B w w' :=
  ⟨h.os, h.tape, h.output, h.size, fun k hk => h.block k (by omega) (by omega)⟩
theorem Kx.cell {cb : Nat} {w w' : World} (h : Kx cb w w') {p : Addr} (h1 : p.block < w.heap.size) (h2 : p.block ≠ cb) : w'.cell? p = w.cell? p := World.cell?_of_block (w := w) (h.block p.block h1 h2)
/-- The cursor at cb: its bytes, where it is (P at most), what it mixes. -/
structure Cu (w : World) (cb : Nat) (a : Option Addr) (N cap P : Nat) : Prop where
  lt : cb < w.heap.size
  c0 : w.cell? ⟨cb, 0, none⟩ = some (.slice a N cap)
  c1 : ∃ p : Nat, p ≤ P ∧ w.cell? ⟨cb, 1, none⟩ = some (.int .i64 (p : Int))
  c2 : ∃ s : Int, 0 ≤ s ∧ s < 18446744073709551616 ∧ w.cell? ⟨cb, 2, none⟩ = some (.int .u64 s)
  fz : ∀ o, w.frozen? ⟨cb, o, none⟩ = false
  cd : N = 0 ∨ ∃ b off, a = some ⟨b, off, none⟩ ∧ b < w.heap.size ∧ b ≠ cb ∧ ∀ i, i < N → ∃ x : Nat, x < 256 ∧ w.cell? ⟨b, off + i, none⟩ = some (.int .u8 (x : Int))
theorem Cu.same {w w' : World} {cb : Nat} {a : Option Addr} {N cap P : Nat} (h : Cu w cb a N cap P) (hb : Below w.heap.size w w') : Cu w' cb a N cap P := by
  obtain ⟨hc, hf⟩ := bcell hb
  refine ⟨Nat.lt_of_lt_of_le h.lt hb.size, (hc _ _ h.lt).trans h.c0, ?_, ?_, fun o => (hf _ _ h.lt).trans (h.fz o), ?_⟩
  · obtain ⟨p, h1, h2⟩ := h.c1
    exact ⟨p, h1, (hc _ _ h.lt).trans h2⟩
  · obtain ⟨s, h1, h2, h3⟩ := h.c2
    exact ⟨s, h1, h2, (hc _ _ h.lt).trans h3⟩
  · rcases h.cd with h0 | ⟨b, off, e, hl, hne, h⟩
    · exact Or.inl h0
    · refine Or.inr ⟨b, off, e, Nat.lt_of_lt_of_le hl hb.size, hne, fun i hi => ?_⟩
      obtain ⟨x, h1, h2⟩ := h i hi
      exact ⟨x, h1, (hc _ _ hl).trans h2⟩
theorem Cu.mono {w : World} {cb : Nat} {a : Option Addr} {N cap P Q : Nat} (h : Cu w cb a N cap P) (hq : P ≤ Q) : Cu w cb a N cap Q := by
  obtain ⟨p, h1, h2⟩ := h.c1
  exact ⟨h.lt, h.c0, ⟨p, Nat.le_trans h1 hq, h2⟩, h.c2, h.fz, h.cd⟩
theorem Cu.put {w : World} {cb : Nat} {a : Option Addr} {N cap P p : Nat} {s : Int} (h : Cu w cb a N cap P) (hp : p ≤ P) (hs0 : 0 ≤ s) (hs1 : s < 18446744073709551616) :
    Cu ((w.setCell ⟨cb, 1, none⟩ (.int .i64 ((p : Int) + 1))).setCell ⟨cb, 2, none⟩ (.int .u64 s)) cb a N cap (P + 1) := by
  obtain ⟨q, _, h1⟩ := h.c1
  obtain ⟨s', _, _, h2⟩ := h.c2
  refine ⟨by simpa using h.lt, ?_, ⟨p + 1, by omega, ?_⟩, ⟨s, hs0, hs1, ?_⟩, fun o => by simp [h.fz], ?_⟩
  · rw [World.cell?_setCell_other _ _ _ _ (by simp), World.cell?_setCell_other _ _ _ _ (by simp)]; exact h.c0
  · rw [World.cell?_setCell_other _ _ _ _ (by simp), World.cell?_setCell_same _ _ _ h1]; simp
  · exact World.cell?_setCell_same _ _ _ (u := .int .u64 s') (by rw [World.cell?_setCell_other _ _ _ _ (by simp)]; exact h2)
  · rcases h.cd with h0 | ⟨b, off, e, hl, hne, h⟩
    · exact Or.inl h0
    · refine Or.inr ⟨b, off, e, by simpa using hl, hne, fun i hi => ?_⟩
      obtain ⟨x, h1, h2⟩ := h i hi
      refine ⟨x, h1, ?_⟩
      rw [World.cell?_setCell_other _ _ _ _ (by intro e; simp at e <;> omega), World.cell?_setCell_other _ _ _ _ (by intro e; simp at e <;> omega)]; exact h2
theorem Kx.of {cb : Nat} {w w' : World} (h : Below w.heap.size w w') : Kx cb w w' := ⟨h.os, h.tape, h.output, h.size, fun k hk _ => h.block k hk⟩
theorem bdr (w : World) (n : Nat) : Below w.heap.size w (w.drewN n) := below_drewN (Below.refl _ _) n
theorem u64_in (x : Int) : 0 ≤ IntKind.u64.wrap x ∧ IntKind.u64.wrap x < 18446744073709551616 := by rw [IntKind.wrap_u64]; omega
theorem and255 (x : Int) (h0 : 0 ≤ x) (h1 : x < 18446744073709551616) : bits .and .u64 x 255 = x % 256 := by
  first | go_bits2 | exact bits_mask .u64 64 (by decide) (fun n a b => by rw [IntKind.wrap_u64]; omega) 8 (by decide) x h0 h1
theorem top_in (x : Int) : 0 ≤ wrap64 (bits .and .u64 (IntKind.u64.wrap x / 1099511627776) 255) ∧ wrap64 (bits .and .u64 (IntKind.u64.wrap x / 1099511627776) 255) < 256 := by
  have h := u64_in x
  rw [and255 _ (by omega) (by omega)]
  rw [show wrap64 (IntKind.u64.wrap x / 1099511627776 % 256) = IntKind.u64.wrap x / 1099511627776 % 256 by unfold wrap64; omega]
  omega

set_option maxHeartbeats 1000000 in
theorem next_any (cb : Nat) (a : Option Addr) (N cap P : Nat) (w : World) (hN : N ≤ 1048576) (hP : P ≤ 1000000) (h : Cu w cb a N cap P) :
    Calls Tryd.prog 45 #[.pointer (some ⟨cb, 0, none⟩)] w fun e w' => ∃ r : Int, e = .returned (.int .i64 r) ∧ 0 ≤ r ∧ r < 256 ∧ Cu w' cb a N cap (P + 1) ∧ Kx cb w w' := by
  have HU := hide h
  obtain ⟨hlt, c0, ⟨p, hp, c1⟩, ⟨s, hs0, hs1, c2⟩, fz, cd⟩ := h
  have f1 := fz 1
  have f2 := fz 2
  have HF := hide fz
  have HC := hide cd
  clear fz cd
  by_cases hpn : p < N
  · have hpi : (p : Int) < (N : Int) := by omega
    rcases unhide HC with h0 | ⟨b, off, rfl, hbl, hne, hx⟩
    · omega
    obtain ⟨x, hx1, hx2⟩ := hx p hpn
    clear hx
    go_enter Tryd.func45, Tryd.ntmps45
    go_wp2
    go_quiet (fail)
    go_wp2
    go_quiet (fail)
    go_wp2
    go_quiet (fail)
    go_wp2
    go_ret
    exact ⟨x, rfl, by omega, by omega, (((unhide HU).same (bdr _ _)).put hp (u64_in _).1 (u64_in _).2).same (bdr _ _), (((Kx.of (bdr _ _)).set 1 _).set 2 _).trans (Kx.of (bdr _ _))⟩
  · have hpi : ¬ (p : Int) < (N : Int) := by omega
    clear HC
    go_enter Tryd.func45, Tryd.ntmps45
    go_wp2
    go_quiet (fail)
    go_wp2
    go_quiet (fail)
    go_wp2
    go_ret
    exact ⟨_, rfl, (top_in _).1, (top_in _).2, (((unhide HU).same (bdr _ _)).put hp (u64_in _).1 (u64_in _).2).same (bdr _ _), (((Kx.of (bdr _ _)).set 1 _).set 2 _).trans (Kx.of (bdr _ _))⟩

set_option maxHeartbeats 1000000 in
theorem pick_any (cb : Nat) (a : Option Addr) (N cap P : Nat) (n : Int) (w : World) (hN : N ≤ 1048576) (hP : P ≤ 900000) (h0 : 1 < n) (h1 : n ≤ 60000) (h : Cu w cb a N cap P) :
    Calls Tryd.prog 26 #[.pointer (some ⟨cb, 0, none⟩), .int .i64 n] w fun e w' => ∃ r : Int, e = .returned (.int .i64 r) ∧ 0 ≤ r ∧ r < n ∧ Cu w' cb a N cap (P + 2) ∧ Kx cb w w' := by
  have HU := hide h
  clear h
  by_cases hb : n ≤ 200
  · go_enter Tryd.func26, Tryd.ntmps26
    go_wp2_with fail
    refine (next_any cb a N cap P _ hN (by omega) (unhide HU)).mono ?_
    rintro e w1 ⟨r, rfl, hr0, hr1, u1, k1⟩
    go_wp2
    go_ret
    exact ⟨_, rfl, Int.emod_nonneg _ (by omega), Int.emod_lt_of_pos _ (by omega), u1.mono (by omega), k1⟩
  · go_enter Tryd.func26, Tryd.ntmps26
    go_wp2_with fail
    refine (next_any cb a N cap P _ hN (by omega) (unhide HU)).mono ?_
    rintro e w1 ⟨r, rfl, hr0, hr1, u1, k1⟩
    have HU1 := hide u1
    clear u1
    go_wp2_with fail
    refine (next_any cb a N cap (P + 1) _ hN (by omega) (unhide HU1)).mono ?_
    rintro e w2 ⟨r2, rfl, hs0, hs1, u2, k2⟩
    go_wp2
    go_ret
    exact ⟨_, rfl, Int.emod_nonneg _ (by omega), Int.emod_lt_of_pos _ (by omega), u2, k1.trans k2⟩

theorem one_any (cb : Nat) (a : Option Addr) (N cap P : Nat) (n : Int) (w : World) (hN : N ≤ 1048576) (hP : P ≤ 900000) (h0 : 1 < n) (h1 : n ≤ 60000) (h : Cu w cb a N cap P) :
    Calls Tryd.prog 11 #[.pointer (some ⟨cb, 0, none⟩), .int .i64 n] w fun e w' => ∃ r : Bool, e = .returned (.bool r) ∧ Cu w' cb a N cap (P + 2) ∧ Kx cb w w' := by
  have HU := hide h
  clear h
  go_enter Tryd.func11, Tryd.ntmps11
  go_wp2_with fail
  refine (pick_any cb a N cap P n _ hN hP h0 h1 (unhide HU)).mono ?_
  rintro e w1 ⟨r, rfl, hr0, hr1, u1, k1⟩
  go_wp2
  go_ret
  exact ⟨_, rfl, u1, k1⟩

set_option maxHeartbeats 1000000 in
theorem among_any (cb : Nat) (a : Option Addr) (N cap P l m c : Nat) (p : Int → Prop) (w : World) (hN : N ≤ 1048576) (hP : P ≤ 900000) (h0 : 1 < m) (h1 : m ≤ 60000) (hl : l < w.heap.size) (hne : l ≠ cb)
    (hx : ∀ i, i < m → ∃ x : Int, p x ∧ w.cell? ⟨l, i, none⟩ = some (.int .i64 x)) (h : Cu w cb a N cap P) :
    Calls Tryd.prog 28 #[.pointer (some ⟨cb, 0, none⟩), .slice (some ⟨l, 0, none⟩) m c] w fun e w' => ∃ r : Int, e = .returned (.int .i64 r) ∧ p r ∧ Cu w' cb a N cap (P + 2) ∧ Kx cb w w' := by
  have HU := hide h
  have HX := hide hx
  clear h hx
  go_enter Tryd.func28, Tryd.ntmps28
  go_wp2_with fail
  refine (pick_any cb a N cap P m _ hN hP (by omega) (by omega) (unhide HU)).mono ?_
  rintro e w1 ⟨r, rfl, hr0, hr1, u1, k1⟩
  obtain ⟨i, rfl⟩ := Int.eq_ofNat_of_zero_le hr0
  obtain ⟨x, hp, hx⟩ := unhide HX i (by omega)
  have hx1 := (k1.cell (p := ⟨l, i, none⟩) hl hne).trans hx
  have HPx := hide hp
  clear hp hx
  go_wp2
  go_ret
  exact ⟨x, rfl, unhide HPx, u1, k1⟩

theorem and62 (n : Int) : bits .and .i64 n 4611686018427387903 = n % 4611686018427387904 := by
  have h62 : (BitVec.ofInt 64 4611686018427387903).toNat = 2 ^ 62 - 1 := by decide
  have key : (BitVec.ofInt 64 n &&& BitVec.ofInt 64 4611686018427387903).toNat = (n % ((2 ^ 64 : Nat) : Int)).toNat % 2 ^ 62 := by
    rw [BitVec.toNat_and, BitVec.toNat_ofInt, h62, Nat.and_two_pow_sub_one_eq_mod]
  show IntKind.i64.wrap ((BitVec.ofInt 64 n &&& BitVec.ofInt 64 4611686018427387903).toNat : Nat) = n % 4611686018427387904
  rw [key, IntKind.wrap_i64]
  omega
theorem lit_cells (w : World) (l : List Int) (t : TypeId) (p : Int → Prop) (h : ∀ x ∈ l, p x) : ∀ i, i < l.length → ∃ x, p x ∧ (w.alloc (.cells (l.map (Value.int .i64)).toArray t)).cell? ⟨w.heap.size, i, none⟩ = some (.int .i64 x) := by
  intro i hi
  refine ⟨l[i], h _ (List.getElem_mem hi), ?_⟩
  simp [hi]
theorem Cu.alloc {w : World} {cb : Nat} {a : Option Addr} {N cap P : Nat} (h : Cu w cb a N cap P) (o : Obj) : Cu (w.alloc o) cb a N cap P := h.same ((Below.refl _ _).alloc (Nat.le_refl _) _)

theorem cu_first {w : World} {a : Option Addr} {N : Nat} (cap : Nat) (t : TypeId) (h : Cd w a N) : Cu (w.alloc (.cells #[.slice a N cap, .int .i64 0, .int .u64 0] t)) w.heap.size a N cap 0 := by
  refine ⟨by simp, by simp, ⟨0, Nat.le_refl _, by simp⟩, ⟨0, by omega, by omega, by simp⟩, fun o => by simp, ?_⟩
  rcases h with h0 | ⟨b, off, e, hl, h⟩
  · exact Or.inl h0
  · refine Or.inr ⟨b, off, e, by simp; omega, by omega, fun i hi => ?_⟩
    obtain ⟨x, h1, h2⟩ := h i hi
    exact ⟨x, h1, (((Below.refl w.heap.size w).alloc (Nat.le_refl _) _).cell (p := ⟨b, off + i, none⟩) hl).trans h2⟩
theorem Kx.draw {w w' : World} {o : Obj} (h : Kx w.heap.size (w.alloc o) w') : Below w.heap.size w w' :=
  ((Below.refl _ _).alloc (Nat.le_refl _) _).trans (h.below (Nat.le_refl _) (by simp))

end Go.Proofs.YtgjohakjknmngaaDoor.Dr
namespace Go.Proofs.YtgjohakjknmngaaDoor.Dr
open Go.ChangeShapes Go.WideShapes Go.ChangeAt Go.RowKit
set_option linter.unusedVariables false

/-- a value that the unifier does not open -/
def lock {α : Type} (n : Nat) (a : α) : α := if h : n = 0 then a else lock (n - 1) a
theorem lock_eq {α : Type} (a : α) : ∀ n, lock n a = a
  | 0 => by rw [lock]; simp
  | n + 1 => by rw [lock, dif_neg (by omega), Nat.add_sub_cancel]; exact lock_eq a n
/-- n bytes as cells -/
def us (n : Nat) (f : Nat → Nat) : List Value := lock 1 ((List.range n).map fun i => Value.int .u8 ((f i : Nat) : Int))
theorem us_def (n : Nat) (f : Nat → Nat) : us n f = (List.range n).map fun i => Value.int .u8 ((f i : Nat) : Int) := lock_eq _ _
theorem us_length (n : Nat) (f : Nat → Nat) : (us n f).length = n := by simp [us_def]
theorem us_congr {n : Nat} {f g : Nat → Nat} (h : ∀ i, i < n → f i = g i) : us n f = us n g := by
  simp only [us_def]
  exact List.map_congr_left fun i hi => by rw [h i (List.mem_range.1 hi)]
/-- four bytes -/
def q4 (a b c d : Nat) (i : Nat) : Nat := if i = 0 then a else if i = 1 then b else if i = 2 then c else d
theorem us4 (f : Nat → Nat) : (us 4 f).toArray = #[.int .u8 (f 0 : Nat), .int .u8 (f 1 : Nat), .int .u8 (f 2 : Nat), .int .u8 (f 3 : Nat)] := by rw [us_def]; rfl
/-- the first k places of f, the others of g -/
def stp (f g : Nat → Nat) (k i : Nat) : Nat := if i < k then f i else g i

/-- bytes at a place of a block, that may be written -/
structure Ar (w : World) (b o n : Nat) (f : Nat → Nat) : Prop where
  c : ∀ i, i < n → w.cell? ⟨b, o + i, none⟩ = some (.int .u8 (f i : Nat))
  fz : ∀ i, i < n → w.frozen? ⟨b, o + i, none⟩ = false
  lt : b < w.heap.size
theorem Ar.c0 {w : World} {b n : Nat} {f : Nat → Nat} (h : Ar w b 0 n f) (i : Nat) (hi : i < n) : w.cell? ⟨b, i, none⟩ = some (.int .u8 (f i : Nat)) := by
  have := h.c i hi; rwa [Nat.zero_add] at this
theorem Ar.f0 {w : World} {b n : Nat} {f : Nat → Nat} (h : Ar w b 0 n f) (i : Nat) (hi : i < n) : w.frozen? ⟨b, i, none⟩ = false := by
  have := h.fz i hi; rwa [Nat.zero_add] at this
theorem Ar.congr {w : World} {b o n : Nat} {f g : Nat → Nat} (h : Ar w b o n f) (e : ∀ i, i < n → f i = g i) : Ar w b o n g :=
  ⟨fun i hi => by rw [h.c i hi, e i hi], h.fz, h.lt⟩
theorem Ar.below {w w' : World} {B b o n : Nat} {f : Nat → Nat} (h : Ar w b o n f) (hb : Below B w w') (hB : b < B) : Ar w' b o n f :=
  ⟨fun i hi => by rw [hb.cell (p := ⟨b, o + i, none⟩) hB]; exact h.c i hi, fun i hi => by rw [hb.frozen (p := ⟨b, o + i, none⟩) hB]; exact h.fz i hi, Nat.lt_of_lt_of_le h.lt hb.size⟩
theorem Ar.drew {w : World} {b o n : Nat} {f : Nat → Nat} (h : Ar w b o n f) : Ar w.drew b o n f := ⟨h.c, h.fz, h.lt⟩
theorem Ar.new (w : World) (n : Nat) (f : Nat → Nat) (t : TypeId) : Ar (w.alloc (.cells (us n f).toArray t)) w.heap.size 0 n f :=
  ⟨fun i hi => by simp [us_def, hi], fun i hi => by simp, by simp⟩
theorem Ar.alloc {w : World} {b o n : Nat} {f : Nat → Nat} (h : Ar w b o n f) (x : Obj) : Ar (w.alloc x) b o n f :=
  h.below ((Below.refl w.heap.size w).alloc (Nat.le_refl _) x) h.lt
theorem Ar.put {w : World} {b o n : Nat} {f g : Nat → Nat} {k x : Nat} (h : Ar w b o n f) (hk : k < n) (h1 : g k = x) (h2 : ∀ i, i < n → i ≠ k → g i = f i) : Ar (w.setCell ⟨b, o + k, none⟩ (.int .u8 (x : Int))) b o n g := by
  have hc := h.c k hk
  refine ⟨fun i hi => ?_, fun i hi => ?_, ?_⟩
  · by_cases e : i = k
    · subst e
      rw [World.cell?_setCell_same _ _ _ hc, h1]
    · rw [World.cell?_setCell_other _ _ _ _ (by intro e'; simp at e' <;> omega), h2 i hi e]
      exact h.c i hi
  · rw [World.frozen?_setCell]
    exact h.fz i hi
  · simpa [World.setCell] using h.lt
theorem Ar.put0 {w : World} {b n : Nat} {f g : Nat → Nat} {k x : Nat} (h : Ar w b 0 n f) (hk : k < n) (h1 : g k = x) (h2 : ∀ i, i < n → i ≠ k → g i = f i) : Ar (w.setCell ⟨b, k, none⟩ (.int .u8 (x : Int))) b 0 n g := by
  have := h.put hk h1 h2; rwa [Nat.zero_add] at this
theorem Ar.step {w : World} {b n : Nat} {f g : Nat → Nat} {k x : Nat} (h : Ar w b 0 n (stp f g k)) (hk : k < n) (h1 : f k = x) : Ar (w.setCell ⟨b, k, none⟩ (.int .u8 (x : Int))) b 0 n (stp f g (k + 1)) :=
  h.put0 hk (by simp [stp, h1]) fun i hi hne => by
    unfold stp
    by_cases e : i < k
    · rw [if_pos (by omega), if_pos e]
    · rw [if_neg (by omega), if_neg e]
theorem Ar.stepEnd {w : World} {b n : Nat} {f g : Nat → Nat} (h : Ar w b 0 n (stp f g n)) : Ar w b 0 n f := h.congr fun i hi => by simp [stp, hi]
theorem Ar.stepNone {w : World} {b n : Nat} {f g : Nat → Nat} (h : Ar w b 0 n g) : Ar w b 0 n (stp f g 0) := h.congr fun i hi => by simp [stp]
theorem Ar.other {w : World} {b o n : Nat} {f : Nat → Nat} {a : Addr} {v : Value} (h : Ar w b o n f) (hne : a.block ≠ b) : Ar (w.setCell a v) b o n f := by
  refine ⟨fun i hi => ?_, fun i hi => ?_, ?_⟩
  · rw [World.cell?_setCell_other _ _ _ _ (by intro e; rw [e] at hne; simp at hne)]; exact h.c i hi
  · rw [World.frozen?_setCell]; exact h.fz i hi
  · simpa [World.setCell] using h.lt
theorem Ar.range {w : World} {b o n : Nat} {f : Nat → Nat} (h : Ar w b o n f) : w.rangeAt b o (us n f) := by
  intro j v hv
  simp only [us_def, List.getElem?_map] at hv
  by_cases e : j < n
  · rw [List.getElem?_range e] at hv
    simp at hv
    subst hv
    exact h.c j e
  · rw [List.getElem?_eq_none (by simp; omega)] at hv
    simp at hv
theorem Ar.there {w : World} {b o n : Nat} {f : Nat → Nat} (h : Ar w b o n f) : w.there b o n := fun j hj => ⟨by rw [h.c j hj]; rfl, h.fz j hj⟩
theorem size_setCells (b : Nat) : ∀ (vs : List Value) (o : Nat) (w : World), (w.setCells b o vs).heap.size = w.heap.size
  | [], _, _ => rfl
  | v :: r, o, w => by rw [World.setCells, size_setCells b r]; simp [World.setCell]
theorem below_setCells {B b : Nat} {a : World} (hb : B ≤ b) : ∀ (vs : List Value) (o : Nat) (w : World), Below B a w → Below B a (w.setCells b o vs)
  | [], _, _, h => h
  | v :: r, o, w, h => by rw [World.setCells]; exact below_setCells hb r (o + 1) _ (h.setCell hb _)
theorem Ar.others {w : World} {b o n b' o' : Nat} {f : Nat → Nat} {vs : List Value} (h : Ar w b o n f) (hne : b ≠ b' ∨ o + n ≤ o' ∨ o' + vs.length ≤ o) : Ar (w.setCells b' o' vs) b o n f := by
  refine ⟨fun i hi => ?_, fun i hi => ?_, ?_⟩
  · rw [World.cell?_setCells_out b' vs o' w _ (fun e1 _ => by simp at e1 ⊢; omega)]; exact h.c i hi
  · rw [World.frozen?_setCells]; exact h.fz i hi
  · rw [size_setCells]; exact h.lt
/-- a whole row is written -/
theorem Ar.puts {w : World} {b o n : Nat} {f g : Nat → Nat} (h : Ar w b o n f) : Ar (w.setCells b o (us n g)) b o n g := by
  refine ⟨fun i hi => ?_, fun i hi => ?_, ?_⟩
  · rw [World.cell?_setCells_in b (us n g) o w (fun j hj => by rw [us_length] at hj; rw [h.c j hj]; rfl) i (by rw [us_length]; exact hi)]
    simp [us_def]
  · rw [World.frozen?_setCells]; exact h.fz i hi
  · rw [size_setCells]; exact h.lt
/-- a part of a row is written -/
theorem Ar.putPart {w : World} {b o n p m : Nat} {f g G : Nat → Nat} (h : Ar w b o n f) (hp : p + m ≤ n) (h1 : ∀ i, i < m → G (p + i) = g i) (h2 : ∀ i, i < n → i < p ∨ p + m ≤ i → G i = f i) : Ar (w.setCells b (o + p) (us m g)) b o n G := by
  refine ⟨fun i hi => ?_, fun i hi => ?_, ?_⟩
  · by_cases e : p ≤ i ∧ i < p + m
    · have hh := World.cell?_setCells_in b (us m g) (o + p) w (fun j hj => by rw [us_length] at hj; rw [Nat.add_assoc, h.c (p + j) (by omega)]; rfl) (i - p) (by rw [us_length]; omega)
      rw [show o + p + (i - p) = o + i by omega] at hh
      rw [hh]
      have := h1 (i - p) (by omega)
      rw [show p + (i - p) = i by omega] at this
      simp [us_def, this]
    · rw [World.cell?_setCells_out b (us m g) (o + p) w _ (fun _ _ => by rw [us_length]; simp; omega), h2 i hi (by omega)]
      exact h.c i hi
  · rw [World.frozen?_setCells]; exact h.fz i hi
  · rw [size_setCells]; exact h.lt
theorem us_one (n : Nat) (f : Nat → Nat) : (us n f).toArray.all (·.oneCell') = true := all_oneCell_toArray fun v hv => by
  simp only [us_def, List.mem_map] at hv
  obtain ⟨i, _, rfl⟩ := hv
  rfl
theorem us_size (n : Nat) (f : Nat → Nat) : (us n f).toArray.size = n := by simp [us_def]
/-- a function ends, its one result an array in a cell of its own -/
theorem ret_arr {P : Program} {fn : Func} {R : Ending → World → Prop} {a : Act} {w : World} (s rb n : Nat) (t : TypeId) (d : TypeDesc) (f : Nat → Nat) (hres : fn.results = #[.cell s t]) (ha : a.tmps.getD s undef = .pointer (some ⟨rb, 0, none⟩)) (hd : a.defers = [])
    (h : Ar w rb 0 n f) (hu : P.underlying t = some d) (hrow : d.isRow = true) (hi : (P.info? t).map (·.size) = some n) (hR : R (.returned (.agg (us n f).toArray)) w) : bodyPost P fn R .ret a w := by
  refine bodyPost_ret (v := .agg (us n f).toArray) ?_ hd hR
  have hl := run_loadVar_mid (P := P) w rb 0 t (us n f) d h.range hu hrow (by rw [us_length]; exact hi)
  have e : (⟨rb, 0, none⟩ : Addr) = ⟨rb, 0, none⟩ := rfl
  unfold results
  rw [hres]
  simp only [Sem.run_bind, Array.mapM_eq_mapM_toList, List.mapM_cons, List.mapM_nil, ha]
  simp [asAddr, hl]
theorem Ar.loads {P : Program} {w : World} {b o n : Nat} {f : Nat → Nat} (h : Ar w b o n f) (t : TypeId) (d : TypeDesc) (hu : P.underlying t = some d) (hrow : d.isRow = true) (hi : (P.info? t).map (·.size) = some n) :
    (Instr.loadAt t (.pointer (some ⟨b, o, none⟩))).run P w = .ok (.agg (us n f).toArray) w :=
  run_loadAt_mid (P := P) w b o t (us n f) d h.range hu hrow (by rw [us_length]; exact hi)
theorem Ar.stores {P : Program} {w : World} {b o n : Nat} {g : Nat → Nat} (h : Ar w b o n g) (f : Nat → Nat) (t : TypeId) (hi : (P.info? t).map (·.size) = some n) :
    (Instr.storeAt t (.pointer (some ⟨b, o, none⟩)) (.agg (us n f).toArray)).run P w = .ok () (w.setCells b o (us n f)) := by
  have := run_storeAt_mid (P := P) w b o t (us n f).toArray (by rw [us_size]; exact h.there) (by rw [us_size]; exact hi) (us_one n f)
  simpa using this
theorem made_us (n : Nat) : madeCells #[.int .u8 0] n = (us n fun _ => 0).toArray := by
  apply Array.toList_inj.1
  rw [toList_madeCells_one]
  exact (List.eq_replicate_iff.2 ⟨by simp [us_def], fun b hb => by simp [us_def] at hb; exact hb.2.symm⟩).symm
theorem info_u8 : (Tryd.prog.info? 5).map (fun i => (i.zero, i.size, i.bytes)) = some (some (.int .u8 0), 1, 1) := by kernel_rfl
/-- make([]byte, n) -/
theorem mk_bytes (n : Nat) (hn : n ≤ 1048576) (w : World) :
    (Instr.makeSlice 22 (.int .i64 n) (.int .i64 n)).run Tryd.prog w = .ok (.slice (some ⟨w.heap.size, 0, none⟩) n n) (w.alloc (.cells (us n fun _ => 0).toArray 5)) := by
  obtain ⟨i0, hi, hz0, hz1, hz2⟩ := info_parts info_u8
  have := run_make (P := Tryd.prog) w 22 5 i0 _ Tryd.underlying22 hi hz0 .i64 .i64 n n (by omega) (by omega) (by rw [hz2]; omega) (by omega)
  rw [hz1] at this
  simpa [Value.cells, made_us] using this
theorem us_set {n k x : Nat} {f g : Nat → Nat} (hk : k < n) (h1 : g k = x) (h2 : ∀ i, i < n → i ≠ k → g i = f i) : (us n f).set k (.int .u8 (x : Int)) = us n g := by
  apply List.ext_getElem
  · simp [us_def]
  · intro i h3 h4
    have hi : i < n := by simpa [us_def] using h4
    by_cases e : i = k
    · subst e
      simp [us_def, h1]
    · rw [List.getElem_set_ne (Ne.symm e)]
      simp [us_def, h2 i hi e]
theorem Ar.cellsPut {P : Program} {w : World} {b o n : Nat} {g : Nat → Nat} (h : Ar w b o n g) (f : Nat → Nat) : (storeCells ⟨b, o, none⟩ (us n f)).run P w = .ok () (w.setCells b o (us n f)) := by
  have := run_storeCells_cells (P := P) b o (us n f) 0 w (fun j hj => by rw [us_length] at hj; rw [Nat.add_zero, h.c j hj]; rfl) (fun j hj => by rw [us_length] at hj; rw [Nat.add_zero]; exact h.fz j hj)
    (fun v hv => by simp only [us_def, List.mem_map] at hv; obtain ⟨i, _, rfl⟩ := hv; rfl)
  simpa using this
theorem Ar.part {w : World} {b o n : Nat} {f : Nat → Nat} (h : Ar w b o n f) (p m : Nat) (hp : p + m ≤ n) : Ar w b (o + p) m (fun i => f (p + i)) :=
  ⟨fun i hi => by rw [Nat.add_assoc]; exact h.c (p + i) (by omega), fun i hi => by rw [Nat.add_assoc]; exact h.fz (p + i) (by omega), h.lt⟩
theorem us_oneL (n : Nat) (f : Nat → Nat) : ∀ v ∈ us n f, v.oneCell' = true := fun v hv => by
  simp only [us_def, List.mem_map] at hv
  obtain ⟨i, _, rfl⟩ := hv
  rfl
theorem us_succ (n : Nat) (f : Nat → Nat) : us (n + 1) f = us n f ++ [.int .u8 (f n : Nat)] := by simp [us_def, List.range_succ]
/-- a part put into a greater value -/
theorem fold_us (N o : Nat) (f g : Nat → Nat) : ∀ m, o + m ≤ N → List.foldl (fun cs (x : Value × Nat) => Array.setIfInBounds cs (o + x.2) x.1) (us N g).toArray (us m f).zipIdx = (us N (fun i => if o ≤ i ∧ i < o + m then f (i - o) else g i)).toArray
  | 0, _ => by
    have e : us 0 f = [] := by rw [us_def]; rfl
    rw [e]
    show (us N g).toArray = _
    rw [us_congr (f := g)]
    intro i _
    rw [if_neg (by omega)]
  | m + 1, h => by
    rw [us_succ, List.zipIdx_append, List.foldl_append, fold_us N o f g m (by omega), us_length]
    simp only [List.zipIdx_cons, List.zipIdx_nil, List.foldl_cons, List.foldl_nil, Nat.zero_add, List.setIfInBounds_toArray]
    rw [us_set (k := o + m) (by omega) (g := fun i => if o ≤ i ∧ i < o + (m + 1) then f (i - o) else g i)]
    · show (if o ≤ o + m ∧ o + m < o + (m + 1) then f (o + m - o) else g (o + m)) = f m
      rw [if_pos (by omega), Nat.add_sub_cancel_left]
    · intro i _ hne
      show (if o ≤ i ∧ i < o + (m + 1) then f (i - o) else g i) = if o ≤ i ∧ i < o + m then f (i - o) else g i
      by_cases e : o ≤ i ∧ i < o + m
      · rw [if_pos e, if_pos (by omega)]
      · rw [if_neg e, if_neg (by omega)]
end Go.Proofs.YtgjohakjknmngaaDoor.Dr
namespace Go.Proofs.YtgjohakjknmngaaDoor.Dr
open Go.ChangeShapes Go.WideShapes Go.ChangeAt Go.RowKit
set_option linter.unusedVariables false

/-- the byte at a place, 0 behind the end -/
def at8 (s : ByteArray) (i : Nat) : Nat := if h : i < s.size then s[i].toNat else 0
theorem at8_lt (s : ByteArray) (i : Nat) : at8 s i < 256 := by
  unfold at8; split
  · exact UInt8.toNat_lt _
  · omega
theorem at8_in (s : ByteArray) (i : Nat) (h : i < s.size) : at8 s i = s[i].toNat := by unfold at8; rw [dif_pos h]
/-- n bytes as a text -/
def bq (n : Nat) (f : Nat → Nat) : ByteArray := ⟨((List.range n).map fun i => UInt8.ofNat (f i)).toArray⟩
theorem bq_size (n : Nat) (f : Nat → Nat) : (bq n f).size = n := by simp [bq, ByteArray.size]
theorem bq_congr {n : Nat} {f g : Nat → Nat} (h : ∀ i, i < n → f i = g i) : bq n f = bq n g := by
  unfold bq
  rw [List.map_congr_left fun i hi => by rw [h i (List.mem_range.1 hi)]]
theorem at8_bq (n : Nat) (f : Nat → Nat) (i : Nat) (hi : i < n) (hf : f i < 256) : at8 (bq n f) i = f i := by
  rw [at8_in _ _ (by rw [bq_size]; exact hi)]
  show (((List.range n).map fun i => UInt8.ofNat (f i)).toArray[i]'(by simp; exact hi)).toNat = f i
  simp [UInt8.toNat_ofNat']
  omega
theorem bq_at8 (s : ByteArray) : bq s.size (at8 s) = s := by
  apply ByteArray.ext
  apply Array.ext
  · exact bq_size s.size (at8 s)
  · intro i h1 h2
    have h3 : i < s.size := h2
    have e : (bq s.size (at8 s)).data[i]'h1 = UInt8.ofNat (at8 s i) := by
      show (((List.range s.size).map fun i => UInt8.ofNat (at8 s i)).toArray[i]'(by simpa using h3)) = _
      rw [List.getElem_toArray, List.getElem_map, List.getElem_range]
    rw [e, at8_in s i h3, UInt8.ofNat_toNat]
    rfl

theorem conv_ar (w : World) (s : ByteArray) :
    ∃ (cap : Nat) (W : World), (convert 9 22 (.string s)).run Tryd.prog w = .ok (.slice (some ⟨w.heap.size, 0, none⟩) s.size cap) W ∧ Below w.heap.size w W ∧ Ar W w.heap.size 0 s.size (at8 s) ∧ W.heap.size = w.heap.size + 1 := by
  refine ⟨_, _, run_bytes_of_string w 9 22 5 s Tryd.underlying9 Tryd.underlying22 Tryd.underlying5, ?_, ⟨?_, ?_, ?_⟩, ?_⟩
  · exact ((Below.refl _ _).drew).alloc (Nat.le_refl _) _
  · intro j h
    have := World.cell?_alloc_mark w.drew (bytesRow s (grownCap w s.size 0 5)) 5 ((bytesRow s (grownCap w s.size 0 5)).size, (bytesRow s (grownCap w s.size 0 5)).size + 1) j
    rw [World.size_drew] at this
    rw [Nat.zero_add, this, at8_in s j h]
    simp [bytesRow, Array.getElem?_append, h]
    rfl
  · intro j h
    have := World.frozen?_alloc_mark w.drew (bytesRow s (grownCap w s.size 0 5)) 5 (bytesRow s (grownCap w s.size 0 5)).size ((bytesRow s (grownCap w s.size 0 5)).size + 1) j
    rw [World.size_drew] at this
    rw [Nat.zero_add, this]
    simp [bytesRow]
    omega
  · simp
  · simp
theorem ar_string {w : World} {b o n : Nat} {f : Nat → Nat} (h : Ar w b o n f) (hf : ∀ i, i < n → f i < 256) (cap : Nat) :
    (convert 22 9 (.slice (some ⟨b, o, none⟩) n cap)).run Tryd.prog w = .ok (.string (bq n f)) w := by
  have := run_convert_bytes_back (P := Tryd.prog) w 22 9 5 ⟨b, o, none⟩ cap ((List.range n).map fun i => UInt8.ofNat (f i)) Tryd.underlying22 Tryd.underlying5 Tryd.underlying9 (by
    intro j hj
    simp at hj
    rw [Addr.add_mid, h.c j hj]
    have := hf j hj
    simp
    omega)
  simpa [bq] using this
end Go.Proofs.YtgjohakjknmngaaDoor.Dr
namespace Go.Proofs.YtgjohakjknmngaaDoor.Dr
open Go.ChangeShapes Go.WideShapes Go.ChangeAt Go.RowKit
set_option linter.unusedVariables false

theorem Kx.setNew {cb : Nat} {a w : World} (h : Kx cb a w) {p : Addr} (hp : a.heap.size ≤ p.block) (u : Value) : Kx cb a (w.setCell p u) :=
  ⟨h.os, h.tape, h.output, by simpa [World.setCell] using h.size, fun k hk hne => (Below.heap_setCell _ _ _ _ (by omega)).trans (h.block k hk hne)⟩
theorem Cu.setNew {w0 w : World} {cb : Nat} {a : Option Addr} {N cap P P0 : Nat} (h0 : Cu w0 cb a N cap P0) (h : Cu w cb a N cap P) {g : Nat} (hg : w0.heap.size ≤ g) (o : Nat) (u : Value) : Cu (w.setCell ⟨g, o, none⟩ u) cb a N cap P := by
  have hl := h0.lt
  have hne : ∀ q : Nat, (⟨g, o, none⟩ : Addr) ≠ ⟨cb, q, none⟩ := fun q e => absurd (congrArg Addr.block e) (by show g ≠ cb; omega)
  have hc : ∀ q : Nat, (w.setCell ⟨g, o, none⟩ u).cell? ⟨cb, q, none⟩ = w.cell? ⟨cb, q, none⟩ := fun q => World.cell?_setCell_other _ _ _ _ (hne q)
  refine ⟨by simpa [World.setCell] using h.lt, (hc 0).trans h.c0, ?_, ?_, fun q => ?_, ?_⟩
  · obtain ⟨p, h1, h2⟩ := h.c1
    exact ⟨p, h1, (hc 1).trans h2⟩
  · obtain ⟨s, h1, h2, h3⟩ := h.c2
    exact ⟨s, h1, h2, (hc 2).trans h3⟩
  · have := h.fz q
    rw [← this]
    exact World.frozen?_of_block (w := w) (a := ⟨cb, q, none⟩) (Below.heap_setCell w ⟨g, o, none⟩ u cb (by show cb ≠ g; omega))
  · rcases h.cd with e | ⟨b, off, e, hl1, hn1, hx⟩
    · exact Or.inl e
    · rcases h0.cd with e0 | ⟨b0, off0, e0, hl0, _, _⟩
      · exact Or.inl e0
      · have hb : b = b0 := by
          rw [e] at e0
          simp at e0
          exact e0.1
        refine Or.inr ⟨b, off, e, by simpa [World.setCell] using hl1, hn1, fun i hi => ?_⟩
        obtain ⟨x, h1, h2⟩ := hx i hi
        refine ⟨x, h1, ?_⟩
        rw [World.cell?_setCell_other _ _ _ _ (fun e9 => absurd (congrArg Addr.block e9) (by show g ≠ b; omega))]
        exact h2
theorem Ar.kx {cb b o n : Nat} {f : Nat → Nat} {w w' : World} (h : Kx cb w w') (hI : Ar w b o n f) (hne : b ≠ cb) : Ar w' b o n f := by
  have e := h.block b hI.lt hne
  exact ⟨fun i hi => (World.cell?_of_block (a := ⟨b, o + i, none⟩) e).trans (hI.c i hi), fun i hi => (World.frozen?_of_block (a := ⟨b, o + i, none⟩) e).trans (hI.fz i hi), Nat.lt_of_lt_of_le hI.lt h.size⟩
set_option maxRecDepth 100000 in
set_option maxHeartbeats 1000000 in
theorem sizedBytes_any (cb : Nat) (a : Option Addr) (N cap P n : Nat) (w : World) (hN : N ≤ 1048576) (hP : P ≤ 500000) (hn : n ≤ 10000) (h : Cu w cb a N cap P) :
    Calls Tryd.prog 27 #[.pointer (some ⟨cb, 0, none⟩), .int .i64 n] w fun e w' => ∃ f, e = .returned (.slice (some ⟨w.heap.size, 0, none⟩) n n) ∧ (∀ i, f i < 256) ∧ Ar w' w.heap.size 0 n f ∧ Cu w' cb a N cap (P + 2 * n) ∧ Kx cb w w' := by
  have HU := hide h
  have hcl := h.lt
  have hmk := mk_bytes n (by omega) w
  have hN0 := Ar.new w n (fun _ => 0) 5
  have u1 := h.alloc (.cells (us n fun _ => 0).toArray 5)
  have k1 := (Kx.refl cb w).alloc (.cells (us n fun _ => 0).toArray 5)
  have A1 := hide hN0
  have U1 := hide u1
  have K1 := hide k1
  clear h hN0 u1 k1
  go_enter Tryd.func27, Tryd.ntmps27
  go_wp2_with fail
  go_loopw [11] (fun iv wr => ∃ (k : Nat) (f : Nat → Nat), k ≤ n ∧ iv = .int .i64 k ∧ (∀ i, f i < 256) ∧ Ar wr w.heap.size 0 n f ∧ Cu wr cb a N cap (P + 2 * k) ∧ Kx cb w wr) (fun iv _ => n - (intOf iv).toNat)
  case atStart => exact ⟨0, _, by omega, rfl, fun _ => by omega, unhide A1, unhide U1, unhide K1⟩
  case round =>
    obtain ⟨k, f, hk, rfl, hf, hA, hU, hK⟩ := hrel
    clear A1 U1 K1
    by_cases hlt : k < n
    · have U0 := hide hU
      have K0 := hide hK
      have A0 := hide hA
      have F0 := hide hf
      clear hU hK hA hf hmk
      go_wp2_with fail
      refine (pick_any cb a N cap (P + 2 * k) 256 _ hN (by omega) (by omega) (by omega) (unhide U0)).mono ?_
      rintro e w1 ⟨r, rfl, hr0, hr1, u1, k1⟩
      obtain ⟨x, rfl⟩ := Int.eq_ofNat_of_zero_le hr0
      have A1 := Ar.kx k1 (unhide A0) (by omega)
      have K1 := (unhide K0).trans k1
      have hc := A1.c0 k hlt
      have hz := A1.f0 k hlt
      have A2 := hide (A1.put0 (g := fun i => if i = k then x else f i) (k := k) (x := x) hlt (by simp) (fun i _ hne => by simp [hne]))
      have K2 := hide (K1.setNew (p := ⟨w.heap.size, k, none⟩) (Nat.le_refl _) (.int .u8 (x : Int)))
      have U2 := hide (Cu.setNew (unhide HU) u1 (Nat.le_refl _) k (.int .u8 (x : Int)))
      have F2 : Hid (∀ i, (if i = k then x else f i) < 256) := fun i => by
        by_cases e : i = k
        · rw [if_pos e]; omega
        · rw [if_neg e]; exact unhide F0 i
      clear A1 K1 u1 k1 U0 K0 A0 F0
      generalize hf2 : (fun i => if i = k then x else f i) = f2 at *
      have HF2 := hide hf2
      clear hf2
      go_wp2
      exact ⟨⟨k + 1, f2, by omega, by go_num, by rw [← unhide HF2]; exact unhide F2, unhide A2, by rw [show P + 2 * (k + 1) = P + 2 * k + 2 by omega]; exact unhide U2, unhide K2⟩, by simp [intOf]; omega⟩
    · obtain rfl : k = n := by omega
      clear hmk
      go_wp2
      go_ret
      exact ⟨f, rfl, hf, hA, hU, hK⟩
theorem bq_le (n m : Nat) (f : Nat → Nat) (h : n ≤ m) : (bq n f).size ≤ m := by rw [bq_size]; exact h
end Go.Proofs.YtgjohakjknmngaaDoor.Dr
namespace Go.Proofs.YtgjohakjknmngaaDoor.Dr
open Go.ChangeShapes Go.WideShapes Go.ChangeAt Go.RowKit
set_option linter.unusedVariables false

set_option maxRecDepth 100000 in
set_option maxHeartbeats 1000000 in
theorem id_any (cb : Nat) (a : Option Addr) (N cap P : Nat) (w : World) (hN : N ≤ 1048576) (hP : P ≤ 400000) (h : Cu w cb a N cap P) :
    Calls Tryd.prog 12 #[.pointer (some ⟨cb, 0, none⟩)] w fun e w' => ∃ t : ByteArray, e = .returned (.string t) ∧ t.size ≤ 21 ∧ Cu w' cb a N cap (P + 60) ∧ Kx cb w w' := by
  have HU := hide h
  clear h
  go_enter Tryd.func12, Tryd.ntmps12
  go_wp2_with fail
  refine (pick_any cb a N cap P 10 _ hN (by omega) (by omega) (by omega) (unhide HU)).mono ?_
  rintro e w1 ⟨r, rfl, hr0, hr1, u1, k1⟩
  obtain ⟨n, rfl⟩ := Int.eq_ofNat_of_zero_le hr0
  have U1 := hide u1
  have K1 := hide k1
  clear u1 k1 HU
  go_wp2_with fail
  refine (one_any cb a N cap (P + 2) 12 _ hN (by omega) (by omega) (by omega) (unhide U1)).mono ?_
  rintro e w2 ⟨rb, rfl, u2, k2⟩
  have U2 := hide u2
  have K2 := hide ((unhide K1).trans k2)
  clear u2 k2 U1 K1
  cases rb with
  | false =>
    go_wp2_with fail
    refine (sizedBytes_any cb a N cap (P + 2 + 2) n _ hN (by omega) (by omega) (unhide U2)).mono ?_
    rintro e w3 ⟨f, rfl, hf, hA, u3, k3⟩
    have hst := ar_string hA (fun i _ => hf i) n
    have U3 := hide (u3.mono (Q := P + 60) (by omega))
    have K3 := hide ((unhide K2).trans k3)
    have hsz := bq_le n 21 f (by omega)
    clear u3 k3 hA hf
    generalize bq n f = t at *
    go_wp2
    go_ret
    exact ⟨t, rfl, hsz, unhide U3, unhide K3⟩
  | true =>
    have hne : w2.heap.size ≠ cb := by have := (unhide U2).lt; omega
    have hx := lit_cells w2 [20, 21, 0] 3 (fun x => 0 ≤ x ∧ x ≤ 21) (by decide)
    have UA := hide ((unhide U2).alloc (.cells #[.int .i64 20, .int .i64 21, .int .i64 0] 3))
    have KA := hide ((unhide K2).alloc (.cells #[.int .i64 20, .int .i64 21, .int .i64 0] 3))
    have HX := hide hx
    clear hx U2 K2
    go_wp2_with fail
    refine (among_any cb a N cap (P + 2 + 2) w2.heap.size 3 3 (fun x => 0 ≤ x ∧ x ≤ 21) _ hN (by omega) (by omega) (by omega) (by simp) hne (unhide HX) (unhide UA)).mono ?_
    rintro e w3 ⟨r, rfl, ⟨h0, h1⟩, u3, k3⟩
    obtain ⟨m, rfl⟩ := Int.eq_ofNat_of_zero_le h0
    have U3 := hide u3
    have K3 := hide ((unhide KA).trans k3)
    clear u3 k3 UA KA HX
    go_wp2_with fail
    refine (sizedBytes_any cb a N cap (P + 2 + 2 + 2) m _ hN (by omega) (by omega) (unhide U3)).mono ?_
    rintro e w4 ⟨f, rfl, hf, hA, u4, k4⟩
    have hst := ar_string hA (fun i _ => hf i) m
    have U4 := hide (u4.mono (Q := P + 60) (by omega))
    have K4 := hide ((unhide K3).trans k4)
    have hsz := bq_le m 21 f (by omega)
    clear u4 k4 hA hf
    generalize bq m f = t at *
    go_wp2
    go_ret
    exact ⟨t, rfl, hsz, unhide U4, unhide K4⟩
end Go.Proofs.YtgjohakjknmngaaDoor.Dr
