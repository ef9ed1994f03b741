/-
  Contract: DestOf, as the program makes it: its closure, and the whole.
-/
import Derived.Test.YtmajcpimahkpfaaDoorDsi
import Derived.Test.YtmajcpimahkpfaaDoorFlt
namespace Go.Proofs.YtmajcpimahkpfaaDoor
open Go.ChangeShapes Go.WideShapes Go.ChangeAt Go.RowKit
set_option linter.unusedVariables false

/-- the blocks that are kept -/
structure Kp (keep : Nat → Prop) (w w' : World) : Prop where
  os : w'.os = w.os
  tape : w'.tape = w.tape
  output : w'.output = w.output
  size : w.heap.size ≤ w'.heap.size
  block : ∀ k, k < w.heap.size → keep k → w'.heap[k]? = w.heap[k]?
theorem Kx.kp {cb : Nat} {w w' : World} {keep : Nat → Prop} (h : Kx cb w w') (hk : ∀ k, keep k → k ≠ cb) : Kp keep w w' := ⟨h.os, h.tape, h.output, h.size, fun k h1 h2 => h.block k h1 (hk k h2)⟩
theorem Kp.set {keep : Nat → Prop} {a w : World} (h : Kp keep a w) (b o : Nat) (u : Value) (hb : ¬ keep b) : Kp keep a (w.setCell ⟨b, o, none⟩ u) :=
  ⟨h.os, h.tape, h.output, by simpa using h.size, fun k h1 h2 => (Below.heap_setCell w ⟨b, o, none⟩ u k (by intro e; subst e; exact hb h2)).trans (h.block k h1 h2)⟩
theorem Kp.cell {keep : Nat → Prop} {w w' : World} (h : Kp keep w w') {b : Nat} (o : Nat) (h1 : b < w.heap.size) (h2 : keep b) : w'.cell? ⟨b, o, none⟩ = w.cell? ⟨b, o, none⟩ := World.cell?_of_block (a := ⟨b, o, none⟩) (h.block b h1 h2)
theorem Kp.frozen {keep : Nat → Prop} {w w' : World} (h : Kp keep w w') {b : Nat} (o : Nat) (h1 : b < w.heap.size) (h2 : keep b) : w'.frozen? ⟨b, o, none⟩ = w.frozen? ⟨b, o, none⟩ := World.frozen?_of_block (a := ⟨b, o, none⟩) (h.block b h1 h2)
theorem Kp.below {keep : Nat → Prop} {w w' : World} {B : Nat} (h : Kp keep w w') (h1 : B ≤ w.heap.size) (h2 : ∀ k, k < B → keep k) : Below B w w' :=
  ⟨h.os, h.tape, h.output, h.size, fun k hk => h.block k (by omega) (h2 k hk)⟩

/-- what DestOf's closure finds -/
structure Lt (w : World) (pc ps pi pl cb short : Nat) (s : ByteArray) : Prop where
  c : w.cell? ⟨pc, 0, none⟩ = some (.pointer (some ⟨cb, 0, none⟩))
  sh : w.cell? ⟨ps, 0, none⟩ = some (.int .i64 (short : Int))
  i : w.cell? ⟨pi, 0, none⟩ = some (.string ⟨#[]⟩)
  l : w.cell? ⟨pl, 0, none⟩ = some (.bool false)
  fi : w.frozen? ⟨pi, 0, none⟩ = false
  fl : w.frozen? ⟨pl, 0, none⟩ = false
  cu : Cc w cb s 0 0
  li : pi < w.heap.size
  ll : pl < w.heap.size
  ni : pi ≠ cb
  nl : pl ≠ cb
  nil : pi ≠ pl
theorem lit_ok (pc ps pi pl cb short : Nat) (s : ByteArray) (x : ByteArray × Bool) (w : World) (hs : s.size ≤ 1048576) (hsh : short ≤ 20) (hR : dR s short = some x) (h : Lt w pc ps pi pl cb short s) :
    Calls Tryd.prog 20 #[.pointer (some ⟨pc, 0, none⟩), .pointer (some ⟨ps, 0, none⟩), .pointer (some ⟨pi, 0, none⟩), .pointer (some ⟨pl, 0, none⟩)] w fun e w' =>
      e = .returned (.tuple #[]) ∧ (w'.cell? ⟨pi, 0, none⟩ = some (.string x.1) ∧ w'.cell? ⟨pl, 0, none⟩ = some (.bool x.2) ∧ Kp (fun k => k ≠ cb ∧ k ≠ pi ∧ k ≠ pl) w w') := by
  have HD := hide (dest_any cb short s 0 w hs hsh h.cu)
  rw [hR] at HD
  have hc := h.c
  have hsh := h.sh
  go_enter Tryd.func20, Tryd.ntmps20
  go_wp2_with fail
  refine (unhide HD).mono ?_
  rintro e w1 ⟨rfl, k1⟩
  have i1 := (k1.cell (p := ⟨pi, 0, none⟩) h.li h.ni).trans h.i
  have l1 := (k1.cell (p := ⟨pl, 0, none⟩) h.ll h.nl).trans h.l
  have fi1 := (k1.frozen (p := ⟨pi, 0, none⟩) h.li h.ni).trans h.fi
  have fl1 := (k1.frozen (p := ⟨pl, 0, none⟩) h.ll h.nl).trans h.fl
  have nil1 := h.nil
  have nil2 := h.nil.symm
  go_wp2_with fail
  go_end0
  refine ⟨rfl, ?_, ?_, ?_⟩
  · rw [World.cell?_setCell_other _ _ _ _ (by simp)]; exact World.cell?_setCell_same _ _ _ i1
  · exact World.cell?_setCell_same _ _ _ (by rw [World.cell?_setCell_other _ _ _ _ (by simp)]; exact l1)
  · exact ((k1.kp (fun k hk => hk.1)).set pi 0 _ (fun hk => hk.2.1 rfl)).set pl 0 _ (fun hk => hk.2.2 rfl)
theorem lit_bad (pc ps pi pl cb short : Nat) (s : ByteArray) (w : World) (hs : s.size ≤ 1048576) (hsh : short ≤ 20) (hR : dR s short = none) (h : Lt w pc ps pi pl cb short s) :
    Calls Tryd.prog 20 #[.pointer (some ⟨pc, 0, none⟩), .pointer (some ⟨ps, 0, none⟩), .pointer (some ⟨pi, 0, none⟩), .pointer (some ⟨pl, 0, none⟩)] w fun e w' =>
      ∃ c : Int, (c = 1 ∨ c = 3) ∧ e = gives c ∧ Kp (fun k => k ≠ cb ∧ k ≠ pi ∧ k ≠ pl) w w' := by
  have HD : Hid (Calls Tryd.prog 21 #[.pointer (some ⟨cb, 0, none⟩), .int .i64 short] w fun e w' => ∃ c : Int, (c = 1 ∨ c = 3) ∧ e = gives c ∧ Kx cb w w') := by
    have := dest_any cb short s 0 w hs hsh h.cu
    rw [hR] at this
    refine this.mono ?_
    rintro e w' ⟨h1 | h1, k1⟩
    · exact ⟨1, Or.inl rfl, h1, k1⟩
    · exact ⟨3, Or.inr rfl, h1, k1⟩
  have hc := h.c
  have hsh := h.sh
  go_enter Tryd.func20, Tryd.ntmps20
  go_wp2_with fail
  refine (unhide HD).mono ?_
  rintro e w1 ⟨c, hC, rfl, k1⟩
  go_wp2_with fail
  exact ⟨rfl, c, hC, rfl, k1.kp (fun k hk => hk.1)⟩

/-- DestOf's own blocks: short, the cursor, c, id, long; and faultOf's code -/
abbrev wD (w : World) (s : ByteArray) (short : Nat) : World := ((((w.alloc (.cells #[.int .i64 (short : Int)] 3)).alloc (.cells #[.string s, .int .i64 0, .int .i64 0] 46)).alloc (.cells #[.pointer (some ⟨w.heap.size + 1, 0, none⟩)] 44)).alloc (.cells #[.string ⟨#[]⟩] 9)).alloc (.cells #[.bool false] 4)
abbrev wE (w : World) (s : ByteArray) (short : Nat) : World := (wD w s short).alloc (.cells #[.int .i64 0] 3)
theorem wE_lt (w : World) (s : ByteArray) (short : Nat) : Lt (wE w s short) (w.heap.size + 1 + 1) w.heap.size (w.heap.size + 1 + 1 + 1) (w.heap.size + 1 + 1 + 1 + 1) (w.heap.size + 1) short s := by
  refine ⟨?_, ?_, ?_, ?_, ?_, ?_, ⟨?_, ?_, ?_, ?_, fun o => ?_⟩, ?_, ?_, ?_, ?_, ?_⟩ <;> simp [go_sem]
  all_goals omega
theorem wD_size (w : World) (s : ByteArray) (short : Nat) : (wD w s short).heap.size = w.heap.size + 5 := by simp
theorem wE_size (w : World) (s : ByteArray) (short : Nat) : (wE w s short).heap.size = w.heap.size + 6 := by simp
theorem wE_below (w : World) (s : ByteArray) (short : Nat) : Below w.heap.size w (wE w s short) := by
  refine ((((((Below.refl _ _).alloc (Nat.le_refl _) _).alloc ?_ _).alloc ?_ _).alloc ?_ _).alloc ?_ _).alloc ?_ _ <;> simp <;> omega
/-- faultOf's code is as it was -/
theorem wE_code {w w1 : World} {s : ByteArray} {short : Nat} (h : Kp (fun k => k ≠ w.heap.size + 1 ∧ k ≠ w.heap.size + 1 + 1 + 1 ∧ k ≠ w.heap.size + 1 + 1 + 1 + 1) (wE w s short) w1) :
    w1.cell? ⟨(wD w s short).heap.size, 0, none⟩ = some (.int .i64 0) ∧ w1.frozen? ⟨(wD w s short).heap.size, 0, none⟩ = false := by
  have k : (wD w s short).heap.size ≠ w.heap.size + 1 ∧ (wD w s short).heap.size ≠ w.heap.size + 1 + 1 + 1 ∧ (wD w s short).heap.size ≠ w.heap.size + 1 + 1 + 1 + 1 := by rw [wD_size]; omega
  have l : (wD w s short).heap.size < (wE w s short).heap.size := by rw [wD_size, wE_size]; omega
  refine ⟨(h.cell 0 l k).trans ?_, (h.frozen 0 l k).trans ?_⟩
  · exact World.cell?_alloc_new _ _ _ _
  · simp [go_sem]
theorem wE_after {w w1 : World} {s : ByteArray} {short : Nat} {v : Value} (h : Kp (fun k => k ≠ w.heap.size + 1 ∧ k ≠ w.heap.size + 1 + 1 + 1 ∧ k ≠ w.heap.size + 1 + 1 + 1 + 1) (wE w s short) w1) :
    Below w.heap.size w (w1.setCell ⟨(wD w s short).heap.size, 0, none⟩ v) :=
  ((wE_below w s short).trans (h.below (wE_below w s short).size (fun k hk => by omega))).setCell (by rw [wD_size]; simp) _

theorem goodShort_any (n : Int) (w : World) : Calls Tryd.prog 16 #[.int .i64 n] w fun e w' => e = .returned (.bool (decide (0 ≤ n ∧ n ≤ 20))) ∧ w' = w := by
  by_cases h0 : 0 ≤ n
  · by_cases h1 : n ≤ 20
    · go_enter Tryd.func16, Tryd.ntmps16
      go_wp2
      go_ret
      exact ⟨by simp [h0, h1], rfl⟩
    · go_enter Tryd.func16, Tryd.ntmps16
      go_wp2
      go_ret
      exact ⟨by simp [h1], rfl⟩
  · go_enter Tryd.func16, Tryd.ntmps16
    go_wp2
    go_ret
    exact ⟨by rw [show decide (0 ≤ n) = false from decide_eq_false (by omega)]; rfl, rfl⟩
theorem implDest_wild (s : ByteArray) (short : Int) (w : World) (hsh : ¬ (0 ≤ short ∧ short ≤ 20)) :
    Calls Tryd.prog 8 #[.string s, .int .i64 short] w fun e w' => e = .returned (.tuple #[.string ⟨#[]⟩, .bool false, .bool false]) ∧ Below w.heap.size w w' := by
  have HG := hide (fun W => goodShort_any short W)
  rw [decide_eq_false hsh] at HG
  clear hsh
  go_enter Tryd.func8, Tryd.ntmps8
  go_wp2_with (go_at_call 16; refine (unhide HG _).mono ?_; rintro e w1 ⟨rfl, rfl⟩)
  go_ret3
  exact ⟨rfl, (Below.refl _ _).alloc (Nat.le_refl _) _⟩
set_option maxHeartbeats 1000000 in
theorem implDest_none (s : ByteArray) (short : Nat) (w : World) (hs : s.size ≤ 1048576) (hsh : short ≤ 20) (hR : dR s short = none) :
    Calls Tryd.prog 8 #[.string s, .int .i64 short] w fun e w' => e = .returned (.tuple #[.string ⟨#[]⟩, .bool false, .bool false]) ∧ Below w.heap.size w w' := by
  have hmf : ∀ (fn : Fn) (first cap : Array Value) (w : World), (Instr.makeFunc fn first cap).run Tryd.prog w = .ok (.func fn first cap) w := fun _ _ _ _ => rfl
  have HG := hide (fun W => goodShort_any short W)
  rw [decide_eq_true (by omega)] at HG
  have HR := hide hR
  clear hR
  go_enter Tryd.func8, Tryd.ntmps8
  go_wp2_with (go_at_call 16; refine (unhide HG _).mono ?_; rintro e w1 ⟨rfl, rfl⟩)
  refine (fdest_bad _ (fun c => c = 1 ∨ c = 3) (wD w s short) _ (fun w' hw' => wE_code hw') (lit_bad (w.heap.size + 1 + 1) w.heap.size (w.heap.size + 1 + 1 + 1) (w.heap.size + 1 + 1 + 1 + 1) (w.heap.size + 1) short s _ hs hsh (unhide HR) (wE_lt w s short))).mono ?_
  rintro e w2 ⟨c, hC, rfl, w1, hp, rfl⟩
  have hc0 : (c != 0) = true := by rcases hC with rfl | rfl <;> decide
  have B := wE_after (v := .int .i64 c) hp
  clear hp
  generalize w1.setCell ⟨(wD w s short).heap.size, 0, none⟩ (.int .i64 c) = w3 at B ⊢
  go_wp2
  go_ret3
  exact ⟨rfl, B⟩
set_option maxHeartbeats 1000000 in
theorem implDest_some (s : ByteArray) (short : Nat) (w : World) (x : ByteArray × Bool) (hs : s.size ≤ 1048576) (hsh : short ≤ 20) (hR : dR s short = some x) :
    Calls Tryd.prog 8 #[.string s, .int .i64 short] w fun e w' => e = .returned (.tuple #[.string x.1, .bool x.2, .bool true]) ∧ Below w.heap.size w w' := by
  have hmf : ∀ (fn : Fn) (first cap : Array Value) (w : World), (Instr.makeFunc fn first cap).run Tryd.prog w = .ok (.func fn first cap) w := fun _ _ _ _ => rfl
  have HG := hide (fun W => goodShort_any short W)
  rw [decide_eq_true (by omega)] at HG
  have HR := hide hR
  clear hR
  go_enter Tryd.func8, Tryd.ntmps8
  go_wp2_with (go_at_call 16; refine (unhide HG _).mono ?_; rintro e w1 ⟨rfl, rfl⟩)
  refine (fdest_ok _ (wD w s short) _ (fun w' hw' => wE_code hw'.2.2) (lit_ok (w.heap.size + 1 + 1) w.heap.size (w.heap.size + 1 + 1 + 1) (w.heap.size + 1 + 1 + 1 + 1) (w.heap.size + 1) short s x _ hs hsh (unhide HR) (wE_lt w s short))).mono ?_
  rintro e w2 ⟨rfl, w1, ⟨hi, hl, hp⟩, rfl⟩
  have B := wE_after (v := .int .i64 0) hp
  have hi3 : (w1.setCell ⟨(wD w s short).heap.size, 0, none⟩ (.int .i64 0)).cell? ⟨w.heap.size + 1 + 1 + 1, 0, none⟩ = some (.string x.1) := by
    rw [World.cell?_setCell_other _ _ _ _ (by rw [wD_size]; simp)]; exact hi
  have hl3 : (w1.setCell ⟨(wD w s short).heap.size, 0, none⟩ (.int .i64 0)).cell? ⟨w.heap.size + 1 + 1 + 1 + 1, 0, none⟩ = some (.bool x.2) := by
    rw [World.cell?_setCell_other _ _ _ _ (by rw [wD_size]; simp)]; exact hl
  clear hp hi hl
  generalize w1.setCell ⟨(wD w s short).heap.size, 0, none⟩ (.int .i64 0) = w3 at B hi3 hl3 ⊢
  go_wp2_with fail
  go_quiet (fail)
  all_goals
    go_wp2
    go_ret3
    exact ⟨rfl, B.trans (below_drewN (Below.refl _ _) _)⟩
end Go.Proofs.YtmajcpimahkpfaaDoor
