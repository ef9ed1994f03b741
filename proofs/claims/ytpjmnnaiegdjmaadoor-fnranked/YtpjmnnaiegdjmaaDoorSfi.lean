/-
  Contracts: a text filled up for its hash, the program's.
-/
import Derived.Test.YtpjmnnaiegdjmaaDoorSzr
namespace Go.Proofs.YtpjmnnaiegdjmaaDoor
open Go.ChangeShapes Go.WideShapes Go.ChangeAt Go.RowKit
set_option linter.unusedVariables false

/-- how long a text of n bytes is when it is filled up -/
def pdL (n : Nat) : Nat := n + 1 + (63 - (n + 8) % 64) + 8
theorem pdL_mod (n : Nat) : pdL n % 64 = 0 := by unfold pdL; omega
theorem pdL_gt (n : Nat) : n + 9 ≤ pdL n ∧ pdL n ≤ n + 72 := by unfold pdL; omega
/-- its bytes: the text, 128, noughts, how many bits sz bytes are -/
def pdB (t : ByteArray) (sz i : Nat) : Nat :=
  if i < t.size then at8 t i else if i = t.size then 128 else if i + 4 < pdL t.size then 0 else byW (8 * sz) (pdL t.size - 1 - i)
theorem pdB_lt (t : ByteArray) (sz i : Nat) : pdB t sz i < 256 := by
  unfold pdB
  split
  · exact at8_lt _ _
  · split
    · omega
    · split
      · omega
      · exact byW_lt _ _
theorem pdB_text (t : ByteArray) (sz i : Nat) (h : i < t.size) : pdB t sz i = at8 t i := by unfold pdB; rw [if_pos h]
theorem pdB_mark (t : ByteArray) (sz : Nat) : pdB t sz t.size = 128 := by unfold pdB; rw [if_neg (by omega), if_pos rfl]
theorem pdB_zero (t : ByteArray) (sz i : Nat) (h : t.size < i) (h2 : i + 4 < pdL t.size) : pdB t sz i = 0 := by unfold pdB; rw [if_neg (by omega), if_neg (by omega), if_pos h2]
theorem pdB_bits (t : ByteArray) (sz i : Nat) (h : t.size < i) (h2 : ¬ i + 4 < pdL t.size) : pdB t sz i = byW (8 * sz) (pdL t.size - 1 - i) := by unfold pdB; rw [if_neg (by omega), if_neg (by omega), if_neg h2]
/-- two numbers -/
def two (a b i : Nat) : Nat := if i = 0 then a else b
theorem Sv.string {base : Nat} {w : World} {v : Value} {n : Nat} {f : Nat → Nat} (h : Sv base w v n f) (hn : 0 < n) (hf : ∀ i, i < n → f i < 256) : (convert 36 9 v).run Tryd.prog w = .ok (.string (bq n f)) w := by
  rcases h with ⟨h0, _⟩ | ⟨g, o, cap, rfl, _, hs⟩
  · omega
  · exact ar_string hs.ar hf cap
theorem byW_zero (k : Nat) : byW 0 k = 0 := by unfold byW; simp
set_option maxRecDepth 100000 in
set_option maxHeartbeats 1000000 in
theorem implFilled (t : ByteArray) (sz : Nat) (ht : t.size ≤ 10000) (hsz : sz ≤ 100000) (w : World) :
    Calls Tryd.prog 89 #[.string t, .int .i64 sz] w fun e w' => e = .returned (.string (bq (pdL t.size) (pdB t sz))) ∧ Below w.heap.size w w' := by
  obtain ⟨cap, W, hcv, hbW, hsW, hszW⟩ := conv_sp w t
  have h1 : Sg W w.heap.size 0 t.size cap (pdB t sz) := ⟨hsW.ar.congr (fun i hi => (pdB_text t sz i hi).symm), hsW.le, hsW.sp⟩
  have al1 := (Below.refl W.heap.size W).alloc (Nat.le_refl _) (.cells #[.int .u8 128] 5)
  obtain ⟨g1, o1, c1, W1, r1, hor1, s1, b1, ot1⟩ := (h1.below al1 h1.ar.lt).pushs (base := w.heap.size) (Nat.le_refl _) (by rw [World.size_alloc]; omega) ⟨W.heap.size, 0, none⟩ 1 1 (fun j u hu => by
    rw [Addr.add_mid, Nat.zero_add]
    have hj : j < 1 := by
      have := (List.getElem?_eq_some_iff.1 hu).1
      rwa [us_length] at this
    obtain rfl : j = 0 := by omega
    simp only [us_def, List.getElem?_map, List.getElem?_range hj, Option.map_some, Option.some.injEq] at hu
    subst hu
    rw [Nat.add_zero, pdB_mark]
    simp) (by omega) 36
  rw [World.size_alloc] at hor1
  have hg1 : w.heap.size ≤ g1 := by rcases hor1 with e | e <;> omega
  have B1 : Below w.heap.size w W1 := (hbW.trans (al1.mono (by omega))).trans b1
  obtain ⟨nn, hnn⟩ : ∃ k, k = 63 - (t.size + 8) % 64 := ⟨_, rfl⟩
  have hL : pdL t.size = t.size + 1 + nn + 8 := by rw [hnn]; rfl
  obtain ⟨g2, o2, c2, W2, r2, hor2, s2, b2⟩ := s1.zeros (base := w.heap.size) hg1 B1.size nn (fun i hi => pdB_zero t sz _ (by omega) (by omega)) (by omega) 36
  have hg2 : w.heap.size ≤ g2 := by
    have := B1.size
    rcases hor2 with e | e
    · omega
    · omega
  have B2 : Below w.heap.size w W2 := B1.trans b2
  have R1 := hide r1
  have R2 := hide r2
  have S2 := hide s2
  have HB2 := hide B2
  clear h1 al1 hor1 s1 b1 ot1 hsW hbW hor2 s2 b2 r1 r2
  have HCV := hide hcv
  clear hcv
  have hrem : Int.tmod ((t.size : Int) + 8) 64 = (((t.size + 8) % 64 : Nat) : Int) := by rw [Int.tmod_eq_emod_of_nonneg (by omega)]; omega
  have hnI : (63 : Int) - ((t.size : Int) + 8) % 64 = (nn : Int) := by omega
  have HL := hide hL
  have hnb : nn ≤ 63 := by omega
  clear hnn hL hrem hszW
  go_enter Tryd.func89, Tryd.ntmps89
  go_wp2_with fail
  rw [unhide HCV]
  clear HCV
  go_wp2_with (at_builtin; first
    | (refine Go.Lib.wpList_append_run _ rfl _ _ 36 36 rfl _ _ rfl rfl _ _ (unhide R1) ?_)
    | (refine Go.Lib.wpList_append_run _ rfl _ _ 36 3 rfl _ _ rfl rfl _ _ (unhide R2) ?_))
  have hg2l := (unhide S2).ar.lt
  have hsz2 := (unhide HB2).size
  have al3 := (Below.refl W2.heap.size W2).alloc (Nat.le_refl _) (.cells #[.int .i64 0, .int .i64 (8 * (sz : Int))] 3)
  have hA3 : Ai (W2.alloc (.cells #[.int .i64 0, .int .i64 (8 * (sz : Int))] 3)) W2.heap.size 0 2 (two 0 (8 * sz)) := by
    have h := Ai.new W2 2 (two 0 (8 * sz)) 3
    rw [ui_def] at h
    have e : (((List.range 2).map fun i => Value.int .i64 ((two 0 (8 * sz) i : Nat) : Int)).toArray : Array Value) = #[.int .i64 0, .int .i64 (8 * (sz : Int))] := by
      simp [two, List.range_succ]
    rw [e] at h
    exact h
  have hS3 : Sv w.heap.size (W2.alloc (.cells #[.int .i64 0, .int .i64 (8 * (sz : Int))] 3)) (.slice (some ⟨g2, o2, none⟩) (t.size + 1 + nn) c2) (t.size + 1 + nn) (pdB t sz) := Or.inr ⟨g2, o2, c2, rfl, hg2, (unhide S2).below al3 hg2l⟩
  have hL := unhide HL
  refine (appendWords_sv _ (t.size + 1 + nn) w.heap.size W2.heap.size 2 2 (pdB t sz) (two 0 (8 * sz)) _ hS3 (by rw [World.size_alloc]; omega) (by simp [Value.ownBlock]; omega) hA3 (fun i hi => by unfold two; split <;> omega) (by omega) (fun i hi j hj => ?_)).mono ?_
  · have hi2 : i = 0 ∨ i = 1 := by omega
    rcases hi2 with rfl | rfl
    · rw [pdB_zero t sz _ (by omega) (by omega)]
      exact (byW_zero _).symm
    · rw [pdB_bits t sz _ (by omega) (by omega), hL]
      show byW (8 * sz) _ = byW (8 * sz) _
      congr 1
      omega
  · rintro e w4 ⟨v4, rfl, hv4, b4⟩
    have HB4 := hide (((unhide HB2).trans (al3.mono hsz2)).trans b4)
    have hst := hv4.string (by omega) (fun i _ => pdB_lt t sz i)
    rw [show t.size + 1 + nn + 4 * 2 = pdL t.size by omega] at hst
    clear hv4 b4 hA3 hS3 al3 hL
    go_wp2
    go_ret
    exact ⟨rfl, unhide HB4⟩
end Go.Proofs.YtpjmnnaiegdjmaaDoor
