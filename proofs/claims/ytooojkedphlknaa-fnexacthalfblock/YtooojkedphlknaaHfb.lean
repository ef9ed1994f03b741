/-
  Contracts: halves in their blocks: HalfBlock of both sides.
-/
import Derived.Test.YtooojkedphlknaaAbo
import Derived.Test.YtooojkedphlknaaL6f
namespace Go.Proofs.Ytooojkedphlknaa
open Go.ChangeShapes Go.WideShapes Go.ChangeAt Go.RowKit
set_option linter.unusedVariables false
set_option maxRecDepth 100000

/-- a half in its block: passes 1 and 3 -/
def hbO (h n p : Nat) (f : Nat → Nat) (i : Nat) : Nat := if i < h then f i else if i = 14 then n else if i = 15 then p else 0
/-- a half in its block: passes 2 and 4 -/
def hbE (h n p : Nat) (f : Nat → Nat) (i : Nat) : Nat := if i = 0 then n else if i = 1 then p else if i < 16 - h then 0 else if i < 16 then f (i - (16 - h)) else 0
/-- a half in its block -/
def hbP (h n p : Nat) (f : Nat → Nat) : Nat → Nat := if p % 2 = 1 then hbO h n p f else hbE h n p f
theorem hbO_lt (h n p : Nat) (f : Nat → Nat) (hf : ∀ i, f i < 256) (hn : n < 256) (hp : p < 256) (i : Nat) : hbO h n p f i < 256 := by
  unfold hbO
  split
  · exact hf i
  · split
    · exact hn
    · split <;> omega
theorem hbE_lt (h n p : Nat) (f : Nat → Nat) (hf : ∀ i, f i < 256) (hn : n < 256) (hp : p < 256) (i : Nat) : hbE h n p f i < 256 := by
  unfold hbE
  split
  · exact hn
  · split
    · exact hp
    · split
      · omega
      · split
        · exact hf _
        · omega
theorem hbP_lt (h n p : Nat) (f : Nat → Nat) (hf : ∀ i, f i < 256) (hn : n < 256) (hp : p < 256) (i : Nat) : hbP h n p f i < 256 := by
  unfold hbP
  split
  · exact hbO_lt h n p f hf hn hp i
  · exact hbE_lt h n p f hf hn hp i
theorem hbP_congr (h n p : Nat) (f g : Nat → Nat) (hh : h ≤ 14) (e : ∀ i, i < h → f i = g i) : hbP h n p f = hbP h n p g := by
  unfold hbP
  split
  · funext i
    unfold hbO
    split
    · rename_i hi
      exact e i hi
    · rfl
  · funext i
    unfold hbE
    split
    · rfl
    · split
      · rfl
      · split
        · rfl
        · split
          · rename_i _ _ h3 h4
            exact e _ (by omega)
          · rfl
/-- a half in its block, as a text -/
def hbW (s : ByteArray) (n p : Nat) : ByteArray := bq 16 (hbP s.size n p (at8 s))
theorem hbW_size (s : ByteArray) (n p : Nat) : (hbW s n p).size = 16 := bq_size _ _
theorem copy_b (w : World) (d q dl dc b o h sc : Nat) (f g : Nat → Nat) (hh : h ≤ dl) (hd : Ar w d q dl g) (hr : Ar w b o h f) :
    (Builtin.copy_ #[41, 41] 3 #[.slice (some ⟨d, q, none⟩) dl dc, .slice (some ⟨b, o, none⟩) h sc]).run Try.prog w = .ok (goInt h) (w.setCells d q (us h f)) := by
  have := run_copy_cells (P := Try.prog) w 41 41 3 5 d q dl dc ⟨b, o, none⟩ h sc (us h f) Try.underlying41 (by kernel_rfl) (by rw [us_length]; exact (Nat.min_eq_left hh).symm)
    (fun j v hv => by rw [Addr.add_mid]; exact hr.range j v hv)
    (fun j hj => by rw [us_length] at hj; rw [hd.c j (by omega)]; rfl) (fun j hj => by rw [us_length] at hj; exact hd.fz j (by omega)) (us_oneL _ _)
  rw [us_length] at this
  exact this
set_option maxHeartbeats 2000000 in
theorem implHalfO (hb ho h cap n p : Nat) (f : Nat → Nat) (hh : h ≤ 10) (hn : n ≤ 19) (hp : p ≤ 4) (hp1 : p % 2 = 1) (w : World) (hA : Ar w hb ho h f) :
    Calls Try.prog 18 #[.slice (some ⟨hb, ho, none⟩) h cap, .int .i64 n, .int .i64 p] w fun e w' => e = .returned (.agg (us 16 (hbO h n p f)).toArray) ∧ Below w.heap.size w w' := by
  have hm : Int.tmod (p : Int) 2 = 1 := by
    rw [Int.tmod_eq_emod_of_nonneg (by omega)]; omega
  have HA := hide hA
  have hlt := hA.lt
  clear hA
  go_enter Try.func18, Try.ntmps18
  go_wp2_with fail
  have h1 := (z16_new w 39).alloc (.cells #[.int .u8 0, .int .u8 0, .int .u8 0, .int .u8 0, .int .u8 0, .int .u8 0, .int .u8 0, .int .u8 0, .int .u8 0, .int .u8 0, .int .u8 0, .int .u8 0, .int .u8 0, .int .u8 0, .int .u8 0, .int .u8 0] 39)
  have h2 := z16_new (w.alloc (.cells #[.int .u8 0, .int .u8 0, .int .u8 0, .int .u8 0, .int .u8 0, .int .u8 0, .int .u8 0, .int .u8 0, .int .u8 0, .int .u8 0, .int .u8 0, .int .u8 0, .int .u8 0, .int .u8 0, .int .u8 0, .int .u8 0] 39)) 39
  rw [World.size_alloc] at h2
  have h3 := ((Below.refl w.heap.size w).alloc (Nat.le_refl _) (.cells #[.int .u8 0, .int .u8 0, .int .u8 0, .int .u8 0, .int .u8 0, .int .u8 0, .int .u8 0, .int .u8 0, .int .u8 0, .int .u8 0, .int .u8 0, .int .u8 0, .int .u8 0, .int .u8 0, .int .u8 0, .int .u8 0] 39)).alloc (by simp) (.cells #[.int .u8 0, .int .u8 0, .int .u8 0, .int .u8 0, .int .u8 0, .int .u8 0, .int .u8 0, .int .u8 0, .int .u8 0, .int .u8 0, .int .u8 0, .int .u8 0, .int .u8 0, .int .u8 0, .int .u8 0, .int .u8 0] 39)
  generalize ((w.alloc (.cells #[.int .u8 0, .int .u8 0, .int .u8 0, .int .u8 0, .int .u8 0, .int .u8 0, .int .u8 0, .int .u8 0, .int .u8 0, .int .u8 0, .int .u8 0, .int .u8 0, .int .u8 0, .int .u8 0, .int .u8 0, .int .u8 0] 39)).alloc (.cells #[.int .u8 0, .int .u8 0, .int .u8 0, .int .u8 0, .int .u8 0, .int .u8 0, .int .u8 0, .int .u8 0, .int .u8 0, .int .u8 0, .int .u8 0, .int .u8 0, .int .u8 0, .int .u8 0, .int .u8 0, .int .u8 0] 39)) = W at h1 h2 h3 ⊢
  rw [copy_b W (w.heap.size + 1) 0 16 16 hb ho h cap f _ (by omega) h2 ((unhide HA).below h3 hlt)]
  have k2 := h2.putPart (p := 0) (m := h) (g := f) (G := stp f (fun _ => 0) h) (by omega) (fun i hi => by rw [Nat.zero_add]; simp [stp, hi]) (fun i hi hq => by simp [stp]; omega)
  have k1 := h1.others (b' := w.heap.size + 1) (o' := 0) (vs := us h f) (Or.inl (by omega))
  have k3 := Go.Proofs.Ytooojkedphlknaa.below_setCells (b := w.heap.size + 1) (by omega) (us h f) 0 _ h3
  generalize W.setCells (w.heap.size + 1) 0 (us h f) = W2 at k1 k2 k3 ⊢
  have s14 := k2.f0 14 (by omega)
  have s15 := k2.f0 15 (by omega)
  have t14 := k2.c0 14 (by omega)
  have t15 := k2.c0 15 (by omega)
  have K1 := hide k1
  have K2 := hide k2
  have K3 := hide k3
  clear h1 h2 h3 k1 k2 k3 hm hp1 HA hlt
  have en : (n : Int) % 256 = (n : Int) := by omega
  have ep : (p : Int) % 256 = (p : Int) := by omega
  go_upto_region 5 with fail
  have m2 := ((unhide K2).put0 (k := 14) (x := n) (g := fun i => if i = 14 then n else stp f (fun _ => 0) h i) (by omega) (by simp) (fun i _ hne => by simp [hne])).put0 (k := 15) (x := p) (g := hbO h n p f) (by omega) (by simp [hbO]; omega) (fun i hi hne => by
    unfold hbO stp
    by_cases e1 : i = 14
    · simp [e1]; omega
    · by_cases e2 : i < h
      · simp [e1, e2]
      · simp [e1, e2, hne])
  have m1 := ((unhide K1).other (a := ⟨w.heap.size + 1, 14, none⟩) (v := .int .u8 (n : Int)) (by simp)).other (a := ⟨w.heap.size + 1, 15, none⟩) (v := .int .u8 (p : Int)) (by simp)
  have m3 := ((unhide K3).setCell (p := ⟨w.heap.size + 1, 14, none⟩) (by simp) (.int .u8 (n : Int))).setCell (p := ⟨w.heap.size + 1, 15, none⟩) (by simp) (.int .u8 (p : Int))
  generalize (W2.setCell ⟨w.heap.size + 1, 14, none⟩ (.int .u8 (n : Int))).setCell ⟨w.heap.size + 1, 15, none⟩ (.int .u8 (p : Int)) = W3 at m1 m2 m3 ⊢
  refine wp_region_list ?_
  refine wpList_load_mid rfl 39 (.tmp 7) rfl (w.heap.size + 1) 0 rfl (us 16 (hbO h n p f)) _ m2.range Try.underlying39 rfl (by rw [us_length]; exact info_bl) ?_
  refine wpList_store_mid rfl 39 (.tmp 6) (.tmp 20) rfl w.heap.size 0 (us 16 (hbO h n p f)).toArray rfl rfl (by rw [us_size]; exact m1.there) (by rw [us_size]; exact info_bl) (us_one _ _) ?_
  have HH := hide (m1.puts (g := hbO h n p f))
  have HB := hide m3
  clear m1 m2 m3 K1 K2 K3
  go_wp2
  refine ret_arr 6 w.heap.size 16 39 _ (hbO h n p f) ?r1 ?r2 ?r3 (unhide HH) Try.underlying39 rfl info_bl ?_
  case r1 => rfl
  case r2 => rfl
  case r3 => rfl
  exact ⟨rfl, Go.Proofs.Ytooojkedphlknaa.below_setCells (Nat.le_refl _) _ _ _ (unhide HB)⟩
set_option maxHeartbeats 2000000 in
theorem implHalfE (hb ho h cap n p : Nat) (f : Nat → Nat) (hh : h ≤ 10) (hn : n ≤ 19) (hp : p ≤ 4) (hp1 : ¬ p % 2 = 1) (w : World) (hA : Ar w hb ho h f) :
    Calls Try.prog 18 #[.slice (some ⟨hb, ho, none⟩) h cap, .int .i64 n, .int .i64 p] w fun e w' => e = .returned (.agg (us 16 (hbE h n p f)).toArray) ∧ Below w.heap.size w w' := by
  have hm : Int.tmod (p : Int) 2 = 0 := by
    rw [Int.tmod_eq_emod_of_nonneg (by omega)]; omega
  have HA := hide hA
  have hlt := hA.lt
  clear hA
  have en : (n : Int) % 256 = (n : Int) := by omega
  have ep : (p : Int) % 256 = (p : Int) := by omega
  have z1 := (z16_new w 39).alloc (.cells #[.int .u8 0, .int .u8 0, .int .u8 0, .int .u8 0, .int .u8 0, .int .u8 0, .int .u8 0, .int .u8 0, .int .u8 0, .int .u8 0, .int .u8 0, .int .u8 0, .int .u8 0, .int .u8 0, .int .u8 0, .int .u8 0] 39)
  have z2 := z16_new (w.alloc (.cells #[.int .u8 0, .int .u8 0, .int .u8 0, .int .u8 0, .int .u8 0, .int .u8 0, .int .u8 0, .int .u8 0, .int .u8 0, .int .u8 0, .int .u8 0, .int .u8 0, .int .u8 0, .int .u8 0, .int .u8 0, .int .u8 0] 39)) 39
  rw [World.size_alloc] at z2
  have z3 := ((Below.refl w.heap.size w).alloc (Nat.le_refl _) (.cells #[.int .u8 0, .int .u8 0, .int .u8 0, .int .u8 0, .int .u8 0, .int .u8 0, .int .u8 0, .int .u8 0, .int .u8 0, .int .u8 0, .int .u8 0, .int .u8 0, .int .u8 0, .int .u8 0, .int .u8 0, .int .u8 0] 39)).alloc (by simp) (.cells #[.int .u8 0, .int .u8 0, .int .u8 0, .int .u8 0, .int .u8 0, .int .u8 0, .int .u8 0, .int .u8 0, .int .u8 0, .int .u8 0, .int .u8 0, .int .u8 0, .int .u8 0, .int .u8 0, .int .u8 0, .int .u8 0] 39)
  have Z1 := hide z1
  have Z2 := hide z2
  have Z3 := hide z3
  clear z1 z2 z3
  go_enter Try.func18, Try.ntmps18
  go_upto_region 6 with fail
  have h1 := unhide Z1
  have h2 := unhide Z2
  have h3 := unhide Z3
  generalize ((w.alloc (.cells #[.int .u8 0, .int .u8 0, .int .u8 0, .int .u8 0, .int .u8 0, .int .u8 0, .int .u8 0, .int .u8 0, .int .u8 0, .int .u8 0, .int .u8 0, .int .u8 0, .int .u8 0, .int .u8 0, .int .u8 0, .int .u8 0] 39)).alloc (.cells #[.int .u8 0, .int .u8 0, .int .u8 0, .int .u8 0, .int .u8 0, .int .u8 0, .int .u8 0, .int .u8 0, .int .u8 0, .int .u8 0, .int .u8 0, .int .u8 0, .int .u8 0, .int .u8 0, .int .u8 0, .int .u8 0] 39)) = W at h1 h2 h3 ⊢
  have s14 := h2.f0 0 (by omega)
  have s15 := h2.f0 1 (by omega)
  have t14 := h2.c0 0 (by omega)
  have t15 := h2.c0 1 (by omega)
  have K1 := hide h1
  have K2 := hide h2
  have K3 := hide h3
  clear h1 h2 h3 Z1 Z2 Z3 hm hp1
  go_upto_region 7 with fail
  have m2 := ((unhide K2).put0 (k := 0) (x := n) (g := fun i => if i = 0 then n else 0) (by omega) (by simp) (fun i _ hne => by simp [hne])).put0 (k := 1) (x := p) (g := fun i => if i = 0 then n else if i = 1 then p else 0) (by omega) (by simp) (fun i hi hne => by simp [hne])
  have m1 := ((unhide K1).other (a := ⟨w.heap.size + 1, 0, none⟩) (v := .int .u8 (n : Int)) (by simp)).other (a := ⟨w.heap.size + 1, 1, none⟩) (v := .int .u8 (p : Int)) (by simp)
  have m3 := ((unhide K3).setCell (p := ⟨w.heap.size + 1, 0, none⟩) (by simp) (.int .u8 (n : Int))).setCell (p := ⟨w.heap.size + 1, 1, none⟩) (by simp) (.int .u8 (p : Int))
  generalize (W.setCell ⟨w.heap.size + 1, 0, none⟩ (.int .u8 (n : Int))).setCell ⟨w.heap.size + 1, 1, none⟩ (.int .u8 (p : Int)) = W3 at m1 m2 m3 ⊢
  clear K1 K2 K3 s14 s15 t14 t15
  have M1 := hide m1
  have M2 := hide m2
  have M3 := hide m3
  obtain ⟨q, hq⟩ : ∃ q : Nat, q = 16 - h := ⟨_, rfl⟩
  by_cases h0 : h = 0
  · subst h0
    have C1 := hide (copy_b W3 (w.heap.size + 1) 0 0 0 hb ho 0 cap f (fun _ => 0) (Nat.le_refl 0) ⟨fun j hj => absurd hj (Nat.not_lt_zero j), fun j hj => absurd hj (Nat.not_lt_zero j), m2.lt⟩ ((unhide HA).below m3 hlt))
    clear m1 m2 m3 HA hlt hq q
    go_wp2_with fail
    rw [unhide C1]
    rw [show us 0 f = [] by rw [us_def]; rfl]
    have h2 := (unhide M2).congr (g := hbE 0 n p f) (fun i hi => by
      unfold hbE
      by_cases a0 : i = 0
      · rw [if_pos a0, if_pos a0]
      · rw [if_neg a0, if_neg a0]
        by_cases a1 : i = 1
        · rw [if_pos a1, if_pos a1]
        · rw [if_neg a1, if_neg a1, if_pos (by omega)])
    have h1 := unhide M1
    have h3 := unhide M3
    rw [show W3.setCells (w.heap.size + 1) 0 [] = W3 from rfl]
    clear M1 M2 M3 C1
    go_upto_region 8 with fail
    refine wp_region_list ?_
    refine wpList_load_mid rfl 39 (.tmp 7) rfl (w.heap.size + 1) 0 rfl (us 16 (hbE 0 n p f)) _ h2.range Try.underlying39 rfl (by rw [us_length]; exact info_bl) ?_
    refine wpList_store_mid rfl 39 (.tmp 6) (.tmp 33) rfl w.heap.size 0 (us 16 (hbE 0 n p f)).toArray rfl rfl (by rw [us_size]; exact h1.there) (by rw [us_size]; exact info_bl) (us_one _ _) ?_
    have HH := hide (h1.puts (g := hbE 0 n p f))
    have HB := hide h3
    clear h1 h2 h3
    go_wp2
    refine ret_arr 6 w.heap.size 16 39 _ (hbE 0 n p f) ?r1 ?r2 ?r3 (unhide HH) Try.underlying39 rfl info_bl ?_
    case r1 => rfl
    case r2 => rfl
    case r3 => rfl
    exact ⟨rfl, Go.Proofs.Ytooojkedphlknaa.below_setCells (Nat.le_refl _) _ _ _ (unhide HB)⟩
  · have C1 := hide (copy_b W3 (w.heap.size + 1) q h h hb ho h cap f _ (Nat.le_refl h) (by have := m2.part q h (by omega); rw [Nat.zero_add] at this; exact this) ((unhide HA).below m3 hlt))
    clear m1 m2 m3 HA hlt
    have e1 : (16 : Int) - (h : Int) = (q : Int) := by omega
    have e2 : (q : Int) ≤ 16 := by omega
    have e4 : ¬ (q : Int) = 16 := by omega
    have e3 : (16 - (q : Int)).toNat = h := by omega
    have HQ := hide hq
    clear hq
    go_wp2_with fail
    have hq := unhide HQ
    rw [show 16 - q = h by omega, unhide C1]
    have h2 := (unhide M2).putPart (p := q) (m := h) (g := f) (G := hbE h n p f) (by omega) (fun i hi => by
      unfold hbE
      rw [if_neg (by omega), if_neg (by omega), if_neg (by omega), if_pos (by omega)]
      congr 1
      omega) (fun i hi hc => by
      unfold hbE
      by_cases a0 : i = 0
      · rw [if_pos a0, if_pos a0]
      · rw [if_neg a0, if_neg a0]
        by_cases a1 : i = 1
        · rw [if_pos a1, if_pos a1]
        · rw [if_neg a1, if_neg a1, if_pos (by omega)])
    rw [Nat.zero_add] at h2
    have h1 := (unhide M1).others (b' := w.heap.size + 1) (o' := q) (vs := us h f) (Or.inl (by omega))
    have h3 := Go.Proofs.Ytooojkedphlknaa.below_setCells (b := w.heap.size + 1) (by omega) (us h f) q _ (unhide M3)
    generalize W3.setCells (w.heap.size + 1) q (us h f) = W4 at h1 h2 h3 ⊢
    clear M1 M2 M3 C1
    go_upto_region 8 with fail
    refine wp_region_list ?_
    refine wpList_load_mid rfl 39 (.tmp 7) rfl (w.heap.size + 1) 0 rfl (us 16 (hbE h n p f)) _ h2.range Try.underlying39 rfl (by rw [us_length]; exact info_bl) ?_
    refine wpList_store_mid rfl 39 (.tmp 6) (.tmp 33) rfl w.heap.size 0 (us 16 (hbE h n p f)).toArray rfl rfl (by rw [us_size]; exact h1.there) (by rw [us_size]; exact info_bl) (us_one _ _) ?_
    have HH := hide (h1.puts (g := hbE h n p f))
    have HB := hide h3
    clear h1 h2 h3
    go_wp2
    refine ret_arr 6 w.heap.size 16 39 _ (hbE h n p f) ?r1 ?r2 ?r3 (unhide HH) Try.underlying39 rfl info_bl ?_
    case r1 => rfl
    case r2 => rfl
    case r3 => rfl
    exact ⟨rfl, Go.Proofs.Ytooojkedphlknaa.below_setCells (Nat.le_refl _) _ _ _ (unhide HB)⟩
theorem implHalf (hb ho h cap n p : Nat) (f : Nat → Nat) (hh : h ≤ 10) (hn : n ≤ 19) (hp : p ≤ 4) (w : World) (hA : Ar w hb ho h f) :
    Calls Try.prog 18 #[.slice (some ⟨hb, ho, none⟩) h cap, .int .i64 n, .int .i64 p] w fun e w' => e = .returned (.agg (us 16 (hbP h n p f)).toArray) ∧ Below w.heap.size w w' := by
  unfold hbP
  split
  · rename_i h1
    exact implHalfO hb ho h cap n p f hh hn hp h1 w hA
  · rename_i h1
    exact implHalfE hb ho h cap n p f hh hn hp h1 w hA
set_option maxHeartbeats 2000000 in
theorem implHB_ok (s : ByteArray) (n p : Int) (h : s.size ≤ 10 ∧ 5 ≤ n ∧ n ≤ 19 ∧ 1 ≤ p ∧ p ≤ 4) (w : World) :
    Calls Try.prog 13 #[.string s, .int .i64 n, .int .i64 p] w fun e w' => e = .returned (.tuple #[.string (hbW s n.toNat p.toNat), .bool true]) ∧ Below w.heap.size w w' := by
  obtain ⟨h0, h1, h2, h3, h4⟩ := h
  obtain ⟨m, rfl⟩ : ∃ m : Nat, n = (m : Int) := ⟨n.toNat, by omega⟩
  obtain ⟨q, rfl⟩ : ∃ q : Nat, p = (q : Int) := ⟨p.toNat, by omega⟩
  rw [Int.toNat_natCast, Int.toNat_natCast]
  have hl : (us 16 (hbP s.size m q (at8 s))).length = 16 := us_length _ _
  have HS := hide (hbP_lt s.size m q (at8 s) (at8_lt s) (by omega) (by omega))
  have HH := hide (fun (W : World) (cap : Nat) (hc : Ar W w.heap.size 0 s.size (at8 s)) => implHalf w.heap.size 0 s.size cap m q (at8 s) h0 (by omega) (by omega) W hc)
  unfold hbW
  generalize hbP s.size m q (at8 s) = r at *
  go_enter Try.func13, Try.ntmps13
  go_wp2_with fail
  obtain ⟨cap, W, hcv, hbW, hcW, hsz⟩ := conv_ar w s
  rw [hcv]
  have H1 := hide (unhide HH W cap hcW)
  have B1 := hide hbW
  clear hcv hcW hbW hsz HH
  go_wp2_with fail
  refine (unhide H1).mono ?_
  rintro e w1 ⟨rfl, b1⟩
  have b2 := z16_new w1 39
  have hs2 : w.heap.size ≤ w1.heap.size := Nat.le_trans (unhide B1).size b1.size
  have hW2 := ((unhide B1).trans (b1.mono (unhide B1).size)).alloc hs2 (.cells #[.int .u8 0, .int .u8 0, .int .u8 0, .int .u8 0, .int .u8 0, .int .u8 0, .int .u8 0, .int .u8 0, .int .u8 0, .int .u8 0, .int .u8 0, .int .u8 0, .int .u8 0, .int .u8 0, .int .u8 0, .int .u8 0] 39)
  have Z2 := hide b2
  have ZB := hide hW2
  clear b1 b2 hW2 B1 H1
  go_wp2_with fail
  have b2 := unhide Z2
  have hW2 := unhide ZB
  generalize w1.alloc (.cells #[.int .u8 0, .int .u8 0, .int .u8 0, .int .u8 0, .int .u8 0, .int .u8 0, .int .u8 0, .int .u8 0, .int .u8 0, .int .u8 0, .int .u8 0, .int .u8 0, .int .u8 0, .int .u8 0, .int .u8 0, .int .u8 0] 39) = W3 at b2 hW2 ⊢
  clear Z2 ZB
  rw [b2.cellsPut]
  have c2 := b2.puts (g := r)
  have cW := Go.Proofs.Ytooojkedphlknaa.below_setCells (b := w1.heap.size) hs2 (us 16 r) 0 _ hW2
  generalize W3.setCells w1.heap.size 0 (us 16 r) = W4 at c2 cW ⊢
  have hst := ar_string c2 (fun i _ => unhide HS i) 16
  have HC := hide cW
  clear b2 hW2 c2 cW hl
  go_wp2
  go_ret2
  exact ⟨rfl, unhide HC⟩
theorem implHB_no (s : ByteArray) (n p : Int) (h : ¬ (s.size ≤ 10 ∧ 5 ≤ n ∧ n ≤ 19 ∧ 1 ≤ p ∧ p ≤ 4)) (hl : s.size ≤ 1048576) (kn : (Lit.int .i64 n).wf = true) (kp : (Lit.int .i64 p).wf = true) (w : World) :
    Calls Try.prog 13 #[.string s, .int .i64 n, .int .i64 p] w fun e w' => e = .returned (.tuple #[.string ⟨#[]⟩, .bool false]) ∧ Below w.heap.size w w' := by
  clear kn kp
  by_cases c0 : (s.size : Int) ≤ 10
  case neg =>
    have d0 : (10 : Int) < s.size := by omega
    clear h c0
    go_enter Try.func13, Try.ntmps13
    go_wp2
    go_ret2
    exact ⟨rfl, Below.refl _ _⟩
  by_cases c1 : 5 ≤ n
  case neg =>
    clear h
    go_enter Try.func13, Try.ntmps13
    go_wp2
    go_ret2
    exact ⟨rfl, Below.refl _ _⟩
  by_cases c2 : n ≤ 19
  case neg =>
    clear h
    go_enter Try.func13, Try.ntmps13
    go_wp2
    go_ret2
    exact ⟨rfl, Below.refl _ _⟩
  by_cases c3 : 1 ≤ p
  case neg =>
    clear h
    go_enter Try.func13, Try.ntmps13
    go_wp2
    go_ret2
    exact ⟨rfl, Below.refl _ _⟩
  have c4 : ¬ p ≤ 4 := fun c4 => h ⟨by omega, c1, c2, c3, c4⟩
  clear h
  go_enter Try.func13, Try.ntmps13
  go_wp2
  go_ret2
  exact ⟨rfl, Below.refl _ _⟩
theorem bq_join (a b : Nat) (f g : Nat → Nat) : bq a f ++ bq b g = bq (a + b) (fun i => if i < a then f i else g (i - a)) := by
  have h : bq (a + b) (fun i => if i < a then f i else g (i - a)) = bq a (fun i => if i < a then f i else g (i - a)) ++ bq b (fun i => (fun i => if i < a then f i else g (i - a)) (a + i)) := by
    apply ByteArray.ext
    simp [bq, ByteArray.data_append, List.range_add]
  rw [h]
  congr 1
  · exact bq_congr fun i hi => by simp [hi]
  · exact bq_congr fun i hi => by
      have h9 : ¬ a + i < a := by omega
      simp [h9]
theorem lo_one (n : Nat) (h : n < 256) : loW n 1 = bq 1 (fun _ => n) := by
  unfold loW
  refine bq_congr fun i hi => ?_
  have : i = 0 := by omega
  subst this
  simp [nB]
  omega
theorem half_odd (s : ByteArray) (n p : Nat) (hs : s.size ≤ 10) (hn : n < 256) (hp : p < 256) (h1 : p % 2 = 1) : s ++ bq (14 - s.size) (fun _ => 0) ++ loW n 1 ++ loW p 1 = hbW s n p := by
  rw [lo_one n hn, lo_one p hp]
  conv => lhs; arg 1; arg 1; arg 1; rw [← bq_at8 s]
  rw [bq_join, bq_join, bq_join, show s.size + (14 - s.size) + 1 + 1 = 16 by omega]
  unfold hbW hbP
  rw [if_pos h1]
  refine bq_congr fun i hi => ?_
  unfold hbO
  by_cases a : i < s.size
  · rw [if_pos (by omega), if_pos (by omega), if_pos a, if_pos a]
  · by_cases b : i = 15
    · rw [if_neg (by omega), if_neg a, if_neg (by omega), if_pos b]
    · rw [if_pos (by omega)]
      by_cases c : i = 14
      · rw [if_neg (by omega), if_neg a, if_pos c]
      · rw [if_pos (by omega), if_neg a, if_neg a, if_neg c, if_neg b]
theorem half_even (s : ByteArray) (n p : Nat) (hs : s.size ≤ 10) (hn : n < 256) (hp : p < 256) (h1 : ¬ p % 2 = 1) : loW n 1 ++ loW p 1 ++ bq (14 - s.size) (fun _ => 0) ++ s = hbW s n p := by
  rw [lo_one n hn, lo_one p hp]
  conv => lhs; arg 2; rw [← bq_at8 s]
  rw [bq_join, bq_join, bq_join, show 1 + 1 + (14 - s.size) + s.size = 16 by omega]
  unfold hbW hbP
  rw [if_neg h1]
  refine bq_congr fun i hi => ?_
  unfold hbE
  by_cases a : i < 16 - s.size
  · rw [if_pos (by omega)]
    by_cases b : i = 0
    · rw [if_pos (by omega), if_pos (by omega), if_pos b]
    · by_cases c : i = 1
      · rw [if_pos (by omega), if_neg (by omega), if_neg b, if_pos c]
      · rw [if_neg (by omega), if_neg b, if_neg c, if_pos a]
  · rw [if_neg (by omega), if_neg (by omega), if_neg (by omega), if_neg a, if_pos hi]
    congr 1
    omega
-- HALF
set_option maxHeartbeats 4000000 in
theorem specHalfO (s : ByteArray) (n p : Nat) (hs : s.size ≤ 10) (hn : n ≤ 19) (hp : p ≤ 4) (hp1 : p % 2 = 1) (w : World) :
    Calls Try.prog 17 #[.string s, .int .i64 n, .int .i64 p] w fun e w' => e = .returned (.string (hbW s n p)) ∧ Below w.heap.size w w' := by
  have hm : Int.tmod (p : Int) 2 = 1 := by
    rw [Int.tmod_eq_emod_of_nonneg (by omega)]; omega
  have HE := hide (half_odd s n p hs (by omega) (by omega) hp1)
  obtain ⟨k, hk⟩ : ∃ k : Nat, k = 14 - s.size := ⟨_, rfl⟩
  rw [← hk] at HE
  have ek : IntKind.i64.wrap ((14 : Int) - (s.size : Int)) = (k : Int) := by rw [wraps_i64 _ (by omega) (by omega)]; omega
  have hkl : k ≤ 14 := by omega
  have HZ : Hid (∀ (W : World) (b : Nat), Ar W b 0 k (fun _ => 0) → (convert 41 9 (.slice (some ⟨b, 0, none⟩) k k)).run Try.prog W = .ok (.string (bq k (fun _ => 0))) W) := fun W b h => ar_string h (fun i _ => by omega) k
  have HN : Hid (∀ W : World, Calls Try.prog 19 #[.int .i64 n, .int .i64 1] W fun e w' => e = .returned (.string (loW n 1)) ∧ Below W.heap.size W w') := specFx n 1 (by omega) (by omega)
  have HP : Hid (∀ W : World, Calls Try.prog 19 #[.int .i64 p, .int .i64 1] W fun e w' => e = .returned (.string (loW p 1)) ∧ Below W.heap.size W w') := specFx p 1 (by omega) (by omega)
  have zx : (loW n 1).size = 1 := loW_size n 1
  have zy : (loW p 1).size = 1 := loW_size p 1
  have zz : (bq k (fun _ => 0)).size = k := bq_size _ _
  generalize loW n 1 = x at *
  generalize loW p 1 = y at *
  generalize bq k (fun _ => 0) = z at *
  have ad0 := fun W : World => run_string_add_sum (P := Try.prog) (w := W) (s) (z) (by first | omega | (simp only [ByteArray.size_append]; omega))
  have ad1 := fun W : World => run_string_add_sum (P := Try.prog) (w := W) (s ++ z) (x) (by first | omega | (simp only [ByteArray.size_append]; omega))
  have ad2 := fun W : World => run_string_add_sum (P := Try.prog) (w := W) (s ++ z ++ x) (y) (by first | omega | (simp only [ByteArray.size_append]; omega))
  generalize s ++ z = t0 at *
  generalize t0 ++ x = t1 at *
  clear hk hp1 zx zy zz
  go_enter Try.func17, Try.ntmps17
  go_upto_region 2 with fail
  have B0 := hide ((Below.refl w.heap.size w).drew)
  refine wp_region_held_drew (S := fun _ => True) (by kernel_rfl) True.intro (fun hHeld => ?_)
  clear hm
  generalize w.drew = V0 at B0 ⊢
  refine wpAnyH_take (i := 0) (v := ?_) rfl (by kernel_rfl) (by kernel_rfl) (by kernel_rfl) (fun _ _ _ h => h) (Or.inl ⟨by rfl, ?_⟩) hHeld ?_
  rotate_left
  · intro V hSw; go_simp; rfl
  try simp only [Act.put, List.getElem_toArray, List.getElem_cons_zero, List.setIfInBounds_toArray, List.set_cons_zero, List.set_cons_succ]
  refine wpAnyH_take (i := 1) (v := ?_) rfl (by kernel_rfl) (by kernel_rfl) (by kernel_rfl) (fun _ _ _ h => h) (Or.inl ⟨by rfl, ?_⟩) hHeld ?_
  rotate_left
  · intro V hSw; go_simp; rfl
  try simp only [Act.put, List.getElem_toArray, List.getElem_cons_succ, List.getElem_cons_zero, List.setIfInBounds_toArray, List.set_cons_zero, List.set_cons_succ]
  refine wpAnyH_take (i := 2) (v := ?_) rfl (by kernel_rfl) (by kernel_rfl) (by kernel_rfl) (fun _ _ _ h => h) (Or.inl ⟨by rfl, ?_⟩) hHeld ?_
  rotate_left
  · intro V hSw; go_simp; rfl
  try simp only [Act.put, List.getElem_toArray, List.getElem_cons_succ, List.getElem_cons_zero, List.setIfInBounds_toArray, List.set_cons_zero, List.set_cons_succ]
  refine wpAnyH_take (i := 3) (v := ?_) rfl (by kernel_rfl) (by kernel_rfl) (by kernel_rfl) (fun _ _ _ h => h) (Or.inl ⟨by rfl, ?_⟩) hHeld ?_
  rotate_left
  · intro V hSw; go_simp; rfl
  try simp only [Act.put, List.getElem_toArray, List.getElem_cons_succ, List.getElem_cons_zero, List.setIfInBounds_toArray, List.set_cons_zero, List.set_cons_succ]
  refine wpAnyH_take (i := 7) (v := ?_) rfl (by kernel_rfl) (by kernel_rfl) (by kernel_rfl) (fun _ _ _ h => h) (Or.inl ⟨by rfl, ?_⟩) hHeld ?_
  rotate_left
  · intro V hSw; go_simp; rfl
  try simp only [Act.put, List.getElem_toArray, List.getElem_cons_succ, List.getElem_cons_zero, List.setIfInBounds_toArray, List.set_cons_zero, List.set_cons_succ]
  refine wpAnyH_take (i := 10) (v := ?_) rfl (by kernel_rfl) (by kernel_rfl) (by kernel_rfl) (fun _ _ _ h => h) (Or.inl ⟨by rfl, ?_⟩) hHeld ?_
  rotate_left
  · intro V hSw; go_simp; rfl
  try simp only [Act.put, List.getElem_toArray, List.getElem_cons_succ, List.getElem_cons_zero, List.setIfInBounds_toArray, List.set_cons_zero, List.set_cons_succ]
  refine wpAnyH_ready (rs := [4, 8]) (by kernel_rfl) (by simp) ?_
  refine AllReadyH.cons rfl (fun K hK => ?_) (AllReadyH.cons rfl (fun K hK => ?_) AllReadyH.nil)
  · go_simp
    rw [mk_bytes k (by omega) V0]
    go_simp
    refine hK.out _ _ True.intro (fun hHeld => ?_)
    clear hK K
    try simp only [Act.put, List.getElem_toArray, List.getElem_cons_succ, List.getElem_cons_zero, List.setIfInBounds_toArray, List.set_cons_zero, List.set_cons_succ]
    have A1 := hide (Ar.new V0 k (fun _ => 0) 5)
    have B1 := hide ((unhide B0).alloc (unhide B0).size (.cells (us k fun _ => 0).toArray 5))
    generalize V0.alloc (.cells (us k fun _ => 0).toArray 5) = V1 at A1 B1 ⊢
    generalize V0.heap.size = b1 at A1 ⊢
    refine wpAnyH_ready (rs := [5, 8]) (by kernel_rfl) (by simp) ?_
    refine AllReadyH.cons rfl (fun K hK => ?_) (AllReadyH.cons rfl (fun K hK => ?_) AllReadyH.nil)
    · go_simp
      rw [unhide HZ _ _ (unhide A1)]
      go_simp
      refine hK.out _ _ True.intro (fun hHeld => ?_)
      clear hK K
      try simp only [Act.put, List.getElem_toArray, List.getElem_cons_succ, List.getElem_cons_zero, List.setIfInBounds_toArray, List.set_cons_zero, List.set_cons_succ]
      have B2 := B1
      generalize V1 = V2 at B2 ⊢
      refine wpAnyH_take (i := 6) (v := ?_) rfl (by kernel_rfl) (by kernel_rfl) (by kernel_rfl) (fun _ _ _ h => h) (Or.inl ⟨by rfl, ?_⟩) hHeld ?_
      rotate_left
      · intro V hSw; go_simp; rfl
      try simp only [Act.put, List.getElem_toArray, List.getElem_cons_succ, List.getElem_cons_zero, List.setIfInBounds_toArray, List.set_cons_zero, List.set_cons_succ]
      refine wpAnyH_ready (rs := [8]) (by kernel_rfl) (by simp) ?_
      refine AllReadyH.cons rfl (fun K hK => ?_) AllReadyH.nil
      · go_simp
        go_at_call 19
        with_reducible refine (unhide HN _).mono ?_
        rintro e V3 ⟨rfl, bb⟩
        refine hK.out _ _ True.intro (fun hHeld => ?_)
        clear hK K
        try simp only [Act.put, List.getElem_toArray, List.getElem_cons_succ, List.getElem_cons_zero, List.setIfInBounds_toArray, List.set_cons_zero, List.set_cons_succ]
        have B3 := hide ((unhide B2).trans (bb.mono (unhide B2).size))
        clear bb
        refine wpAnyH_take (i := 9) (v := ?_) rfl (by kernel_rfl) (by kernel_rfl) (by kernel_rfl) (fun _ _ _ h => h) (Or.inl ⟨by rfl, ?_⟩) hHeld ?_
        rotate_left
        · intro V hSw; go_simp; rfl
        try simp only [Act.put, List.getElem_toArray, List.getElem_cons_succ, List.getElem_cons_zero, List.setIfInBounds_toArray, List.set_cons_zero, List.set_cons_succ]
        refine wpAnyH_ready (rs := [11]) (by kernel_rfl) (by simp) ?_
        refine AllReadyH.cons rfl (fun K hK => ?_) AllReadyH.nil
        · go_simp
          go_at_call 19
          with_reducible refine (unhide HP _).mono ?_
          rintro e V4 ⟨rfl, bb⟩
          refine hK.out _ _ True.intro (fun hHeld => ?_)
          clear hK K
          try simp only [Act.put, List.getElem_toArray, List.getElem_cons_succ, List.getElem_cons_zero, List.setIfInBounds_toArray, List.set_cons_zero, List.set_cons_succ]
          have B4 := hide ((unhide B3).trans (bb.mono (unhide B3).size))
          clear bb
          refine wpAnyH_take (i := 12) (v := ?_) rfl (by kernel_rfl) (by kernel_rfl) (by kernel_rfl) (fun _ _ _ h => h) (Or.inl ⟨by rfl, ?_⟩) hHeld ?_
          rotate_left
          · intro V hSw; go_simp; rfl
          try simp only [Act.put, List.getElem_toArray, List.getElem_cons_succ, List.getElem_cons_zero, List.setIfInBounds_toArray, List.set_cons_zero, List.set_cons_succ]
          refine wpAnyH_take (i := 13) (v := ?_) rfl (by kernel_rfl) (by kernel_rfl) (by kernel_rfl) (fun _ _ _ h => h) (Or.inl ⟨by rfl, ?_⟩) hHeld ?_
          rotate_left
          · intro V hSw; go_simp; rfl
          try simp only [Act.put, List.getElem_toArray, List.getElem_cons_succ, List.getElem_cons_zero, List.setIfInBounds_toArray, List.set_cons_zero, List.set_cons_succ]
          refine wpAnyH_done (by kernel_rfl) ?_ _
          try simp only [List.getElem_toArray, List.getElem_cons_succ, List.getElem_cons_zero]
          go_wp2
          go_ret
          exact ⟨by rw [← unhide HE]; rfl, unhide B4⟩
    · go_simp
      go_at_call 19
      with_reducible refine (unhide HN _).mono ?_
      rintro e V2 ⟨rfl, bb⟩
      refine hK.out _ _ True.intro (fun hHeld => ?_)
      clear hK K
      try simp only [Act.put, List.getElem_toArray, List.getElem_cons_succ, List.getElem_cons_zero, List.setIfInBounds_toArray, List.set_cons_zero, List.set_cons_succ]
      have B2 := hide ((unhide B1).trans (bb.mono (unhide B1).size))
      have A2 := hide ((unhide A1).below bb (unhide A1).lt)
      clear bb
      refine wpAnyH_ready (rs := [5, 11]) (by kernel_rfl) (by simp) ?_
      refine AllReadyH.cons rfl (fun K hK => ?_) (AllReadyH.cons rfl (fun K hK => ?_) AllReadyH.nil)
      · go_simp
        rw [unhide HZ _ _ (unhide A2)]
        go_simp
        refine hK.out _ _ True.intro (fun hHeld => ?_)
        clear hK K
        try simp only [Act.put, List.getElem_toArray, List.getElem_cons_succ, List.getElem_cons_zero, List.setIfInBounds_toArray, List.set_cons_zero, List.set_cons_succ]
        have B3 := B2
        generalize V2 = V3 at B3 ⊢
        refine wpAnyH_take (i := 6) (v := ?_) rfl (by kernel_rfl) (by kernel_rfl) (by kernel_rfl) (fun _ _ _ h => h) (Or.inl ⟨by rfl, ?_⟩) hHeld ?_
        rotate_left
        · intro V hSw; go_simp; rfl
        try simp only [Act.put, List.getElem_toArray, List.getElem_cons_succ, List.getElem_cons_zero, List.setIfInBounds_toArray, List.set_cons_zero, List.set_cons_succ]
        refine wpAnyH_take (i := 9) (v := ?_) rfl (by kernel_rfl) (by kernel_rfl) (by kernel_rfl) (fun _ _ _ h => h) (Or.inl ⟨by rfl, ?_⟩) hHeld ?_
        rotate_left
        · intro V hSw; go_simp; rfl
        try simp only [Act.put, List.getElem_toArray, List.getElem_cons_succ, List.getElem_cons_zero, List.setIfInBounds_toArray, List.set_cons_zero, List.set_cons_succ]
        refine wpAnyH_ready (rs := [11]) (by kernel_rfl) (by simp) ?_
        refine AllReadyH.cons rfl (fun K hK => ?_) AllReadyH.nil
        · go_simp
          go_at_call 19
          with_reducible refine (unhide HP _).mono ?_
          rintro e V4 ⟨rfl, bb⟩
          refine hK.out _ _ True.intro (fun hHeld => ?_)
          clear hK K
          try simp only [Act.put, List.getElem_toArray, List.getElem_cons_succ, List.getElem_cons_zero, List.setIfInBounds_toArray, List.set_cons_zero, List.set_cons_succ]
          have B4 := hide ((unhide B3).trans (bb.mono (unhide B3).size))
          clear bb
          refine wpAnyH_take (i := 12) (v := ?_) rfl (by kernel_rfl) (by kernel_rfl) (by kernel_rfl) (fun _ _ _ h => h) (Or.inl ⟨by rfl, ?_⟩) hHeld ?_
          rotate_left
          · intro V hSw; go_simp; rfl
          try simp only [Act.put, List.getElem_toArray, List.getElem_cons_succ, List.getElem_cons_zero, List.setIfInBounds_toArray, List.set_cons_zero, List.set_cons_succ]
          refine wpAnyH_take (i := 13) (v := ?_) rfl (by kernel_rfl) (by kernel_rfl) (by kernel_rfl) (fun _ _ _ h => h) (Or.inl ⟨by rfl, ?_⟩) hHeld ?_
          rotate_left
          · intro V hSw; go_simp; rfl
          try simp only [Act.put, List.getElem_toArray, List.getElem_cons_succ, List.getElem_cons_zero, List.setIfInBounds_toArray, List.set_cons_zero, List.set_cons_succ]
          refine wpAnyH_done (by kernel_rfl) ?_ _
          try simp only [List.getElem_toArray, List.getElem_cons_succ, List.getElem_cons_zero]
          go_wp2
          go_ret
          exact ⟨by rw [← unhide HE]; rfl, unhide B4⟩
      · go_simp
        go_at_call 19
        with_reducible refine (unhide HP _).mono ?_
        rintro e V3 ⟨rfl, bb⟩
        refine hK.out _ _ True.intro (fun hHeld => ?_)
        clear hK K
        try simp only [Act.put, List.getElem_toArray, List.getElem_cons_succ, List.getElem_cons_zero, List.setIfInBounds_toArray, List.set_cons_zero, List.set_cons_succ]
        have B3 := hide ((unhide B2).trans (bb.mono (unhide B2).size))
        have A3 := hide ((unhide A2).below bb (unhide A2).lt)
        clear bb
        refine wpAnyH_ready (rs := [5]) (by kernel_rfl) (by simp) ?_
        refine AllReadyH.cons rfl (fun K hK => ?_) AllReadyH.nil
        · go_simp
          rw [unhide HZ _ _ (unhide A3)]
          go_simp
          refine hK.out _ _ True.intro (fun hHeld => ?_)
          clear hK K
          try simp only [Act.put, List.getElem_toArray, List.getElem_cons_succ, List.getElem_cons_zero, List.setIfInBounds_toArray, List.set_cons_zero, List.set_cons_succ]
          have B4 := B3
          generalize V3 = V4 at B4 ⊢
          refine wpAnyH_take (i := 6) (v := ?_) rfl (by kernel_rfl) (by kernel_rfl) (by kernel_rfl) (fun _ _ _ h => h) (Or.inl ⟨by rfl, ?_⟩) hHeld ?_
          rotate_left
          · intro V hSw; go_simp; rfl
          try simp only [Act.put, List.getElem_toArray, List.getElem_cons_succ, List.getElem_cons_zero, List.setIfInBounds_toArray, List.set_cons_zero, List.set_cons_succ]
          refine wpAnyH_take (i := 9) (v := ?_) rfl (by kernel_rfl) (by kernel_rfl) (by kernel_rfl) (fun _ _ _ h => h) (Or.inl ⟨by rfl, ?_⟩) hHeld ?_
          rotate_left
          · intro V hSw; go_simp; rfl
          try simp only [Act.put, List.getElem_toArray, List.getElem_cons_succ, List.getElem_cons_zero, List.setIfInBounds_toArray, List.set_cons_zero, List.set_cons_succ]
          refine wpAnyH_take (i := 12) (v := ?_) rfl (by kernel_rfl) (by kernel_rfl) (by kernel_rfl) (fun _ _ _ h => h) (Or.inl ⟨by rfl, ?_⟩) hHeld ?_
          rotate_left
          · intro V hSw; go_simp; rfl
          try simp only [Act.put, List.getElem_toArray, List.getElem_cons_succ, List.getElem_cons_zero, List.setIfInBounds_toArray, List.set_cons_zero, List.set_cons_succ]
          refine wpAnyH_take (i := 13) (v := ?_) rfl (by kernel_rfl) (by kernel_rfl) (by kernel_rfl) (fun _ _ _ h => h) (Or.inl ⟨by rfl, ?_⟩) hHeld ?_
          rotate_left
          · intro V hSw; go_simp; rfl
          try simp only [Act.put, List.getElem_toArray, List.getElem_cons_succ, List.getElem_cons_zero, List.setIfInBounds_toArray, List.set_cons_zero, List.set_cons_succ]
          refine wpAnyH_done (by kernel_rfl) ?_ _
          try simp only [List.getElem_toArray, List.getElem_cons_succ, List.getElem_cons_zero]
          go_wp2
          go_ret
          exact ⟨by rw [← unhide HE]; rfl, unhide B4⟩
  · go_simp
    go_at_call 19
    with_reducible refine (unhide HN _).mono ?_
    rintro e V1 ⟨rfl, bb⟩
    refine hK.out _ _ True.intro (fun hHeld => ?_)
    clear hK K
    try simp only [Act.put, List.getElem_toArray, List.getElem_cons_succ, List.getElem_cons_zero, List.setIfInBounds_toArray, List.set_cons_zero, List.set_cons_succ]
    have B1 := hide ((unhide B0).trans (bb.mono (unhide B0).size))
    clear bb
    refine wpAnyH_ready (rs := [4, 11]) (by kernel_rfl) (by simp) ?_
    refine AllReadyH.cons rfl (fun K hK => ?_) (AllReadyH.cons rfl (fun K hK => ?_) AllReadyH.nil)
    · go_simp
      rw [mk_bytes k (by omega) V1]
      go_simp
      refine hK.out _ _ True.intro (fun hHeld => ?_)
      clear hK K
      try simp only [Act.put, List.getElem_toArray, List.getElem_cons_succ, List.getElem_cons_zero, List.setIfInBounds_toArray, List.set_cons_zero, List.set_cons_succ]
      have A2 := hide (Ar.new V1 k (fun _ => 0) 5)
      have B2 := hide ((unhide B1).alloc (unhide B1).size (.cells (us k fun _ => 0).toArray 5))
      generalize V1.alloc (.cells (us k fun _ => 0).toArray 5) = V2 at A2 B2 ⊢
      generalize V1.heap.size = b2 at A2 ⊢
      refine wpAnyH_ready (rs := [5, 11]) (by kernel_rfl) (by simp) ?_
      refine AllReadyH.cons rfl (fun K hK => ?_) (AllReadyH.cons rfl (fun K hK => ?_) AllReadyH.nil)
      · go_simp
        rw [unhide HZ _ _ (unhide A2)]
        go_simp
        refine hK.out _ _ True.intro (fun hHeld => ?_)
        clear hK K
        try simp only [Act.put, List.getElem_toArray, List.getElem_cons_succ, List.getElem_cons_zero, List.setIfInBounds_toArray, List.set_cons_zero, List.set_cons_succ]
        have B3 := B2
        generalize V2 = V3 at B3 ⊢
        refine wpAnyH_take (i := 6) (v := ?_) rfl (by kernel_rfl) (by kernel_rfl) (by kernel_rfl) (fun _ _ _ h => h) (Or.inl ⟨by rfl, ?_⟩) hHeld ?_
        rotate_left
        · intro V hSw; go_simp; rfl
        try simp only [Act.put, List.getElem_toArray, List.getElem_cons_succ, List.getElem_cons_zero, List.setIfInBounds_toArray, List.set_cons_zero, List.set_cons_succ]
        refine wpAnyH_take (i := 9) (v := ?_) rfl (by kernel_rfl) (by kernel_rfl) (by kernel_rfl) (fun _ _ _ h => h) (Or.inl ⟨by rfl, ?_⟩) hHeld ?_
        rotate_left
        · intro V hSw; go_simp; rfl
        try simp only [Act.put, List.getElem_toArray, List.getElem_cons_succ, List.getElem_cons_zero, List.setIfInBounds_toArray, List.set_cons_zero, List.set_cons_succ]
        refine wpAnyH_ready (rs := [11]) (by kernel_rfl) (by simp) ?_
        refine AllReadyH.cons rfl (fun K hK => ?_) AllReadyH.nil
        · go_simp
          go_at_call 19
          with_reducible refine (unhide HP _).mono ?_
          rintro e V4 ⟨rfl, bb⟩
          refine hK.out _ _ True.intro (fun hHeld => ?_)
          clear hK K
          try simp only [Act.put, List.getElem_toArray, List.getElem_cons_succ, List.getElem_cons_zero, List.setIfInBounds_toArray, List.set_cons_zero, List.set_cons_succ]
          have B4 := hide ((unhide B3).trans (bb.mono (unhide B3).size))
          clear bb
          refine wpAnyH_take (i := 12) (v := ?_) rfl (by kernel_rfl) (by kernel_rfl) (by kernel_rfl) (fun _ _ _ h => h) (Or.inl ⟨by rfl, ?_⟩) hHeld ?_
          rotate_left
          · intro V hSw; go_simp; rfl
          try simp only [Act.put, List.getElem_toArray, List.getElem_cons_succ, List.getElem_cons_zero, List.setIfInBounds_toArray, List.set_cons_zero, List.set_cons_succ]
          refine wpAnyH_take (i := 13) (v := ?_) rfl (by kernel_rfl) (by kernel_rfl) (by kernel_rfl) (fun _ _ _ h => h) (Or.inl ⟨by rfl, ?_⟩) hHeld ?_
          rotate_left
          · intro V hSw; go_simp; rfl
          try simp only [Act.put, List.getElem_toArray, List.getElem_cons_succ, List.getElem_cons_zero, List.setIfInBounds_toArray, List.set_cons_zero, List.set_cons_succ]
          refine wpAnyH_done (by kernel_rfl) ?_ _
          try simp only [List.getElem_toArray, List.getElem_cons_succ, List.getElem_cons_zero]
          go_wp2
          go_ret
          exact ⟨by rw [← unhide HE]; rfl, unhide B4⟩
      · go_simp
        go_at_call 19
        with_reducible refine (unhide HP _).mono ?_
        rintro e V3 ⟨rfl, bb⟩
        refine hK.out _ _ True.intro (fun hHeld => ?_)
        clear hK K
        try simp only [Act.put, List.getElem_toArray, List.getElem_cons_succ, List.getElem_cons_zero, List.setIfInBounds_toArray, List.set_cons_zero, List.set_cons_succ]
        have B3 := hide ((unhide B2).trans (bb.mono (unhide B2).size))
        have A3 := hide ((unhide A2).below bb (unhide A2).lt)
        clear bb
        refine wpAnyH_ready (rs := [5]) (by kernel_rfl) (by simp) ?_
        refine AllReadyH.cons rfl (fun K hK => ?_) AllReadyH.nil
        · go_simp
          rw [unhide HZ _ _ (unhide A3)]
          go_simp
          refine hK.out _ _ True.intro (fun hHeld => ?_)
          clear hK K
          try simp only [Act.put, List.getElem_toArray, List.getElem_cons_succ, List.getElem_cons_zero, List.setIfInBounds_toArray, List.set_cons_zero, List.set_cons_succ]
          have B4 := B3
          generalize V3 = V4 at B4 ⊢
          refine wpAnyH_take (i := 6) (v := ?_) rfl (by kernel_rfl) (by kernel_rfl) (by kernel_rfl) (fun _ _ _ h => h) (Or.inl ⟨by rfl, ?_⟩) hHeld ?_
          rotate_left
          · intro V hSw; go_simp; rfl
          try simp only [Act.put, List.getElem_toArray, List.getElem_cons_succ, List.getElem_cons_zero, List.setIfInBounds_toArray, List.set_cons_zero, List.set_cons_succ]
          refine wpAnyH_take (i := 9) (v := ?_) rfl (by kernel_rfl) (by kernel_rfl) (by kernel_rfl) (fun _ _ _ h => h) (Or.inl ⟨by rfl, ?_⟩) hHeld ?_
          rotate_left
          · intro V hSw; go_simp; rfl
          try simp only [Act.put, List.getElem_toArray, List.getElem_cons_succ, List.getElem_cons_zero, List.setIfInBounds_toArray, List.set_cons_zero, List.set_cons_succ]
          refine wpAnyH_take (i := 12) (v := ?_) rfl (by kernel_rfl) (by kernel_rfl) (by kernel_rfl) (fun _ _ _ h => h) (Or.inl ⟨by rfl, ?_⟩) hHeld ?_
          rotate_left
          · intro V hSw; go_simp; rfl
          try simp only [Act.put, List.getElem_toArray, List.getElem_cons_succ, List.getElem_cons_zero, List.setIfInBounds_toArray, List.set_cons_zero, List.set_cons_succ]
          refine wpAnyH_take (i := 13) (v := ?_) rfl (by kernel_rfl) (by kernel_rfl) (by kernel_rfl) (fun _ _ _ h => h) (Or.inl ⟨by rfl, ?_⟩) hHeld ?_
          rotate_left
          · intro V hSw; go_simp; rfl
          try simp only [Act.put, List.getElem_toArray, List.getElem_cons_succ, List.getElem_cons_zero, List.setIfInBounds_toArray, List.set_cons_zero, List.set_cons_succ]
          refine wpAnyH_done (by kernel_rfl) ?_ _
          try simp only [List.getElem_toArray, List.getElem_cons_succ, List.getElem_cons_zero]
          go_wp2
          go_ret
          exact ⟨by rw [← unhide HE]; rfl, unhide B4⟩
    · go_simp
      go_at_call 19
      with_reducible refine (unhide HP _).mono ?_
      rintro e V2 ⟨rfl, bb⟩
      refine hK.out _ _ True.intro (fun hHeld => ?_)
      clear hK K
      try simp only [Act.put, List.getElem_toArray, List.getElem_cons_succ, List.getElem_cons_zero, List.setIfInBounds_toArray, List.set_cons_zero, List.set_cons_succ]
      have B2 := hide ((unhide B1).trans (bb.mono (unhide B1).size))
      clear bb
      refine wpAnyH_ready (rs := [4]) (by kernel_rfl) (by simp) ?_
      refine AllReadyH.cons rfl (fun K hK => ?_) AllReadyH.nil
      · go_simp
        rw [mk_bytes k (by omega) V2]
        go_simp
        refine hK.out _ _ True.intro (fun hHeld => ?_)
        clear hK K
        try simp only [Act.put, List.getElem_toArray, List.getElem_cons_succ, List.getElem_cons_zero, List.setIfInBounds_toArray, List.set_cons_zero, List.set_cons_succ]
        have A3 := hide (Ar.new V2 k (fun _ => 0) 5)
        have B3 := hide ((unhide B2).alloc (unhide B2).size (.cells (us k fun _ => 0).toArray 5))
        generalize V2.alloc (.cells (us k fun _ => 0).toArray 5) = V3 at A3 B3 ⊢
        generalize V2.heap.size = b3 at A3 ⊢
        refine wpAnyH_ready (rs := [5]) (by kernel_rfl) (by simp) ?_
        refine AllReadyH.cons rfl (fun K hK => ?_) AllReadyH.nil
        · go_simp
          rw [unhide HZ _ _ (unhide A3)]
          go_simp
          refine hK.out _ _ True.intro (fun hHeld => ?_)
          clear hK K
          try simp only [Act.put, List.getElem_toArray, List.getElem_cons_succ, List.getElem_cons_zero, List.setIfInBounds_toArray, List.set_cons_zero, List.set_cons_succ]
          have B4 := B3
          generalize V3 = V4 at B4 ⊢
          refine wpAnyH_take (i := 6) (v := ?_) rfl (by kernel_rfl) (by kernel_rfl) (by kernel_rfl) (fun _ _ _ h => h) (Or.inl ⟨by rfl, ?_⟩) hHeld ?_
          rotate_left
          · intro V hSw; go_simp; rfl
          try simp only [Act.put, List.getElem_toArray, List.getElem_cons_succ, List.getElem_cons_zero, List.setIfInBounds_toArray, List.set_cons_zero, List.set_cons_succ]
          refine wpAnyH_take (i := 9) (v := ?_) rfl (by kernel_rfl) (by kernel_rfl) (by kernel_rfl) (fun _ _ _ h => h) (Or.inl ⟨by rfl, ?_⟩) hHeld ?_
          rotate_left
          · intro V hSw; go_simp; rfl
          try simp only [Act.put, List.getElem_toArray, List.getElem_cons_succ, List.getElem_cons_zero, List.setIfInBounds_toArray, List.set_cons_zero, List.set_cons_succ]
          refine wpAnyH_take (i := 12) (v := ?_) rfl (by kernel_rfl) (by kernel_rfl) (by kernel_rfl) (fun _ _ _ h => h) (Or.inl ⟨by rfl, ?_⟩) hHeld ?_
          rotate_left
          · intro V hSw; go_simp; rfl
          try simp only [Act.put, List.getElem_toArray, List.getElem_cons_succ, List.getElem_cons_zero, List.setIfInBounds_toArray, List.set_cons_zero, List.set_cons_succ]
          refine wpAnyH_take (i := 13) (v := ?_) rfl (by kernel_rfl) (by kernel_rfl) (by kernel_rfl) (fun _ _ _ h => h) (Or.inl ⟨by rfl, ?_⟩) hHeld ?_
          rotate_left
          · intro V hSw; go_simp; rfl
          try simp only [Act.put, List.getElem_toArray, List.getElem_cons_succ, List.getElem_cons_zero, List.setIfInBounds_toArray, List.set_cons_zero, List.set_cons_succ]
          refine wpAnyH_done (by kernel_rfl) ?_ _
          try simp only [List.getElem_toArray, List.getElem_cons_succ, List.getElem_cons_zero]
          go_wp2
          go_ret
          exact ⟨by rw [← unhide HE]; rfl, unhide B4⟩
set_option maxHeartbeats 4000000 in
theorem specHalfE (s : ByteArray) (n p : Nat) (hs : s.size ≤ 10) (hn : n ≤ 19) (hp : p ≤ 4) (hp1 : ¬ p % 2 = 1) (w : World) :
    Calls Try.prog 17 #[.string s, .int .i64 n, .int .i64 p] w fun e w' => e = .returned (.string (hbW s n p)) ∧ Below w.heap.size w w' := by
  have hm : Int.tmod (p : Int) 2 = 0 := by
    rw [Int.tmod_eq_emod_of_nonneg (by omega)]; omega
  have HE := hide (half_even s n p hs (by omega) (by omega) hp1)
  obtain ⟨k, hk⟩ : ∃ k : Nat, k = 14 - s.size := ⟨_, rfl⟩
  rw [← hk] at HE
  have ek : IntKind.i64.wrap ((14 : Int) - (s.size : Int)) = (k : Int) := by rw [wraps_i64 _ (by omega) (by omega)]; omega
  have hkl : k ≤ 14 := by omega
  have HZ : Hid (∀ (W : World) (b : Nat), Ar W b 0 k (fun _ => 0) → (convert 41 9 (.slice (some ⟨b, 0, none⟩) k k)).run Try.prog W = .ok (.string (bq k (fun _ => 0))) W) := fun W b h => ar_string h (fun i _ => by omega) k
  have HN : Hid (∀ W : World, Calls Try.prog 19 #[.int .i64 n, .int .i64 1] W fun e w' => e = .returned (.string (loW n 1)) ∧ Below W.heap.size W w') := specFx n 1 (by omega) (by omega)
  have HP : Hid (∀ W : World, Calls Try.prog 19 #[.int .i64 p, .int .i64 1] W fun e w' => e = .returned (.string (loW p 1)) ∧ Below W.heap.size W w') := specFx p 1 (by omega) (by omega)
  have zx : (loW n 1).size = 1 := loW_size n 1
  have zy : (loW p 1).size = 1 := loW_size p 1
  have zz : (bq k (fun _ => 0)).size = k := bq_size _ _
  generalize loW n 1 = x at *
  generalize loW p 1 = y at *
  generalize bq k (fun _ => 0) = z at *
  have ad0 := fun W : World => run_string_add_sum (P := Try.prog) (w := W) (x) (y) (by first | omega | (simp only [ByteArray.size_append]; omega))
  have ad1 := fun W : World => run_string_add_sum (P := Try.prog) (w := W) (x ++ y) (z) (by first | omega | (simp only [ByteArray.size_append]; omega))
  have ad2 := fun W : World => run_string_add_sum (P := Try.prog) (w := W) (x ++ y ++ z) (s) (by first | omega | (simp only [ByteArray.size_append]; omega))
  generalize x ++ y = t0 at *
  generalize t0 ++ z = t1 at *
  clear hk hp1 zx zy zz
  go_enter Try.func17, Try.ntmps17
  go_upto_region 3 with fail
  have B0 := hide ((Below.refl w.heap.size w).drew)
  refine wp_region_held_drew (S := fun _ => True) (by kernel_rfl) True.intro (fun hHeld => ?_)
  clear hm
  generalize w.drew = V0 at B0 ⊢
  refine wpAnyH_take (i := 0) (v := ?_) rfl (by kernel_rfl) (by kernel_rfl) (by kernel_rfl) (fun _ _ _ h => h) (Or.inl ⟨by rfl, ?_⟩) hHeld ?_
  rotate_left
  · intro V hSw; go_simp; rfl
  try simp only [Act.put, List.getElem_toArray, List.getElem_cons_zero, List.setIfInBounds_toArray, List.set_cons_zero, List.set_cons_succ]
  refine wpAnyH_take (i := 2) (v := ?_) rfl (by kernel_rfl) (by kernel_rfl) (by kernel_rfl) (fun _ _ _ h => h) (Or.inl ⟨by rfl, ?_⟩) hHeld ?_
  rotate_left
  · intro V hSw; go_simp; rfl
  try simp only [Act.put, List.getElem_toArray, List.getElem_cons_succ, List.getElem_cons_zero, List.setIfInBounds_toArray, List.set_cons_zero, List.set_cons_succ]
  refine wpAnyH_take (i := 5) (v := ?_) rfl (by kernel_rfl) (by kernel_rfl) (by kernel_rfl) (fun _ _ _ h => h) (Or.inl ⟨by rfl, ?_⟩) hHeld ?_
  rotate_left
  · intro V hSw; go_simp; rfl
  try simp only [Act.put, List.getElem_toArray, List.getElem_cons_succ, List.getElem_cons_zero, List.setIfInBounds_toArray, List.set_cons_zero, List.set_cons_succ]
  refine wpAnyH_take (i := 6) (v := ?_) rfl (by kernel_rfl) (by kernel_rfl) (by kernel_rfl) (fun _ _ _ h => h) (Or.inl ⟨by rfl, ?_⟩) hHeld ?_
  rotate_left
  · intro V hSw; go_simp; rfl
  try simp only [Act.put, List.getElem_toArray, List.getElem_cons_succ, List.getElem_cons_zero, List.setIfInBounds_toArray, List.set_cons_zero, List.set_cons_succ]
  refine wpAnyH_take (i := 7) (v := ?_) rfl (by kernel_rfl) (by kernel_rfl) (by kernel_rfl) (fun _ _ _ h => h) (Or.inl ⟨by rfl, ?_⟩) hHeld ?_
  rotate_left
  · intro V hSw; go_simp; rfl
  try simp only [Act.put, List.getElem_toArray, List.getElem_cons_succ, List.getElem_cons_zero, List.setIfInBounds_toArray, List.set_cons_zero, List.set_cons_succ]
  refine wpAnyH_take (i := 11) (v := ?_) rfl (by kernel_rfl) (by kernel_rfl) (by kernel_rfl) (fun _ _ _ h => h) (Or.inl ⟨by rfl, ?_⟩) hHeld ?_
  rotate_left
  · intro V hSw; go_simp; rfl
  try simp only [Act.put, List.getElem_toArray, List.getElem_cons_succ, List.getElem_cons_zero, List.setIfInBounds_toArray, List.set_cons_zero, List.set_cons_succ]
  refine wpAnyH_ready (rs := [1, 8]) (by kernel_rfl) (by simp) ?_
  refine AllReadyH.cons rfl (fun K hK => ?_) (AllReadyH.cons rfl (fun K hK => ?_) AllReadyH.nil)
  · go_simp
    go_at_call 19
    with_reducible refine (unhide HN _).mono ?_
    rintro e V1 ⟨rfl, bb⟩
    refine hK.out _ _ True.intro (fun hHeld => ?_)
    clear hK K
    try simp only [Act.put, List.getElem_toArray, List.getElem_cons_succ, List.getElem_cons_zero, List.setIfInBounds_toArray, List.set_cons_zero, List.set_cons_succ]
    have B1 := hide ((unhide B0).trans (bb.mono (unhide B0).size))
    clear bb
    refine wpAnyH_ready (rs := [3, 8]) (by kernel_rfl) (by simp) ?_
    refine AllReadyH.cons rfl (fun K hK => ?_) (AllReadyH.cons rfl (fun K hK => ?_) AllReadyH.nil)
    · go_simp
      go_at_call 19
      with_reducible refine (unhide HP _).mono ?_
      rintro e V2 ⟨rfl, bb⟩
      refine hK.out _ _ True.intro (fun hHeld => ?_)
      clear hK K
      try simp only [Act.put, List.getElem_toArray, List.getElem_cons_succ, List.getElem_cons_zero, List.setIfInBounds_toArray, List.set_cons_zero, List.set_cons_succ]
      have B2 := hide ((unhide B1).trans (bb.mono (unhide B1).size))
      clear bb
      refine wpAnyH_take (i := 4) (v := ?_) rfl (by kernel_rfl) (by kernel_rfl) (by kernel_rfl) (fun _ _ _ h => h) (Or.inl ⟨by rfl, ?_⟩) hHeld ?_
      rotate_left
      · intro V hSw; go_simp; rfl
      try simp only [Act.put, List.getElem_toArray, List.getElem_cons_succ, List.getElem_cons_zero, List.setIfInBounds_toArray, List.set_cons_zero, List.set_cons_succ]
      refine wpAnyH_ready (rs := [8]) (by kernel_rfl) (by simp) ?_
      refine AllReadyH.cons rfl (fun K hK => ?_) AllReadyH.nil
      · go_simp
        rw [mk_bytes k (by omega) V2]
        go_simp
        refine hK.out _ _ True.intro (fun hHeld => ?_)
        clear hK K
        try simp only [Act.put, List.getElem_toArray, List.getElem_cons_succ, List.getElem_cons_zero, List.setIfInBounds_toArray, List.set_cons_zero, List.set_cons_succ]
        have A3 := hide (Ar.new V2 k (fun _ => 0) 5)
        have B3 := hide ((unhide B2).alloc (unhide B2).size (.cells (us k fun _ => 0).toArray 5))
        generalize V2.alloc (.cells (us k fun _ => 0).toArray 5) = V3 at A3 B3 ⊢
        generalize V2.heap.size = b3 at A3 ⊢
        refine wpAnyH_ready (rs := [9]) (by kernel_rfl) (by simp) ?_
        refine AllReadyH.cons rfl (fun K hK => ?_) AllReadyH.nil
        · go_simp
          rw [unhide HZ _ _ (unhide A3)]
          go_simp
          refine hK.out _ _ True.intro (fun hHeld => ?_)
          clear hK K
          try simp only [Act.put, List.getElem_toArray, List.getElem_cons_succ, List.getElem_cons_zero, List.setIfInBounds_toArray, List.set_cons_zero, List.set_cons_succ]
          have B4 := B3
          generalize V3 = V4 at B4 ⊢
          refine wpAnyH_take (i := 10) (v := ?_) rfl (by kernel_rfl) (by kernel_rfl) (by kernel_rfl) (fun _ _ _ h => h) (Or.inl ⟨by rfl, ?_⟩) hHeld ?_
          rotate_left
          · intro V hSw; go_simp; rfl
          try simp only [Act.put, List.getElem_toArray, List.getElem_cons_succ, List.getElem_cons_zero, List.setIfInBounds_toArray, List.set_cons_zero, List.set_cons_succ]
          refine wpAnyH_take (i := 12) (v := ?_) rfl (by kernel_rfl) (by kernel_rfl) (by kernel_rfl) (fun _ _ _ h => h) (Or.inl ⟨by rfl, ?_⟩) hHeld ?_
          rotate_left
          · intro V hSw; go_simp; rfl
          try simp only [Act.put, List.getElem_toArray, List.getElem_cons_succ, List.getElem_cons_zero, List.setIfInBounds_toArray, List.set_cons_zero, List.set_cons_succ]
          refine wpAnyH_take (i := 13) (v := ?_) rfl (by kernel_rfl) (by kernel_rfl) (by kernel_rfl) (fun _ _ _ h => h) (Or.inl ⟨by rfl, ?_⟩) hHeld ?_
          rotate_left
          · intro V hSw; go_simp; rfl
          try simp only [Act.put, List.getElem_toArray, List.getElem_cons_succ, List.getElem_cons_zero, List.setIfInBounds_toArray, List.set_cons_zero, List.set_cons_succ]
          refine wpAnyH_done (by kernel_rfl) ?_ _
          try simp only [List.getElem_toArray, List.getElem_cons_succ, List.getElem_cons_zero]
          go_wp2
          go_ret
          exact ⟨by rw [← unhide HE]; rfl, unhide B4⟩
    · go_simp
      rw [mk_bytes k (by omega) V1]
      go_simp
      refine hK.out _ _ True.intro (fun hHeld => ?_)
      clear hK K
      try simp only [Act.put, List.getElem_toArray, List.getElem_cons_succ, List.getElem_cons_zero, List.setIfInBounds_toArray, List.set_cons_zero, List.set_cons_succ]
      have A2 := hide (Ar.new V1 k (fun _ => 0) 5)
      have B2 := hide ((unhide B1).alloc (unhide B1).size (.cells (us k fun _ => 0).toArray 5))
      generalize V1.alloc (.cells (us k fun _ => 0).toArray 5) = V2 at A2 B2 ⊢
      generalize V1.heap.size = b2 at A2 ⊢
      refine wpAnyH_ready (rs := [3, 9]) (by kernel_rfl) (by simp) ?_
      refine AllReadyH.cons rfl (fun K hK => ?_) (AllReadyH.cons rfl (fun K hK => ?_) AllReadyH.nil)
      · go_simp
        go_at_call 19
        with_reducible refine (unhide HP _).mono ?_
        rintro e V3 ⟨rfl, bb⟩
        refine hK.out _ _ True.intro (fun hHeld => ?_)
        clear hK K
        try simp only [Act.put, List.getElem_toArray, List.getElem_cons_succ, List.getElem_cons_zero, List.setIfInBounds_toArray, List.set_cons_zero, List.set_cons_succ]
        have B3 := hide ((unhide B2).trans (bb.mono (unhide B2).size))
        have A3 := hide ((unhide A2).below bb (unhide A2).lt)
        clear bb
        refine wpAnyH_take (i := 4) (v := ?_) rfl (by kernel_rfl) (by kernel_rfl) (by kernel_rfl) (fun _ _ _ h => h) (Or.inl ⟨by rfl, ?_⟩) hHeld ?_
        rotate_left
        · intro V hSw; go_simp; rfl
        try simp only [Act.put, List.getElem_toArray, List.getElem_cons_succ, List.getElem_cons_zero, List.setIfInBounds_toArray, List.set_cons_zero, List.set_cons_succ]
        refine wpAnyH_ready (rs := [9]) (by kernel_rfl) (by simp) ?_
        refine AllReadyH.cons rfl (fun K hK => ?_) AllReadyH.nil
        · go_simp
          rw [unhide HZ _ _ (unhide A3)]
          go_simp
          refine hK.out _ _ True.intro (fun hHeld => ?_)
          clear hK K
          try simp only [Act.put, List.getElem_toArray, List.getElem_cons_succ, List.getElem_cons_zero, List.setIfInBounds_toArray, List.set_cons_zero, List.set_cons_succ]
          have B4 := B3
          generalize V3 = V4 at B4 ⊢
          refine wpAnyH_take (i := 10) (v := ?_) rfl (by kernel_rfl) (by kernel_rfl) (by kernel_rfl) (fun _ _ _ h => h) (Or.inl ⟨by rfl, ?_⟩) hHeld ?_
          rotate_left
          · intro V hSw; go_simp; rfl
          try simp only [Act.put, List.getElem_toArray, List.getElem_cons_succ, List.getElem_cons_zero, List.setIfInBounds_toArray, List.set_cons_zero, List.set_cons_succ]
          refine wpAnyH_take (i := 12) (v := ?_) rfl (by kernel_rfl) (by kernel_rfl) (by kernel_rfl) (fun _ _ _ h => h) (Or.inl ⟨by rfl, ?_⟩) hHeld ?_
          rotate_left
          · intro V hSw; go_simp; rfl
          try simp only [Act.put, List.getElem_toArray, List.getElem_cons_succ, List.getElem_cons_zero, List.setIfInBounds_toArray, List.set_cons_zero, List.set_cons_succ]
          refine wpAnyH_take (i := 13) (v := ?_) rfl (by kernel_rfl) (by kernel_rfl) (by kernel_rfl) (fun _ _ _ h => h) (Or.inl ⟨by rfl, ?_⟩) hHeld ?_
          rotate_left
          · intro V hSw; go_simp; rfl
          try simp only [Act.put, List.getElem_toArray, List.getElem_cons_succ, List.getElem_cons_zero, List.setIfInBounds_toArray, List.set_cons_zero, List.set_cons_succ]
          refine wpAnyH_done (by kernel_rfl) ?_ _
          try simp only [List.getElem_toArray, List.getElem_cons_succ, List.getElem_cons_zero]
          go_wp2
          go_ret
          exact ⟨by rw [← unhide HE]; rfl, unhide B4⟩
      · go_simp
        rw [unhide HZ _ _ (unhide A2)]
        go_simp
        refine hK.out _ _ True.intro (fun hHeld => ?_)
        clear hK K
        try simp only [Act.put, List.getElem_toArray, List.getElem_cons_succ, List.getElem_cons_zero, List.setIfInBounds_toArray, List.set_cons_zero, List.set_cons_succ]
        have B3 := B2
        generalize V2 = V3 at B3 ⊢
        refine wpAnyH_ready (rs := [3]) (by kernel_rfl) (by simp) ?_
        refine AllReadyH.cons rfl (fun K hK => ?_) AllReadyH.nil
        · go_simp
          go_at_call 19
          with_reducible refine (unhide HP _).mono ?_
          rintro e V4 ⟨rfl, bb⟩
          refine hK.out _ _ True.intro (fun hHeld => ?_)
          clear hK K
          try simp only [Act.put, List.getElem_toArray, List.getElem_cons_succ, List.getElem_cons_zero, List.setIfInBounds_toArray, List.set_cons_zero, List.set_cons_succ]
          have B4 := hide ((unhide B3).trans (bb.mono (unhide B3).size))
          clear bb
          refine wpAnyH_take (i := 4) (v := ?_) rfl (by kernel_rfl) (by kernel_rfl) (by kernel_rfl) (fun _ _ _ h => h) (Or.inl ⟨by rfl, ?_⟩) hHeld ?_
          rotate_left
          · intro V hSw; go_simp; rfl
          try simp only [Act.put, List.getElem_toArray, List.getElem_cons_succ, List.getElem_cons_zero, List.setIfInBounds_toArray, List.set_cons_zero, List.set_cons_succ]
          refine wpAnyH_take (i := 10) (v := ?_) rfl (by kernel_rfl) (by kernel_rfl) (by kernel_rfl) (fun _ _ _ h => h) (Or.inl ⟨by rfl, ?_⟩) hHeld ?_
          rotate_left
          · intro V hSw; go_simp; rfl
          try simp only [Act.put, List.getElem_toArray, List.getElem_cons_succ, List.getElem_cons_zero, List.setIfInBounds_toArray, List.set_cons_zero, List.set_cons_succ]
          refine wpAnyH_take (i := 12) (v := ?_) rfl (by kernel_rfl) (by kernel_rfl) (by kernel_rfl) (fun _ _ _ h => h) (Or.inl ⟨by rfl, ?_⟩) hHeld ?_
          rotate_left
          · intro V hSw; go_simp; rfl
          try simp only [Act.put, List.getElem_toArray, List.getElem_cons_succ, List.getElem_cons_zero, List.setIfInBounds_toArray, List.set_cons_zero, List.set_cons_succ]
          refine wpAnyH_take (i := 13) (v := ?_) rfl (by kernel_rfl) (by kernel_rfl) (by kernel_rfl) (fun _ _ _ h => h) (Or.inl ⟨by rfl, ?_⟩) hHeld ?_
          rotate_left
          · intro V hSw; go_simp; rfl
          try simp only [Act.put, List.getElem_toArray, List.getElem_cons_succ, List.getElem_cons_zero, List.setIfInBounds_toArray, List.set_cons_zero, List.set_cons_succ]
          refine wpAnyH_done (by kernel_rfl) ?_ _
          try simp only [List.getElem_toArray, List.getElem_cons_succ, List.getElem_cons_zero]
          go_wp2
          go_ret
          exact ⟨by rw [← unhide HE]; rfl, unhide B4⟩
  · go_simp
    rw [mk_bytes k (by omega) V0]
    go_simp
    refine hK.out _ _ True.intro (fun hHeld => ?_)
    clear hK K
    try simp only [Act.put, List.getElem_toArray, List.getElem_cons_succ, List.getElem_cons_zero, List.setIfInBounds_toArray, List.set_cons_zero, List.set_cons_succ]
    have A1 := hide (Ar.new V0 k (fun _ => 0) 5)
    have B1 := hide ((unhide B0).alloc (unhide B0).size (.cells (us k fun _ => 0).toArray 5))
    generalize V0.alloc (.cells (us k fun _ => 0).toArray 5) = V1 at A1 B1 ⊢
    generalize V0.heap.size = b1 at A1 ⊢
    refine wpAnyH_ready (rs := [1, 9]) (by kernel_rfl) (by simp) ?_
    refine AllReadyH.cons rfl (fun K hK => ?_) (AllReadyH.cons rfl (fun K hK => ?_) AllReadyH.nil)
    · go_simp
      go_at_call 19
      with_reducible refine (unhide HN _).mono ?_
      rintro e V2 ⟨rfl, bb⟩
      refine hK.out _ _ True.intro (fun hHeld => ?_)
      clear hK K
      try simp only [Act.put, List.getElem_toArray, List.getElem_cons_succ, List.getElem_cons_zero, List.setIfInBounds_toArray, List.set_cons_zero, List.set_cons_succ]
      have B2 := hide ((unhide B1).trans (bb.mono (unhide B1).size))
      have A2 := hide ((unhide A1).below bb (unhide A1).lt)
      clear bb
      refine wpAnyH_ready (rs := [3, 9]) (by kernel_rfl) (by simp) ?_
      refine AllReadyH.cons rfl (fun K hK => ?_) (AllReadyH.cons rfl (fun K hK => ?_) AllReadyH.nil)
      · go_simp
        go_at_call 19
        with_reducible refine (unhide HP _).mono ?_
        rintro e V3 ⟨rfl, bb⟩
        refine hK.out _ _ True.intro (fun hHeld => ?_)
        clear hK K
        try simp only [Act.put, List.getElem_toArray, List.getElem_cons_succ, List.getElem_cons_zero, List.setIfInBounds_toArray, List.set_cons_zero, List.set_cons_succ]
        have B3 := hide ((unhide B2).trans (bb.mono (unhide B2).size))
        have A3 := hide ((unhide A2).below bb (unhide A2).lt)
        clear bb
        refine wpAnyH_take (i := 4) (v := ?_) rfl (by kernel_rfl) (by kernel_rfl) (by kernel_rfl) (fun _ _ _ h => h) (Or.inl ⟨by rfl, ?_⟩) hHeld ?_
        rotate_left
        · intro V hSw; go_simp; rfl
        try simp only [Act.put, List.getElem_toArray, List.getElem_cons_succ, List.getElem_cons_zero, List.setIfInBounds_toArray, List.set_cons_zero, List.set_cons_succ]
        refine wpAnyH_ready (rs := [9]) (by kernel_rfl) (by simp) ?_
        refine AllReadyH.cons rfl (fun K hK => ?_) AllReadyH.nil
        · go_simp
          rw [unhide HZ _ _ (unhide A3)]
          go_simp
          refine hK.out _ _ True.intro (fun hHeld => ?_)
          clear hK K
          try simp only [Act.put, List.getElem_toArray, List.getElem_cons_succ, List.getElem_cons_zero, List.setIfInBounds_toArray, List.set_cons_zero, List.set_cons_succ]
          have B4 := B3
          generalize V3 = V4 at B4 ⊢
          refine wpAnyH_take (i := 10) (v := ?_) rfl (by kernel_rfl) (by kernel_rfl) (by kernel_rfl) (fun _ _ _ h => h) (Or.inl ⟨by rfl, ?_⟩) hHeld ?_
          rotate_left
          · intro V hSw; go_simp; rfl
          try simp only [Act.put, List.getElem_toArray, List.getElem_cons_succ, List.getElem_cons_zero, List.setIfInBounds_toArray, List.set_cons_zero, List.set_cons_succ]
          refine wpAnyH_take (i := 12) (v := ?_) rfl (by kernel_rfl) (by kernel_rfl) (by kernel_rfl) (fun _ _ _ h => h) (Or.inl ⟨by rfl, ?_⟩) hHeld ?_
          rotate_left
          · intro V hSw; go_simp; rfl
          try simp only [Act.put, List.getElem_toArray, List.getElem_cons_succ, List.getElem_cons_zero, List.setIfInBounds_toArray, List.set_cons_zero, List.set_cons_succ]
          refine wpAnyH_take (i := 13) (v := ?_) rfl (by kernel_rfl) (by kernel_rfl) (by kernel_rfl) (fun _ _ _ h => h) (Or.inl ⟨by rfl, ?_⟩) hHeld ?_
          rotate_left
          · intro V hSw; go_simp; rfl
          try simp only [Act.put, List.getElem_toArray, List.getElem_cons_succ, List.getElem_cons_zero, List.setIfInBounds_toArray, List.set_cons_zero, List.set_cons_succ]
          refine wpAnyH_done (by kernel_rfl) ?_ _
          try simp only [List.getElem_toArray, List.getElem_cons_succ, List.getElem_cons_zero]
          go_wp2
          go_ret
          exact ⟨by rw [← unhide HE]; rfl, unhide B4⟩
      · go_simp
        rw [unhide HZ _ _ (unhide A2)]
        go_simp
        refine hK.out _ _ True.intro (fun hHeld => ?_)
        clear hK K
        try simp only [Act.put, List.getElem_toArray, List.getElem_cons_succ, List.getElem_cons_zero, List.setIfInBounds_toArray, List.set_cons_zero, List.set_cons_succ]
        have B3 := B2
        generalize V2 = V3 at B3 ⊢
        refine wpAnyH_ready (rs := [3]) (by kernel_rfl) (by simp) ?_
        refine AllReadyH.cons rfl (fun K hK => ?_) AllReadyH.nil
        · go_simp
          go_at_call 19
          with_reducible refine (unhide HP _).mono ?_
          rintro e V4 ⟨rfl, bb⟩
          refine hK.out _ _ True.intro (fun hHeld => ?_)
          clear hK K
          try simp only [Act.put, List.getElem_toArray, List.getElem_cons_succ, List.getElem_cons_zero, List.setIfInBounds_toArray, List.set_cons_zero, List.set_cons_succ]
          have B4 := hide ((unhide B3).trans (bb.mono (unhide B3).size))
          clear bb
          refine wpAnyH_take (i := 4) (v := ?_) rfl (by kernel_rfl) (by kernel_rfl) (by kernel_rfl) (fun _ _ _ h => h) (Or.inl ⟨by rfl, ?_⟩) hHeld ?_
          rotate_left
          · intro V hSw; go_simp; rfl
          try simp only [Act.put, List.getElem_toArray, List.getElem_cons_succ, List.getElem_cons_zero, List.setIfInBounds_toArray, List.set_cons_zero, List.set_cons_succ]
          refine wpAnyH_take (i := 10) (v := ?_) rfl (by kernel_rfl) (by kernel_rfl) (by kernel_rfl) (fun _ _ _ h => h) (Or.inl ⟨by rfl, ?_⟩) hHeld ?_
          rotate_left
          · intro V hSw; go_simp; rfl
          try simp only [Act.put, List.getElem_toArray, List.getElem_cons_succ, List.getElem_cons_zero, List.setIfInBounds_toArray, List.set_cons_zero, List.set_cons_succ]
          refine wpAnyH_take (i := 12) (v := ?_) rfl (by kernel_rfl) (by kernel_rfl) (by kernel_rfl) (fun _ _ _ h => h) (Or.inl ⟨by rfl, ?_⟩) hHeld ?_
          rotate_left
          · intro V hSw; go_simp; rfl
          try simp only [Act.put, List.getElem_toArray, List.getElem_cons_succ, List.getElem_cons_zero, List.setIfInBounds_toArray, List.set_cons_zero, List.set_cons_succ]
          refine wpAnyH_take (i := 13) (v := ?_) rfl (by kernel_rfl) (by kernel_rfl) (by kernel_rfl) (fun _ _ _ h => h) (Or.inl ⟨by rfl, ?_⟩) hHeld ?_
          rotate_left
          · intro V hSw; go_simp; rfl
          try simp only [Act.put, List.getElem_toArray, List.getElem_cons_succ, List.getElem_cons_zero, List.setIfInBounds_toArray, List.set_cons_zero, List.set_cons_succ]
          refine wpAnyH_done (by kernel_rfl) ?_ _
          try simp only [List.getElem_toArray, List.getElem_cons_succ, List.getElem_cons_zero]
          go_wp2
          go_ret
          exact ⟨by rw [← unhide HE]; rfl, unhide B4⟩
    · go_simp
      rw [unhide HZ _ _ (unhide A1)]
      go_simp
      refine hK.out _ _ True.intro (fun hHeld => ?_)
      clear hK K
      try simp only [Act.put, List.getElem_toArray, List.getElem_cons_succ, List.getElem_cons_zero, List.setIfInBounds_toArray, List.set_cons_zero, List.set_cons_succ]
      have B2 := B1
      generalize V1 = V2 at B2 ⊢
      refine wpAnyH_ready (rs := [1]) (by kernel_rfl) (by simp) ?_
      refine AllReadyH.cons rfl (fun K hK => ?_) AllReadyH.nil
      · go_simp
        go_at_call 19
        with_reducible refine (unhide HN _).mono ?_
        rintro e V3 ⟨rfl, bb⟩
        refine hK.out _ _ True.intro (fun hHeld => ?_)
        clear hK K
        try simp only [Act.put, List.getElem_toArray, List.getElem_cons_succ, List.getElem_cons_zero, List.setIfInBounds_toArray, List.set_cons_zero, List.set_cons_succ]
        have B3 := hide ((unhide B2).trans (bb.mono (unhide B2).size))
        clear bb
        refine wpAnyH_ready (rs := [3]) (by kernel_rfl) (by simp) ?_
        refine AllReadyH.cons rfl (fun K hK => ?_) AllReadyH.nil
        · go_simp
          go_at_call 19
          with_reducible refine (unhide HP _).mono ?_
          rintro e V4 ⟨rfl, bb⟩
          refine hK.out _ _ True.intro (fun hHeld => ?_)
          clear hK K
          try simp only [Act.put, List.getElem_toArray, List.getElem_cons_succ, List.getElem_cons_zero, List.setIfInBounds_toArray, List.set_cons_zero, List.set_cons_succ]
          have B4 := hide ((unhide B3).trans (bb.mono (unhide B3).size))
          clear bb
          refine wpAnyH_take (i := 4) (v := ?_) rfl (by kernel_rfl) (by kernel_rfl) (by kernel_rfl) (fun _ _ _ h => h) (Or.inl ⟨by rfl, ?_⟩) hHeld ?_
          rotate_left
          · intro V hSw; go_simp; rfl
          try simp only [Act.put, List.getElem_toArray, List.getElem_cons_succ, List.getElem_cons_zero, List.setIfInBounds_toArray, List.set_cons_zero, List.set_cons_succ]
          refine wpAnyH_take (i := 10) (v := ?_) rfl (by kernel_rfl) (by kernel_rfl) (by kernel_rfl) (fun _ _ _ h => h) (Or.inl ⟨by rfl, ?_⟩) hHeld ?_
          rotate_left
          · intro V hSw; go_simp; rfl
          try simp only [Act.put, List.getElem_toArray, List.getElem_cons_succ, List.getElem_cons_zero, List.setIfInBounds_toArray, List.set_cons_zero, List.set_cons_succ]
          refine wpAnyH_take (i := 12) (v := ?_) rfl (by kernel_rfl) (by kernel_rfl) (by kernel_rfl) (fun _ _ _ h => h) (Or.inl ⟨by rfl, ?_⟩) hHeld ?_
          rotate_left
          · intro V hSw; go_simp; rfl
          try simp only [Act.put, List.getElem_toArray, List.getElem_cons_succ, List.getElem_cons_zero, List.setIfInBounds_toArray, List.set_cons_zero, List.set_cons_succ]
          refine wpAnyH_take (i := 13) (v := ?_) rfl (by kernel_rfl) (by kernel_rfl) (by kernel_rfl) (fun _ _ _ h => h) (Or.inl ⟨by rfl, ?_⟩) hHeld ?_
          rotate_left
          · intro V hSw; go_simp; rfl
          try simp only [Act.put, List.getElem_toArray, List.getElem_cons_succ, List.getElem_cons_zero, List.setIfInBounds_toArray, List.set_cons_zero, List.set_cons_succ]
          refine wpAnyH_done (by kernel_rfl) ?_ _
          try simp only [List.getElem_toArray, List.getElem_cons_succ, List.getElem_cons_zero]
          go_wp2
          go_ret
          exact ⟨by rw [← unhide HE]; rfl, unhide B4⟩
theorem specHalf (s : ByteArray) (n p : Nat) (hs : s.size ≤ 10) (hn : n ≤ 19) (hp : p ≤ 4) (w : World) :
    Calls Try.prog 17 #[.string s, .int .i64 n, .int .i64 p] w fun e w' => e = .returned (.string (hbW s n p)) ∧ Below w.heap.size w w' := by
  by_cases h : p % 2 = 1
  · exact specHalfO s n p hs hn hp h w
  · exact specHalfE s n p hs hn hp h w
-- HALF END
end Go.Proofs.Ytooojkedphlknaa
