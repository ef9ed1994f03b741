/-
  Contracts: the program's words told as a block, xored, and times x.
-/
import Derived.Test.YtkpodgeinanceaaE5a
import Derived.Test.YtkpodgeinanceaaL5t
import Derived.Test.YtkpodgeinanceaaGfp
namespace Go.Proofs.Ytkpodgeinanceaa
open Go.ChangeShapes Go.WideShapes Go.ChangeAt Go.RowKit
set_option linter.unusedVariables false

/-- two words as sixteen bytes -/
def blF (h l i : Nat) : Nat := if i < 8 then byN h (7 - i) else byN l (15 - i)
theorem blF_lt (h l i : Nat) : blF h l i < 256 := by unfold blF; split <;> exact byN_lt _ _
/-- a block of which k bytes of each word are told -/
def blK (h l k i : Nat) : Nat := if i < 8 then (if i < k then byN h (7 - i) else 0) else if i - 8 < k then byN l (15 - i) else 0
theorem blK_end (h l i : Nat) (hi : i < 16) : blK h l 8 i = blF h l i := by
  unfold blK blF
  by_cases e : i < 8
  · rw [if_pos e, if_pos e, if_pos e]
  · rw [if_neg e, if_neg e, if_pos (by omega)]
theorem byU_int (h k j : Nat) (hh : h < 18446744073709551616) (hk : j = 8 * k) : IntKind.u8.wrap ((h : Int) / 2 ^ j) = ((byN h k : Nat) : Int) := by
  subst hk
  unfold byN
  rw [wrap_u8, show (256 : Nat) ^ k = 2 ^ (8 * k) by rw [Nat.pow_mul]]
  simp
set_option maxRecDepth 100000 in
set_option maxHeartbeats 1000000 in
theorem implBlock (h l : Nat) (hh : h < 18446744073709551616) (hl : l < 18446744073709551616) (w : World) :
    Calls Try.prog 68 #[.agg #[.int .u64 (h : Nat), .int .u64 (l : Nat)]] w fun e w' => e = .returned (.agg (us 16 (blF h l)).toArray) ∧ Below w.heap.size w w' := by
  have HI1 := hide (fun k j (hk : j = 8 * k) => byU_int h k j hh hk)
  have HI2 := hide (fun k j (hk : j = 8 * k) => byU_int l k j hl hk)
  have HE := hide (fun i (hi : i < 16) => blK_end h l i hi)
  go_enter Try.func68, Try.ntmps68
  go_wp2_with fail
  have d0 := q2_own w h l 82
  have e0 := (Below.refl w.heap.size w).alloc (Nat.le_refl _) (.cells #[.int .u64 (h : Nat), .int .u64 (l : Nat)] 82)
  have z0 : (w.alloc (.cells #[.int .u64 (h : Nat), .int .u64 (l : Nat)] 82)).heap.size = w.heap.size + 1 := by simp
  generalize w.alloc (.cells #[.int .u64 (h : Nat), .int .u64 (l : Nat)] 82) = W0 at d0 e0 z0 ⊢
  have d1 := z16_new W0 84
  have f0 := d0.alloc (.cells #[.int .u8 0, .int .u8 0, .int .u8 0, .int .u8 0, .int .u8 0, .int .u8 0, .int .u8 0, .int .u8 0, .int .u8 0, .int .u8 0, .int .u8 0, .int .u8 0, .int .u8 0, .int .u8 0, .int .u8 0, .int .u8 0] 84) (by omega)
  have e1 := e0.alloc (by omega) (.cells #[.int .u8 0, .int .u8 0, .int .u8 0, .int .u8 0, .int .u8 0, .int .u8 0, .int .u8 0, .int .u8 0, .int .u8 0, .int .u8 0, .int .u8 0, .int .u8 0, .int .u8 0, .int .u8 0, .int .u8 0, .int .u8 0] 84)
  have z1 : (W0.alloc (.cells #[.int .u8 0, .int .u8 0, .int .u8 0, .int .u8 0, .int .u8 0, .int .u8 0, .int .u8 0, .int .u8 0, .int .u8 0, .int .u8 0, .int .u8 0, .int .u8 0, .int .u8 0, .int .u8 0, .int .u8 0, .int .u8 0] 84)).heap.size = w.heap.size + 1 + 1 := by simp [z0]
  rw [z0] at d1
  generalize W0.alloc (.cells #[.int .u8 0, .int .u8 0, .int .u8 0, .int .u8 0, .int .u8 0, .int .u8 0, .int .u8 0, .int .u8 0, .int .u8 0, .int .u8 0, .int .u8 0, .int .u8 0, .int .u8 0, .int .u8 0, .int .u8 0, .int .u8 0] 84) = W1 at d1 f0 e1 z1 ⊢
  have d2 := z16_new W1 84
  have g0 := hide (f0.alloc (.cells #[.int .u8 0, .int .u8 0, .int .u8 0, .int .u8 0, .int .u8 0, .int .u8 0, .int .u8 0, .int .u8 0, .int .u8 0, .int .u8 0, .int .u8 0, .int .u8 0, .int .u8 0, .int .u8 0, .int .u8 0, .int .u8 0] 84) (by omega))
  have g1 := hide (d1.alloc (.cells #[.int .u8 0, .int .u8 0, .int .u8 0, .int .u8 0, .int .u8 0, .int .u8 0, .int .u8 0, .int .u8 0, .int .u8 0, .int .u8 0, .int .u8 0, .int .u8 0, .int .u8 0, .int .u8 0, .int .u8 0, .int .u8 0] 84))
  have e2 := hide (e1.alloc (by omega) (.cells #[.int .u8 0, .int .u8 0, .int .u8 0, .int .u8 0, .int .u8 0, .int .u8 0, .int .u8 0, .int .u8 0, .int .u8 0, .int .u8 0, .int .u8 0, .int .u8 0, .int .u8 0, .int .u8 0, .int .u8 0, .int .u8 0] 84))
  rw [z1] at d2
  have g2 := hide d2
  generalize W1.alloc (.cells #[.int .u8 0, .int .u8 0, .int .u8 0, .int .u8 0, .int .u8 0, .int .u8 0, .int .u8 0, .int .u8 0, .int .u8 0, .int .u8 0, .int .u8 0, .int .u8 0, .int .u8 0, .int .u8 0, .int .u8 0, .int .u8 0] 84) = W2 at g0 g1 g2 e2 ⊢
  clear d0 e0 z0 d1 f0 e1 z1 d2
  go_loopw [6] (fun iv wr => ∃ k : Nat, k ≤ 8 ∧ iv = .int .i64 k ∧ Q2 wr w.heap.size h l ∧ Ar wr (w.heap.size + 1) 0 16 (fun _ => 0) ∧ Ar wr (w.heap.size + 1 + 1) 0 16 (blK h l k) ∧ Below w.heap.size w wr) (fun iv _ => 8 - (intOf iv).toNat)
  case atStart => exact ⟨0, by omega, rfl, unhide g0, unhide g1, (unhide g2).congr (fun i hi => by unfold blK; by_cases e : i < 8 <;> simp [e]), unhide e2⟩
  case round =>
    obtain ⟨k, hk, rfl, q0, a1, a2, hB⟩ := hrel
    clear g0 g1 g2 e2
    by_cases hlt : k < 8
    · obtain ⟨m, hm⟩ : ∃ m : Nat, m = 7 - k := ⟨_, rfl⟩
      obtain ⟨d, hd⟩ : ∃ d : Nat, d = 8 * m := ⟨_, rfl⟩
      obtain ⟨q, hq⟩ : ∃ q : Nat, q = 8 + k := ⟨_, rfl⟩
      have hdI : 64 - 8 * ((k : Int) + 1) = (d : Int) := by omega
      have hqI : 8 + (k : Int) = (q : Int) := by omega
      have hk16 : k < 16 := by omega
      have hq16 : q < 16 := by omega
      have hd64 : d < 64 := by omega
      have i1 := unhide HI1 m d hd
      have i2 := unhide HI2 m d hd
      have c0 := q0.c0
      have c1 := q0.c1
      have s0 := a2.c0 k hk16
      have s1 := a2.f0 k hk16
      have s2 := a2.c0 q hq16
      have s3 := a2.f0 q hq16
      have P1 := a2.put0 (g := fun i => if i = k then byN h m else blK h l k i) (k := k) (x := byN h m) hk16 (if_pos rfl) (fun i hi hne => if_neg hne)
      have P2 := hide ((P1.put0 (g := blK h l (k + 1)) (k := q) (x := byN l m) hq16 (by unfold blK; rw [if_neg (by omega), if_pos (by omega), show 15 - q = m by omega]) (fun i hi hne => by
        show _ = if i = k then byN h m else blK h l k i
        unfold blK
        by_cases e : i = k
        · rw [if_pos (by omega), if_pos (by omega), if_pos e, show 7 - i = m by omega]
        · rw [if_neg e]
          by_cases e2 : i < 8
          · rw [if_pos e2, if_pos e2]
            by_cases e3 : i < k
            · rw [if_pos e3, if_pos (by omega)]
            · rw [if_neg e3, if_neg (by omega)]
          · rw [if_neg e2, if_neg e2]
            by_cases e3 : i - 8 < k
            · rw [if_pos e3, if_pos (by omega)]
            · rw [if_neg e3, if_neg (by omega)])))
      have P0 := hide ((q0.other (b' := w.heap.size + 1 + 1) (k := k) (v := .int .u8 ((byN h m : Nat) : Int)) (by omega)).other (b' := w.heap.size + 1 + 1) (k := q) (v := .int .u8 ((byN l m : Nat) : Int)) (by omega))
      have P3 := hide ((a1.other (a := ⟨w.heap.size + 1 + 1, k, none⟩) (v := .int .u8 ((byN h m : Nat) : Int)) (by show w.heap.size + 1 + 1 ≠ w.heap.size + 1; omega)).other (a := ⟨w.heap.size + 1 + 1, q, none⟩) (v := .int .u8 ((byN l m : Nat) : Int)) (by show w.heap.size + 1 + 1 ≠ w.heap.size + 1; omega))
      have P4 := hide ((hB.setCell (p := ⟨w.heap.size + 1 + 1, k, none⟩) (show w.heap.size ≤ w.heap.size + 1 + 1 by omega) (.int .u8 ((byN h m : Nat) : Int))).setCell (p := ⟨w.heap.size + 1 + 1, q, none⟩) (show w.heap.size ≤ w.heap.size + 1 + 1 by omega) (.int .u8 ((byN l m : Nat) : Int)))
      have n1 : (0 : Int) ≤ (k : Int) ∧ (k : Int) < 16 := by omega
      have n2 : (0 : Int) ≤ (q : Int) ∧ (q : Int) < 16 := by omega
      have v1 : IntKind.i64.wrap (8 + (k : Int)) = (q : Int) := by rw [hqI]; exact wraps_i64 _ (by omega) (by omega)
      have HH := hide (And.intro hm (And.intro hd hq))
      clear hm hd hq q0 a1 a2 hB P1
      generalize byN h m = x at *
      generalize byN l m = y at *
      generalize blK h l k k = z1 at *
      generalize blK h l k q = z2 at *
      go_wp2
      exact ⟨⟨k + 1, by omega, by go_num, unhide P0, unhide P3, unhide P2, unhide P4⟩, by simp [intOf]; omega⟩
    · obtain rfl : k = 8 := by omega
      have h4 := a2.congr (g := blF h l) (fun i hi => unhide HE i hi)
      have h5 := a1.puts (g := blF h l)
      generalize hr : blF h l = r at *
      have HR := hide hr
      clear hr
      go_upto_region 9 with fail
      refine wp_region_list ?_
      refine wpList_load_mid rfl 84 (.tmp 3) rfl (w.heap.size + 1 + 1) 0 rfl (us 16 r) _ h4.range Try.underlying84 rfl (by rw [us_length]; exact info_bl) ?_
      refine wpList_store_mid rfl 84 (.tmp 2) (.tmp 29) rfl (w.heap.size + 1) 0 (us 16 r).toArray rfl rfl (by rw [us_size]; exact a1.there) (by rw [us_size]; exact info_bl) (us_one _ _) ?_
      refine wpList_nil ?_
      have HB := hide hB
      clear q0 a1 a2 hB h4
      have HH := hide h5
      clear h5
      go_wp2
      refine ret_arr 2 (w.heap.size + 1) 16 84 _ r ?r1 ?r2 ?r3 (unhide HH) Try.underlying84 rfl info_bl ?_
      case r1 => rfl
      case r2 => rfl
      case r3 => rfl
      exact ⟨by rw [unhide HR], Go.Proofs.Ytkpodgeinanceaa.below_setCells (by omega) _ _ _ (unhide HB)⟩
set_option maxRecDepth 100000 in
set_option maxHeartbeats 1000000 in
theorem implXorE (h l x y : Nat) (hh : h < 18446744073709551616) (hl : l < 18446744073709551616) (hx : x < 18446744073709551616) (hy : y < 18446744073709551616) (w : World) :
    Calls Try.prog 92 #[.agg #[.int .u64 (h : Nat), .int .u64 (l : Nat)], .agg #[.int .u64 (x : Nat), .int .u64 (y : Nat)]] w fun e w' => e = .returned (.agg #[.int .u64 ((h ^^^ x : Nat) : Int), .int .u64 ((l ^^^ y : Nat) : Int)]) ∧ Below w.heap.size w w' := by
  have x1 := hide (xor64 h x hh hx)
  have x2 := hide (xor64 l y hl hy)
  go_enter Try.func92, Try.ntmps92
  go_wp2
  rw [unhide x1, unhide x2]
  refine ret_two 4 (w.heap.size + 1 + 1) (h ^^^ x) (l ^^^ y) 82 _ ?r1 ?r2 ?r3 ?q Try.underlying82 rfl info_el ?_
  case r1 => rfl
  case r2 => rfl
  case r3 => rfl
  case q =>
    have := q2_own ((w.alloc (.cells #[.int .u64 (h : Nat), .int .u64 (l : Nat)] 82)).alloc (.cells #[.int .u64 (x : Nat), .int .u64 (y : Nat)] 82)) (h ^^^ x) (l ^^^ y) 82
    rw [World.size_alloc, World.size_alloc] at this
    exact this
  exact ⟨rfl, (((Below.refl w.heap.size w).alloc (Nat.le_refl _) _).alloc (by simp) _).alloc (by simp; omega) _⟩
theorem or63' (H L : Nat) (hL : L < 18446744073709551616) : bits .or .u64 (IntKind.u64.wrap ((H : Int) * 9223372036854775808)) ((L : Int) / 2) = ((L / 2 + H % 2 * 9223372036854775808 : Nat) : Int) := by
  have h1 := Nat.two_pow_add_eq_or_of_lt (i := 63) (b := L / 2) (by omega) (H % 2)
  show IntKind.u64.wrap (((BitVec.ofInt 64 (IntKind.u64.wrap ((H : Int) * 9223372036854775808)) ||| BitVec.ofInt 64 ((L : Int) / 2)).toNat : Nat) : Int) = _
  rw [BitVec.toNat_or, BitVec.toNat_ofInt, BitVec.toNat_ofInt, IntKind.wrap_u64, IntKind.wrap_u64, show ((L : Int) / 2 % ((2 ^ 64 : Nat) : Int)).toNat = L / 2 by omega, show ((H : Int) * 9223372036854775808 % 18446744073709551616 % ((2 ^ 64 : Nat) : Int)).toNat = 2 ^ 63 * (H % 2) by omega, ← h1]
  omega
set_option maxRecDepth 100000 in
set_option maxHeartbeats 1000000 in
theorem implTimesX (h l : Nat) (hh : h < 18446744073709551616) (hl : l < 18446744073709551616) (w : World) :
    Calls Try.prog 103 #[.agg #[.int .u64 (h : Nat), .int .u64 (l : Nat)]] w fun e w' => e = .returned (.agg #[.int .u64 (((bsP h l 1).1 : Nat) : Int), .int .u64 (((bsP h l 1).2 : Nat) : Int)]) ∧ Below w.heap.size w w' := by
  have HS : Hid (bsP h l 1 = (if l % 2 = 1 then h / 2 ^^^ 16212958658533785600 else h / 2, l / 2 + h % 2 * 9223372036854775808)) := rfl
  obtain ⟨G, hG⟩ : ∃ G : Nat, G = h / 2 := ⟨_, rfl⟩
  have hGI : (h : Int) / 2 = (G : Int) := by omega
  have hG64 : G < 18446744073709551616 := by omega
  have HG := hide hG.symm
  clear hG
  have xC : Hid (bits .xor .u64 (G : Int) 16212958658533785600 = ((G ^^^ 16212958658533785600 : Nat) : Int)) := xor64 G 16212958658533785600 hG64 (by omega)
  have oL := hide (or63' h l hl)
  have aL := and1 (l : Int) (by omega) (by omega)
  by_cases hlow : l % 2 = 1
  · have t2 : bits .and .u64 (l : Int) 1 = 1 := by omega
    have s1 : Hid ((bsP h l 1).1 = G ^^^ 16212958658533785600) := by rw [unhide HS]; exact (show (if l % 2 = 1 then h / 2 ^^^ 16212958658533785600 else h / 2) = _ by rw [if_pos hlow, unhide HG])
    have s2 : Hid ((bsP h l 1).2 = (l / 2 + h % 2 * 9223372036854775808)) := by rw [unhide HS]; exact rfl
    clear aL hlow
    go_enter Try.func103, Try.ntmps103
    go_wp2
    rw [unhide xC, unhide oL]
    refine ret_two 2 (w.heap.size + 1) (G ^^^ 16212958658533785600) (l / 2 + h % 2 * 9223372036854775808) 82 _ ?r1 ?r2 ?r3 ?q Try.underlying82 rfl info_el ?_
    case r1 => rfl
    case r2 => rfl
    case r3 => rfl
    case q =>
      have := q2_own (w.alloc (.cells #[.int .u64 (h : Nat), .int .u64 (l : Nat)] 82)) (G ^^^ 16212958658533785600) (l / 2 + h % 2 * 9223372036854775808) 82
      rw [World.size_alloc] at this
      exact this.alloc _ (by simp)
    exact ⟨by rw [unhide s1, unhide s2], (((Below.refl w.heap.size w).alloc (Nat.le_refl _) _).alloc (by simp) _).alloc (by simp; omega) _⟩
  · have t2 : bits .and .u64 (l : Int) 1 = 0 := by omega
    have s1 : Hid ((bsP h l 1).1 = G) := by rw [unhide HS]; exact (show (if l % 2 = 1 then h / 2 ^^^ 16212958658533785600 else h / 2) = _ by rw [if_neg hlow, unhide HG])
    have s2 : Hid ((bsP h l 1).2 = (l / 2 + h % 2 * 9223372036854775808)) := by rw [unhide HS]; exact rfl
    clear aL hlow
    go_enter Try.func103, Try.ntmps103
    go_wp2
    rw [unhide oL]
    refine ret_two 2 (w.heap.size + 1) G (l / 2 + h % 2 * 9223372036854775808) 82 _ ?r1 ?r2 ?r3 ?q Try.underlying82 rfl info_el ?_
    case r1 => rfl
    case r2 => rfl
    case r3 => rfl
    case q =>
      have := q2_own (w.alloc (.cells #[.int .u64 (h : Nat), .int .u64 (l : Nat)] 82)) G (l / 2 + h % 2 * 9223372036854775808) 82
      rw [World.size_alloc] at this
      exact this.alloc _ (by simp)
    exact ⟨by rw [unhide s1, unhide s2], (((Below.refl w.heap.size w).alloc (Nat.le_refl _) _).alloc (by simp) _).alloc (by simp; omega) _⟩
end Go.Proofs.Ytkpodgeinanceaa
