/-
  Contracts: the model's round keys.
-/
import Derived.Test.YtkpodgeinanceaaAbr
import Derived.Test.YtkpodgeinanceaaSpr
import Derived.Test.YtkpodgeinanceaaGmx
namespace Go.Proofs.Ytkpodgeinanceaa
open Go.ChangeShapes Go.WideShapes Go.ChangeAt Go.RowKit
set_option linter.unusedVariables false

/-- all round keys, one behind the other -/
def ks (f : Nat → Nat) (i : Nat) : Nat := rk f (i / 16) (i % 16)
theorem ks_first (f : Nat → Nat) (i : Nat) (h : i < 16) : ks f i = f i := by
  unfold ks
  rw [Nat.div_eq_of_lt h, Nat.mod_eq_of_lt h]
  rfl
theorem ks_lt (f : Nat → Nat) (hf : ∀ i, f i < 256) (i : Nat) : ks f i < 256 := rk_lt f hf _ _
theorem ck_ks (f : Nat → Nat) (i : Nat) (h : i < 176) : ck f 10 i = ks f i := by
  unfold ck ks
  rw [if_pos (by omega)]
/-- what is xored into the word c + 4 -/
def tw (f : Nat → Nat) (c k : Nat) : Nat :=
  if c % 4 = 0 then (if k = 0 then sub (ks f (4 * c + 13)) ^^^ pw (c / 4) else sub (ks f (4 * c + 12 + (k + 1) % 4))) else ks f (4 * c + 12 + k)
theorem ks_at (f : Nat → Nat) (j r : Nat) (h : r < 16) : ks f (16 * j + r) = rk f j r := by
  unfold ks
  rw [show (16 * j + r) / 16 = j by omega, show (16 * j + r) % 16 = r by omega]
theorem ks_word (f : Nat → Nat) (c k : Nat) (hk : k < 4) : ks f (4 * c + 16 + k) = ks f (4 * c + k) ^^^ tw f c k := by
  unfold tw
  by_cases h0 : c % 4 = 0
  · obtain ⟨j, rfl⟩ : ∃ j, c = 4 * j := ⟨c / 4, by omega⟩
    rw [if_pos h0, show 4 * (4 * j) + 16 + k = 16 * (j + 1) + k by omega, show 4 * (4 * j) + k = 16 * j + k by omega, show 4 * (4 * j) + 13 = 16 * j + 13 by omega, show 4 * (4 * j) + 12 + (k + 1) % 4 = 16 * j + (12 + (k + 1) % 4) by omega, show 4 * j / 4 = j by omega,
      ks_at _ _ _ (by omega), ks_at _ _ _ (by omega), ks_at _ _ _ (by omega), ks_at _ _ _ (by omega)]
    show nk (rk f j) (pw j) k = _
    rw [nk_near _ _ _ hk]
    unfold k1
    by_cases e : k = 0
    · subst e
      rw [if_pos rfl, if_pos rfl, k0, if_pos (by omega), Nat.xor_assoc]
    · rw [if_neg e, if_neg e, k0, if_pos hk]
  · rw [if_neg h0]
    obtain ⟨j, q, rfl, hq⟩ : ∃ j q, c = 4 * j + q ∧ q < 4 := ⟨c / 4, c % 4, by omega, by omega⟩
    have hq0 : 0 < q := by omega
    rw [show 4 * (4 * j + q) + 16 + k = 16 * (j + 1) + (4 * q + k) by omega, show 4 * (4 * j + q) + k = 16 * j + (4 * q + k) by omega, show 4 * (4 * j + q) + 12 + k = 16 * (j + 1) + (4 * q + k - 4) by omega,
      ks_at _ _ _ (by omega), ks_at _ _ _ (by omega), ks_at _ _ _ (by omega)]
    show nk (rk f j) (pw j) (4 * q + k) = rk f j (4 * q + k) ^^^ nk (rk f j) (pw j) (4 * q + k - 4)
    have := nk_far (rk f j) (pw j) (4 * q + k - 4)
    rw [show 4 * q + k - 4 + 4 = 4 * q + k by omega] at this
    exact this
theorem tw_q4 (f : Nat → Nat) (c : Nat) (h : c % 4 = 0) (k : Nat) (hk : k < 4) : q4 (sub (ks f (4 * c + 12 + 1)) ^^^ pw ((c + 3) / 4)) (sub (ks f (4 * c + 12 + 2))) (sub (ks f (4 * c + 12 + 3))) (sub (ks f (4 * c + 12 + 0))) k = tw f c k := by
  unfold tw q4
  rw [if_pos h, show (c + 3) / 4 = c / 4 by omega]
  have e : k = 0 ∨ k = 1 ∨ k = 2 ∨ k = 3 := by omega
  rcases e with rfl | rfl | rfl | rfl <;> rfl
theorem pw_next (c : Nat) (h : c % 4 = 0) : pw ((c + 1 + 3) / 4) = dbl (pw ((c + 3) / 4)) := by
  rw [show (c + 1 + 3) / 4 = (c + 3) / 4 + 1 by omega]
  rfl
theorem q4_row (w : World) (a b c d : Nat) (t : TypeId) : Ar (w.alloc (.cells #[.int .u8 a, .int .u8 b, .int .u8 c, .int .u8 d] t)) w.heap.size 0 4 (q4 a b c d) := by
  have h := Ar.new w 4 (q4 a b c d) t
  rw [us_def] at h
  exact h
theorem tw_lt (f : Nat → Nat) (hf : ∀ i, f i < 256) (c k : Nat) : tw f c k < 256 := by
  unfold tw
  split
  · split
    · exact xor_lt _ _ (sub_lt _ (ks_lt f hf _)) (pw_lt _)
    · exact sub_lt _ (ks_lt f hf _)
  · exact ks_lt f hf _


set_option maxRecDepth 100000 in
set_option maxHeartbeats 400000 in
theorem specKeys (s : ByteArray) (hs : s.size = 16) (w : World) :
    Calls Try.prog 56 #[.string s] w fun e w' => ∃ v, e = .returned v ∧ Sp w.heap.size w' v 176 (ks (at8 s)) ∧ Below w.heap.size w w' := by
  obtain ⟨i0, hi, hz0, hz1, hz2⟩ := info_u8i
  go_enter Try.func56, Try.ntmps56
  go_wp2_with fail
  obtain ⟨cap, W, hcv, hbW, hsW, hsz⟩ := conv_sp w s
  rw [hcv, hs]
  rw [hs] at hsW
  have P0 : Hid (Sp w.heap.size W (.slice (some ⟨w.heap.size, 0, none⟩) 16 cap) (4 * 0 + 16) (ks (at8 s))) := ⟨_, _, _, rfl, Nat.le_refl _, ⟨hsW.ar.congr (fun i hi => (ks_first (at8 s) i hi).symm), hsW.le, hsW.sp⟩⟩
  have HBW := hide hbW
  have hF := hide (ks_lt (at8 s) (at8_lt s))
  have hFT := hide (tw_lt (at8 s) (at8_lt s))
  have hKW := hide (fun c k hk => ks_word (at8 s) c k hk)
  clear hcv hbW hsW
  go_wp2_with fail
  go_loopw [3, 4, 5] (fun v rv iv wr => ∃ c : Nat, c ≤ 40 ∧ iv = .int .i64 ((c : Int) + 4) ∧ rv = .int .u8 (pw ((c + 3) / 4) : Nat) ∧ Sp w.heap.size wr v (4 * c + 16) (ks (at8 s)) ∧ w.heap.size ≤ wr.heap.size ∧ Below w.heap.size w wr) (fun _ _ iv _ => 44 - (intOf iv).toNat)
  case atStart => exact ⟨0, by omega, rfl, by rw [show (0 + 3) / 4 = 0 by omega, show pw 0 = 1 by unfold pw; rfl]; rfl, unhide P0, by omega, unhide HBW⟩
  case round =>
    obtain ⟨c, hc, rfl, rfl, hsp, hwz, hbw⟩ := hrel
    obtain ⟨g, o, cap1, rfl, hg, hsg⟩ := hsp
    by_cases hlt : c < 40
    · have hle := hsg.le
      have HSG := hide hsg
      have HW := hide hbw
      clear hsg hbw
      have m1 : (0 : Int) ≤ 4 * ((c : Int) + 4) - 4 := by omega
      have em : 4 * (c + 4) - (4 * c + 12) = 4 := by omega
      have eo : 4 * (c + 4) - 4 = 4 * c + 12 := by omega
      have hnew : Hid (∀ j u, (us 4 (fun j => ks (at8 s) (4 * c + 12 + j)))[j]? = some u → (wr.alloc (.cells #[] 5)).cell? ((⟨g, o + (4 * c + 12), none⟩ : Addr).add j) = some u) := fun j u hu => by
        rw [Addr.add_mid]
        exact (((unhide HSG).ar.part (4 * c + 12) 4 (by omega)).alloc _).range j u hu
      have hone := hide (us_oneL 4 (fun j => ks (at8 s) (4 * c + 12 + j)))
      go_wp2_with (at_builtin; simp only [eo, em]; refine wpList_append_grows _ rfl (.tmp 14) (.tmp 21) 32 rfl 5 i0 (.int .u8 0) 1 1 Try.underlying32 hi hz0 hz1 hz2 rfl (by decide) (some ⟨wr.heap.size, 0, none⟩) 0 0 [] rfl (by simp) rfl ?c9 ⟨g, o + (4 * c + 12), none⟩ 4 (cap1 - (4 * c + 12)) (us 4 (fun j => ks (at8 s) (4 * c + 12 + j))) rfl ?c0 (unhide hnew) (unhide hone) (by omega) ?c3 (by omega) ?_)
      case c9 => intro b _ j u hu; simp at hu
      case c0 => rw [us_length]
      case c3 => unfold maxLen; omega
      intro v2 w2 hown hgr
      obtain ⟨tb, tcap, rfl, htb, hT0⟩ := own_ar hown (by omega)
      have B2 : Below wr.heap.size wr w2 := ((Below.refl wr.heap.size wr).alloc (Nat.le_refl _) (.cells #[] 5)).trans ⟨hgr.os, hgr.tape, hgr.output, hgr.size, fun k hk => hgr.block k (by simp; omega) (by simp)⟩
      have HSG2 := hide ((unhide HSG).below B2 (unhide HSG).ar.lt)
      have HW2 := hide ((unhide HW).trans (B2.mono hwz))
      have hwz2 : w.heap.size ≤ w2.heap.size := Nat.le_trans hwz B2.size
      have hglt := (unhide HSG).ar.lt
      have hne : g ≠ tb := by omega
      have HT0 := hide hT0
      clear hown hgr hnew hone HSG HW B2 hT0
      by_cases h0 : c % 4 = 0
      · have x0 := (unhide HT0).c0 0 (by omega)
        have x1 := (unhide HT0).c0 1 (by omega)
        have x2 := (unhide HT0).c0 2 (by omega)
        have x3 := (unhide HT0).c0 3 (by omega)
        have q0 := unhide hF (4 * c + 12 + 0)
        have q1 := unhide hF (4 * c + 12 + 1)
        have q2 := unhide hF (4 * c + 12 + 2)
        have q3 := unhide hF (4 * c + 12 + 3)
        have hA0 := hide (fun W => specSub _ q0 W)
        have hA1 := hide (fun W => specSub _ q1 W)
        have hA2 := hide (fun W => specSub _ q2 W)
        have hA3 := hide (fun W => specSub _ q3 W)
        have hp := pw_lt ((c + 3) / 4)
        have hM : Hid (∀ W, Calls Try.prog 73 #[.int .u8 (pw ((c + 3) / 4) : Nat), .int .u8 2] W fun e w' => e = .returned (.int .u8 (mul (pw ((c + 3) / 4)) 2 : Nat)) ∧ w' = W) := fun W => specMul (pw ((c + 3) / 4)) 2 hp (by omega) W
        have eM := hide (mulx2 (pw ((c + 3) / 4)) hp)
        have eP := hide (pw_next c h0)
        have eX := hide (xorI (sub (ks (at8 s) (4 * c + 12 + 1))) (pw ((c + 3) / 4)) (sub_lt _ q1) hp)
        have hT3 := q4_row w2.drew (sub (ks (at8 s) (4 * c + 12 + 1)) ^^^ pw ((c + 3) / 4)) (sub (ks (at8 s) (4 * c + 12 + 2))) (sub (ks (at8 s) (4 * c + 12 + 3))) (sub (ks (at8 s) (4 * c + 12 + 0))) 5
        have HT3 := hide (hT3.congr (fun i hi => tw_q4 (at8 s) c h0 i hi))
        clear hT3
        have hXo := (unhide eX).symm
        rw [hXo] at HT3
        have HSG3 := hide ((unhide HSG2).drew.alloc (.cells #[.int .u8 (bits .xor .u8 (sub (ks (at8 s) (4 * c + 12 + 1)) : Nat) (pw ((c + 3) / 4) : Nat)), .int .u8 (sub (ks (at8 s) (4 * c + 12 + 2)) : Nat), .int .u8 (sub (ks (at8 s) (4 * c + 12 + 3)) : Nat), .int .u8 (sub (ks (at8 s) (4 * c + 12 + 0)) : Nat)] 5))
        have HW3 := hide ((unhide HW2).drew.alloc (by rw [World.size_drew]; exact hwz2) (.cells #[.int .u8 (bits .xor .u8 (sub (ks (at8 s) (4 * c + 12 + 1)) : Nat) (pw ((c + 3) / 4) : Nat)), .int .u8 (sub (ks (at8 s) (4 * c + 12 + 2)) : Nat), .int .u8 (sub (ks (at8 s) (4 * c + 12 + 3)) : Nat), .int .u8 (sub (ks (at8 s) (4 * c + 12 + 0)) : Nat)] 5))
        have S0 : Hid (S4 tb 0 1 2 3 (ks (at8 s) (4 * c + 12 + 0)) (ks (at8 s) (4 * c + 12 + 1)) (ks (at8 s) (4 * c + 12 + 2)) (ks (at8 s) (4 * c + 12 + 3)) w2.drew) := ⟨x0, x1, x2, x3⟩
        have hTa := (unhide HT0).drew.alloc (.cells #[.int .u8 (bits .xor .u8 (sub (ks (at8 s) (4 * c + 12 + 1)) : Nat) (pw ((c + 3) / 4) : Nat)), .int .u8 (sub (ks (at8 s) (4 * c + 12 + 2)) : Nat), .int .u8 (sub (ks (at8 s) (4 * c + 12 + 3)) : Nat), .int .u8 (sub (ks (at8 s) (4 * c + 12 + 0)) : Nat)] 5)
        have S1 : Hid (S4 tb 0 1 2 3 (ks (at8 s) (4 * c + 12 + 0)) (ks (at8 s) (4 * c + 12 + 1)) (ks (at8 s) (4 * c + 12 + 2)) (ks (at8 s) (4 * c + 12 + 3)) (w2.drew.alloc (.cells #[.int .u8 (bits .xor .u8 (sub (ks (at8 s) (4 * c + 12 + 1)) : Nat) (pw ((c + 3) / 4) : Nat)), .int .u8 (sub (ks (at8 s) (4 * c + 12 + 2)) : Nat), .int .u8 (sub (ks (at8 s) (4 * c + 12 + 3)) : Nat), .int .u8 (sub (ks (at8 s) (4 * c + 12 + 0)) : Nat)] 5))) := ⟨hTa.c0 0 (by omega), hTa.c0 1 (by omega), hTa.c0 2 (by omega), hTa.c0 3 (by omega)⟩
        have hne3 : g ≠ w2.heap.size := by have := (unhide HSG2).ar.lt; omega
        have hwz3 : w.heap.size ≤ (w2.drew.alloc (.cells #[.int .u8 (bits .xor .u8 (sub (ks (at8 s) (4 * c + 12 + 1)) : Nat) (pw ((c + 3) / 4) : Nat)), .int .u8 (sub (ks (at8 s) (4 * c + 12 + 2)) : Nat), .int .u8 (sub (ks (at8 s) (4 * c + 12 + 3)) : Nat), .int .u8 (sub (ks (at8 s) (4 * c + 12 + 0)) : Nat)] 5)).heap.size := by rw [World.size_alloc, World.size_drew]; omega
        clear hTa x0 x1 x2 x3 HT0 hXo HSG2 HW2 q0 q1 q2 q3 eX
        generalize sub (ks (at8 s) (4 * c + 12 + 0)) = y0 at *
        generalize sub (ks (at8 s) (4 * c + 12 + 1)) = y1 at *
        generalize sub (ks (at8 s) (4 * c + 12 + 2)) = y2 at *
        generalize sub (ks (at8 s) (4 * c + 12 + 3)) = y3 at *
        generalize ks (at8 s) (4 * c + 12 + 0) = x0 at *
        generalize ks (at8 s) (4 * c + 12 + 1) = x1 at *
        generalize ks (at8 s) (4 * c + 12 + 2) = x2 at *
        generalize ks (at8 s) (4 * c + 12 + 3) = x3 at *
        go_wp2_with fail
        go_region_held3 (fun W => S4 tb 0 1 2 3 x0 x1 x2 x3 W) (first | assumption | exact unhide S0 | exact unhide S1) (first
          | (go_at_call 72; with_reducible refine (unhide hA1 _).mono ?_; rintro e w9 ⟨rfl, rfl⟩)
          | (go_at_call 72; with_reducible refine (unhide hA2 _).mono ?_; rintro e w9 ⟨rfl, rfl⟩)
          | (go_at_call 72; with_reducible refine (unhide hA3 _).mono ?_; rintro e w9 ⟨rfl, rfl⟩)
          | (go_at_call 72; with_reducible refine (unhide hA0 _).mono ?_; rintro e w9 ⟨rfl, rfl⟩))
        rw [World.size_drew] at HT3
        rw [show (w2.alloc (.cells #[.int .u8 (bits .xor .u8 (y1 : Nat) (pw ((c + 3) / 4) : Nat)), .int .u8 (y2 : Nat), .int .u8 (y3 : Nat), .int .u8 (y0 : Nat)] 5)).drew = w2.drew.alloc (.cells #[.int .u8 (bits .xor .u8 (y1 : Nat) (pw ((c + 3) / 4) : Nat)), .int .u8 (y2 : Nat), .int .u8 (y3 : Nat), .int .u8 (y0 : Nat)] 5) from rfl]
        generalize w2.drew.alloc (.cells #[.int .u8 (bits .xor .u8 (y1 : Nat) (pw ((c + 3) / 4) : Nat)), .int .u8 (y2 : Nat), .int .u8 (y3 : Nat), .int .u8 (y0 : Nat)] 5) = W3 at HSG3 HW3 HT3 hwz3 ⊢
        generalize w2.heap.size = tb2 at HT3 hne3 ⊢
        clear S0 S1 hA0 hA1 hA2 hA3
        go_wp2_with (go_at_call 73; with_reducible refine (unhide hM _).mono ?_; rintro e w9 ⟨rfl, rfl⟩)
        generalize ((c : Int) + 4) % 4 = z24
        generalize ((c : Int) % 4 == 0) = z25
        go_loopw [3, 49] (fun v kv wx => ∃ k : Nat, k ≤ 4 ∧ kv = .int .i64 k ∧ (∃ g' o' cap', v = .slice (some ⟨g', o', none⟩) (4 * c + 16 + k) cap' ∧ w.heap.size ≤ g' ∧ g' ≠ tb2 ∧ Sg wx g' o' (4 * c + 16 + k) cap' (ks (at8 s))) ∧ Ar wx tb2 0 4 (tw (at8 s) c) ∧ w.heap.size ≤ wx.heap.size ∧ Below w.heap.size w wx) (fun _ kv _ => 4 - (intOf kv).toNat)
        case atStart => exact ⟨0, by omega, rfl, ⟨g, o, cap1, rfl, hg, hne3, unhide HSG3⟩, unhide HT3, hwz3, unhide HW3⟩
        case round =>
          obtain ⟨k, hk, rfl, ⟨g', o', cap', rfl, hg', hne', hsg'⟩, hT, hwx, hbx⟩ := hrel
          by_cases hl2 : k < 4
          · have s1 := hsg'.ar.c (4 * c + k) (by omega)
            have s2 := hT.c0 k hl2
            have hkw := unhide hKW c k hl2
            have e1 := xorI (ks (at8 s) (4 * c + k)) (tw (at8 s) c k) (unhide hF _) (unhide hFT c k)
            rw [← hkw] at e1
            have E1 := hide e1
            have hsgW := hsg'.drew.alloc (.cells #[.int .u8 (bits .xor .u8 (ks (at8 s) (4 * c + k) : Nat) (tw (at8 s) c k : Nat))] 5)
            have hbase : w.heap.size ≤ (wr.drew.alloc (.cells #[.int .u8 (bits .xor .u8 (ks (at8 s) (4 * c + k) : Nat) (tw (at8 s) c k : Nat))] 5)).heap.size := by rw [World.size_alloc, World.size_drew]; omega
            have hx5 : (wr.drew.alloc (.cells #[.int .u8 (bits .xor .u8 (ks (at8 s) (4 * c + k) : Nat) (tw (at8 s) c k : Nat))] 5)).cell? ⟨wr.heap.size, 0, none⟩ = some (.int .u8 (bits .xor .u8 (ks (at8 s) (4 * c + k) : Nat) (tw (at8 s) c k : Nat))) := new_cell wr.drew _ _
            obtain ⟨g2, o2, cap2, w5, hrun, hor, hs5, hb5, ha5, hot5⟩ := hsgW.push hg' hbase ⟨wr.heap.size, 0, none⟩ 1 _ hx5 (by rw [e1]) rfl (by omega) 32
            rw [World.size_alloc, World.size_drew] at hor
            clear hsgW hbase hx5
            have hlt5 : g' < wr.heap.size := hsg'.ar.lt
            have hltT : tb2 < wr.heap.size := hT.lt
            have S0 : Hid (wr.drew.cell? ⟨g', o' + (4 * c + k), none⟩ = some (.int .u8 (ks (at8 s) (4 * c + k) : Nat)) ∧ wr.drew.cell? ⟨tb2, k, none⟩ = some (.int .u8 (tw (at8 s) c k : Nat))) := ⟨s1, s2⟩
            have S1 : Hid ((wr.drew.alloc (.cells #[.int .u8 (bits .xor .u8 (ks (at8 s) (4 * c + k) : Nat) (tw (at8 s) c k : Nat))] 5)).cell? ⟨g', o' + (4 * c + k), none⟩ = some (.int .u8 (ks (at8 s) (4 * c + k) : Nat)) ∧ (wr.drew.alloc (.cells #[.int .u8 (bits .xor .u8 (ks (at8 s) (4 * c + k) : Nat) (tw (at8 s) c k : Nat))] 5)).cell? ⟨tb2, k, none⟩ = some (.int .u8 (tw (at8 s) c k : Nat))) := ⟨(hsg'.ar.drew.alloc _).c (4 * c + k) (by omega), (hT.drew.alloc _).c0 k hl2⟩
            have T5 := hot5.ar (hT.drew.alloc _) (Ne.symm hne')
            have S2 : Hid (w5.cell? ⟨g', o' + (4 * c + k), none⟩ = some (.int .u8 (ks (at8 s) (4 * c + k) : Nat)) ∧ w5.cell? ⟨tb2, k, none⟩ = some (.int .u8 (tw (at8 s) c k : Nat))) := ⟨ha5.c (4 * c + k) (by omega), T5.c0 k hl2⟩
            have F1 : Hid (g2 ≠ tb2) := by
              rcases hor with e | e
              · rw [e]; exact hne'
              · exact (show g2 ≠ tb2 by omega)
            have F2 : Hid (w.heap.size ≤ g2) := by
              rcases hor with e | e
              · rw [e]; exact hg'
              · exact (show w.heap.size ≤ g2 by omega)
            have F3 := hide hs5
            have F4 := hide T5
            have F5 := hide ((hbx.drew.alloc (by rw [World.size_drew]; omega) (.cells #[.int .u8 (bits .xor .u8 (ks (at8 s) (4 * c + k) : Nat) (tw (at8 s) c k : Nat))] 5)).trans hb5)
            have F6 : w.heap.size ≤ w5.heap.size := by have := hot5.1; rw [World.size_alloc, World.size_drew] at this; omega
            have RUN := hide hrun
            clear hsg' hT hbx hs5 hb5 ha5 hot5 T5 hrun s1 s2 hor hkw e1 E1
            generalize hq : ks (at8 s) (4 * c + k) = x at *
            generalize hy : tw (at8 s) c k = y at *
            clear hq hy
            generalize hp : 4 * c + k = p at *
            have w1 : IntKind.i64.wrap (4 * ((c : Int) + 4)) = 4 * ((c : Int) + 4) := wraps_i64 _ (by omega) (by omega)
            have w2 : IntKind.i64.wrap (4 * ((c : Int) + 4) - 16) = 4 * ((c : Int) + 4) - 16 := wraps_i64 _ (by omega) (by omega)
            have w3 : IntKind.i64.wrap (4 * ((c : Int) + 4) - 16 + (k : Int)) = (p : Int) := by rw [show 4 * ((c : Int) + 4) - 16 + (k : Int) = (p : Int) by omega]; exact wraps_i64 _ (by omega) (by omega)
            have n1 : (0 : Int) ≤ (p : Int) ∧ (p : Int) < ((4 * c + 16 + k : Nat) : Int) := by omega
            have n2 : (0 : Int) ≤ (k : Int) ∧ (k : Int) < 4 := by omega
            have n3 : (0 : Int) ≤ (p : Int) ∧ (p : Int) < 4 * (c : Int) + 16 + (k : Int) := by omega
            go_wp2_with fail
            go_region_held3 (fun W => W.cell? ⟨g', o' + p, none⟩ = some (.int .u8 (x : Nat)) ∧ W.cell? ⟨tb2, k, none⟩ = some (.int .u8 (y : Nat))) (first | assumption | exact unhide S0 | exact unhide S1 | exact unhide S2) (first | (refine step_append_run rfl (.tmp 52) (.tmp 66) 32 rfl _ _ _ w5 rfl rfl (unhide RUN) ?_))
            clear S0 S1 S2 RUN
            go_wp2
            exact ⟨⟨k + 1, by omega, by go_num, ⟨g2, o2, cap2, rfl, unhide F2, unhide F1, unhide F3⟩, unhide F4, F6, unhide F5⟩, by simp [intOf]; omega⟩
          · have e : k = 4 := by omega
            subst e
            have F3 := hide hsg'
            have F5 := hide hbx
            clear hsg' hT hbx
            go_wp2
            exact ⟨⟨c + 1, by omega, by go_num, by rw [unhide eP, ← unhide eM], ⟨g', o', cap', rfl, hg', unhide F3⟩, hwx, unhide F5⟩, by simp [intOf]; omega⟩
      · have hT : Ar w2 tb 0 4 (tw (at8 s) c) := (unhide HT0).congr (fun i hi => by unfold tw; rw [if_neg h0])
        have HT := hide hT
        clear hT HT0
        go_wp2_with fail
        generalize ((c : Int) + 4) % 4 = z24
        generalize ((c : Int) % 4 == 0) = z25
        go_loopw [3, 49] (fun v kv wx => ∃ k : Nat, k ≤ 4 ∧ kv = .int .i64 k ∧ (∃ g' o' cap', v = .slice (some ⟨g', o', none⟩) (4 * c + 16 + k) cap' ∧ w.heap.size ≤ g' ∧ g' ≠ tb ∧ Sg wx g' o' (4 * c + 16 + k) cap' (ks (at8 s))) ∧ Ar wx tb 0 4 (tw (at8 s) c) ∧ w.heap.size ≤ wx.heap.size ∧ Below w.heap.size w wx) (fun _ kv _ => 4 - (intOf kv).toNat)
        case atStart => exact ⟨0, by omega, rfl, ⟨g, o, cap1, rfl, hg, hne, unhide HSG2⟩, unhide HT, hwz2, unhide HW2⟩
        case round =>
          obtain ⟨k, hk, rfl, ⟨g', o', cap', rfl, hg', hne', hsg'⟩, hT, hwx, hbx⟩ := hrel
          by_cases hl2 : k < 4
          · have s1 := hsg'.ar.c (4 * c + k) (by omega)
            have s2 := hT.c0 k hl2
            have hkw := unhide hKW c k hl2
            have e1 := xorI (ks (at8 s) (4 * c + k)) (tw (at8 s) c k) (unhide hF _) (unhide hFT c k)
            rw [← hkw] at e1
            have E1 := hide e1
            have hsgW := hsg'.drew.alloc (.cells #[.int .u8 (bits .xor .u8 (ks (at8 s) (4 * c + k) : Nat) (tw (at8 s) c k : Nat))] 5)
            have hbase : w.heap.size ≤ (wr.drew.alloc (.cells #[.int .u8 (bits .xor .u8 (ks (at8 s) (4 * c + k) : Nat) (tw (at8 s) c k : Nat))] 5)).heap.size := by rw [World.size_alloc, World.size_drew]; omega
            have hx5 : (wr.drew.alloc (.cells #[.int .u8 (bits .xor .u8 (ks (at8 s) (4 * c + k) : Nat) (tw (at8 s) c k : Nat))] 5)).cell? ⟨wr.heap.size, 0, none⟩ = some (.int .u8 (bits .xor .u8 (ks (at8 s) (4 * c + k) : Nat) (tw (at8 s) c k : Nat))) := new_cell wr.drew _ _
            obtain ⟨g2, o2, cap2, w5, hrun, hor, hs5, hb5, ha5, hot5⟩ := hsgW.push hg' hbase ⟨wr.heap.size, 0, none⟩ 1 _ hx5 (by rw [e1]) rfl (by omega) 32
            rw [World.size_alloc, World.size_drew] at hor
            clear hsgW hbase hx5
            have hlt5 : g' < wr.heap.size := hsg'.ar.lt
            have hltT : tb < wr.heap.size := hT.lt
            have S0 : Hid (wr.drew.cell? ⟨g', o' + (4 * c + k), none⟩ = some (.int .u8 (ks (at8 s) (4 * c + k) : Nat)) ∧ wr.drew.cell? ⟨tb, k, none⟩ = some (.int .u8 (tw (at8 s) c k : Nat))) := ⟨s1, s2⟩
            have S1 : Hid ((wr.drew.alloc (.cells #[.int .u8 (bits .xor .u8 (ks (at8 s) (4 * c + k) : Nat) (tw (at8 s) c k : Nat))] 5)).cell? ⟨g', o' + (4 * c + k), none⟩ = some (.int .u8 (ks (at8 s) (4 * c + k) : Nat)) ∧ (wr.drew.alloc (.cells #[.int .u8 (bits .xor .u8 (ks (at8 s) (4 * c + k) : Nat) (tw (at8 s) c k : Nat))] 5)).cell? ⟨tb, k, none⟩ = some (.int .u8 (tw (at8 s) c k : Nat))) := ⟨(hsg'.ar.drew.alloc _).c (4 * c + k) (by omega), (hT.drew.alloc _).c0 k hl2⟩
            have T5 := hot5.ar (hT.drew.alloc _) (Ne.symm hne')
            have S2 : Hid (w5.cell? ⟨g', o' + (4 * c + k), none⟩ = some (.int .u8 (ks (at8 s) (4 * c + k) : Nat)) ∧ w5.cell? ⟨tb, k, none⟩ = some (.int .u8 (tw (at8 s) c k : Nat))) := ⟨ha5.c (4 * c + k) (by omega), T5.c0 k hl2⟩
            have F1 : Hid (g2 ≠ tb) := by
              rcases hor with e | e
              · rw [e]; exact hne'
              · exact (show g2 ≠ tb by omega)
            have F2 : Hid (w.heap.size ≤ g2) := by
              rcases hor with e | e
              · rw [e]; exact hg'
              · exact (show w.heap.size ≤ g2 by omega)
            have F3 := hide hs5
            have F4 := hide T5
            have F5 := hide ((hbx.drew.alloc (by rw [World.size_drew]; omega) (.cells #[.int .u8 (bits .xor .u8 (ks (at8 s) (4 * c + k) : Nat) (tw (at8 s) c k : Nat))] 5)).trans hb5)
            have F6 : w.heap.size ≤ w5.heap.size := by have := hot5.1; rw [World.size_alloc, World.size_drew] at this; omega
            have RUN := hide hrun
            clear hsg' hT hbx hs5 hb5 ha5 hot5 T5 hrun s1 s2 hor hkw e1 E1
            generalize hq : ks (at8 s) (4 * c + k) = x at *
            generalize hy : tw (at8 s) c k = y at *
            clear hq hy
            generalize hp : 4 * c + k = p at *
            have w1 : IntKind.i64.wrap (4 * ((c : Int) + 4)) = 4 * ((c : Int) + 4) := wraps_i64 _ (by omega) (by omega)
            have w2 : IntKind.i64.wrap (4 * ((c : Int) + 4) - 16) = 4 * ((c : Int) + 4) - 16 := wraps_i64 _ (by omega) (by omega)
            have w3 : IntKind.i64.wrap (4 * ((c : Int) + 4) - 16 + (k : Int)) = (p : Int) := by rw [show 4 * ((c : Int) + 4) - 16 + (k : Int) = (p : Int) by omega]; exact wraps_i64 _ (by omega) (by omega)
            have n1 : (0 : Int) ≤ (p : Int) ∧ (p : Int) < ((4 * c + 16 + k : Nat) : Int) := by omega
            have n2 : (0 : Int) ≤ (k : Int) ∧ (k : Int) < 4 := by omega
            have n3 : (0 : Int) ≤ (p : Int) ∧ (p : Int) < 4 * (c : Int) + 16 + (k : Int) := by omega
            go_wp2_with fail
            go_region_held3 (fun W => W.cell? ⟨g', o' + p, none⟩ = some (.int .u8 (x : Nat)) ∧ W.cell? ⟨tb, k, none⟩ = some (.int .u8 (y : Nat))) (first | assumption | exact unhide S0 | exact unhide S1 | exact unhide S2) (first | (refine step_append_run rfl (.tmp 52) (.tmp 66) 32 rfl _ _ _ w5 rfl rfl (unhide RUN) ?_))
            clear S0 S1 S2 RUN
            go_wp2
            exact ⟨⟨k + 1, by omega, by go_num, ⟨g2, o2, cap2, rfl, unhide F2, unhide F1, unhide F3⟩, unhide F4, F6, unhide F5⟩, by simp [intOf]; omega⟩
          · have e : k = 4 := by omega
            subst e
            have F3 := hide hsg'
            have F5 := hide hbx
            clear hsg' hT hbx
            go_wp2
            exact ⟨⟨c + 1, by omega, by go_num, by rw [show (c + 1 + 3) / 4 = (c + 3) / 4 by omega], ⟨g', o', cap', rfl, hg', unhide F3⟩, hwx, unhide F5⟩, by simp [intOf]; omega⟩
    · have e : c = 40 := by omega
      subst e
      have HSG := hide hsg
      have HW := hide hbw
      clear hsg hbw
      go_wp2
      go_ret
      exact ⟨_, rfl, ⟨g, o, cap1, rfl, hg, unhide HSG⟩, unhide HW⟩
end Go.Proofs.Ytkpodgeinanceaa
