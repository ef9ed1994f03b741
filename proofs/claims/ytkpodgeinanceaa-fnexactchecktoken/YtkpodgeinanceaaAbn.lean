/-
  Contracts: newCipher.
-/
import Derived.Test.YtkpodgeinanceaaAbk
namespace Go.Proofs.Ytkpodgeinanceaa
open Go.ChangeShapes Go.WideShapes Go.ChangeAt Go.RowKit
set_option linter.unusedVariables false

set_option maxRecDepth 100000 in
theorem zero_cip (w : World) : (zeroValue 128).run Try.prog w = .ok (.agg (us 432 fun _ => 0).toArray) w := by rw [us_def]; kernel_rfl
theorem zc_cip : Try.zeroCells128 = (us 432 fun _ => 0).toArray := by rw [us_def]; kernel_rfl
/-- the powers of 2 -/
def pw : Nat → Nat
  | 0 => 1
  | j + 1 => dbl (pw j)
/-- the round keys -/
def rk (f : Nat → Nat) : Nat → Nat → Nat
  | 0 => f
  | j + 1 => nk (rk f j) (pw j)
theorem pw_lt : ∀ j, pw j < 256
  | 0 => by decide
  | j + 1 => dbl_lt _ (pw_lt j)
theorem rk_lt (f : Nat → Nat) (hf : ∀ i, f i < 256) : ∀ j i, rk f j i < 256
  | 0, i => hf i
  | j + 1, i => nk_lt _ _ (rk_lt f hf j) (pw_lt j) i
/-- what the cipher's block holds behind k rounds -/
def ck (f : Nat → Nat) (k i : Nat) : Nat := if i < 16 * (k + 1) then rk f (i / 16) (i % 16) else if i < 176 then 0 else sub (i - 176)

theorem ck_first (f : Nat → Nat) (i : Nat) (h : i < 16) : ck f 0 (0 + i) = f i := by
  unfold ck
  rw [Nat.zero_add, if_pos (by omega), Nat.div_eq_of_lt h, Nat.mod_eq_of_lt h]
  rfl
theorem ck_rest (f : Nat → Nat) (i : Nat) (h : i < 432) (h2 : i < 0 ∨ 0 + 16 ≤ i) : ck f 0 i = if 176 ≤ i ∧ i < 432 then sub (i - 176) else 0 := by
  unfold ck
  rw [if_neg (by omega)]
  by_cases e : i < 176
  · rw [if_pos e, if_neg (by omega)]
  · rw [if_neg e, if_pos (by omega)]
theorem ck_key (f : Nat → Nat) (k i : Nat) (h : i < 16) : ck f k (16 * k + i) = rk f k i := by
  unfold ck
  rw [if_pos (by omega), show (16 * k + i) / 16 = k by omega, show (16 * k + i) % 16 = i by omega]
theorem ck_box (f : Nat → Nat) (k : Nat) (hk : k ≤ 10) (i : Nat) (h : i < 256) : ck f k (176 + i) = sub i := by
  unfold ck
  rw [if_neg (by omega), if_neg (by omega), Nat.add_sub_cancel_left]
theorem ck_next (f : Nat → Nat) (k i : Nat) (h : i < 16) : ck f (k + 1) (16 * (k + 1) + i) = nk (rk f k) (pw k) i := ck_key f (k + 1) i h
theorem ck_other (f : Nat → Nat) (k i : Nat) (h : i < 16 * (k + 1) ∨ 16 * (k + 1) + 16 ≤ i) : ck f (k + 1) i = ck f k i := by
  unfold ck
  rcases h with h | h
  · rw [if_pos (by omega), if_pos h]
  · rw [if_neg (show ¬ i < 16 * (k + 1 + 1) by omega), if_neg (show ¬ i < 16 * (k + 1) by omega)]


set_option maxRecDepth 100000 in
set_option maxHeartbeats 400000 in
theorem newCipher_ok (s : ByteArray) (hs : s.size = 16) (w : World) :
    Calls Try.prog 65 #[.string s] w fun e w' => ∃ cb, w.heap.size ≤ cb ∧ e = .returned (.tuple #[.pointer (some ⟨cb, 0, none⟩), .bool true]) ∧ Ar w' cb 0 432 (ck (at8 s) 10) ∧ Below w.heap.size w w' := by
  have HB := hide (fun W => blockOf_ok s hs W)
  have HX := hide (fun W => boxOf_any W)
  have hl : (us 16 (at8 s)).length = 16 := us_length _ _
  go_enter Try.func65, Try.ntmps65
  go_wp2_with (first | (go_at_call 85; with_reducible refine (unhide HB _).mono ?_; rintro e w1 ⟨rfl, b1⟩))
  have b2 := z16_new w1 84
  have b3 := b1.alloc b1.size (.cells #[.int .u8 0, .int .u8 0, .int .u8 0, .int .u8 0, .int .u8 0, .int .u8 0, .int .u8 0, .int .u8 0, .int .u8 0, .int .u8 0, .int .u8 0, .int .u8 0, .int .u8 0, .int .u8 0, .int .u8 0, .int .u8 0] 84)
  have b4 : (w1.alloc (.cells #[.int .u8 0, .int .u8 0, .int .u8 0, .int .u8 0, .int .u8 0, .int .u8 0, .int .u8 0, .int .u8 0, .int .u8 0, .int .u8 0, .int .u8 0, .int .u8 0, .int .u8 0, .int .u8 0, .int .u8 0, .int .u8 0] 84)).heap.size = w1.heap.size + 1 := by simp
  generalize w1.alloc (.cells #[.int .u8 0, .int .u8 0, .int .u8 0, .int .u8 0, .int .u8 0, .int .u8 0, .int .u8 0, .int .u8 0, .int .u8 0, .int .u8 0, .int .u8 0, .int .u8 0, .int .u8 0, .int .u8 0, .int .u8 0, .int .u8 0] 84) = W2 at b2 b3 b4 ⊢
  rw [b2.cellsPut]
  have c2 := b2.puts (g := at8 s)
  have c3 := Go.Proofs.Ytkpodgeinanceaa.below_setCells (b := w1.heap.size) b1.size (us 16 (at8 s)) 0 _ b3
  have c4 := size_setCells w1.heap.size (us 16 (at8 s)) 0 W2
  rw [b4] at c4
  generalize W2.setCells w1.heap.size 0 (us 16 (at8 s)) = W3 at c2 c3 c4 ⊢
  have HC2 := hide c2
  have HC3 := hide c3
  have hb1 := b1.size
  clear b1 b2 b3 b4 c2 c3 hl
  have hl : (us 256 sub).length = 256 := us_length _ _
  have hzs : Try.zeroCells128.size = 432 := by rw [zc_cip]; exact us_size _ _
  go_wp2_with (first | (go_at_call 86; with_reducible refine (unhide HX _).mono ?_; rintro e w4 ⟨rfl, b4⟩))
  have hl2 : (us 432 fun _ => 0).length = 432 := us_length _ _
  have hfo := fold_us 432 176 sub (fun _ => 0) 256 (by omega)
  have B4 := hide b4
  clear b4
  go_wp2_with fail
  rw [zc_cip, hfo, show (176 : Nat) + 256 = 432 from rfl]
  have A0 := Ar.new w4 432 (fun i => if 176 ≤ i ∧ i < 432 then sub (i - 176) else 0) 128
  have L0 := (((unhide HC2).below (unhide B4) (by rw [c4]; omega))).alloc (.cells (us 432 fun i => if 176 ≤ i ∧ i < 432 then sub (i - 176) else 0).toArray 128)
  have hsz4 := (unhide B4).size
  rw [c4] at hsz4
  have D0 := ((unhide HC3).trans ((unhide B4).mono (by rw [c4]; omega))).alloc (by omega) (.cells (us 432 fun i => if 176 ≤ i ∧ i < 432 then sub (i - 176) else 0).toArray 128)
  generalize w4.alloc (.cells (us 432 fun i => if 176 ≤ i ∧ i < 432 then sub (i - 176) else 0).toArray 128) = W5 at A0 L0 D0 ⊢
  have hne : w1.heap.size ≠ w4.heap.size := by omega
  have hcb : w.heap.size ≤ w4.heap.size := by omega
  generalize w4.heap.size = cb at *
  generalize w1.heap.size = lb at *
  have hu := Try.underlying84
  have hi : (Try.prog.info? 84).map (·.size) = some (us 16 (at8 s)).length := by rw [us_length]; exact info_bl
  have h1 := us_oneL 16 (at8 s)
  have R0 := (World.rangeAt_drew W5 lb 0 (us 16 (at8 s))).2 L0.range
  have T0 : W5.drew.there cb 0 (us 16 (at8 s)).length := by rw [us_length]; exact (World.there_drew W5 cb 0 16).2 (A0.part 0 16 (by omega)).there
  have R1 := hide (World.rangeAt_setCells_apart R0 cb 0 (us 16 (at8 s)) (Or.inl hne))
  have T1 := hide (World.there_setCells T0 cb 0 (us 16 (at8 s)))
  have HA0 := hide A0
  have HD0 := hide D0
  clear A0 L0 D0 hl hl2 hfo HC2 HC3 B4
  go_region_held3 (fun W => W.rangeAt lb 0 (us 16 (at8 s)) ∧ W.there cb 0 (us 16 (at8 s)).length) (first | assumption | exact ⟨R0, T0⟩ | exact ⟨unhide R1, unhide T1⟩) (fail)
  have A6 : Ar (W5.drew.setCells cb 0 (us 16 (at8 s))) cb 0 432 (ck (at8 s) 0) := (unhide HA0).drew.putPart (p := 0) (m := 16) (by omega) (ck_first (at8 s)) (ck_rest (at8 s))
  have D6 := Go.Proofs.Ytkpodgeinanceaa.below_setCells hcb (us 16 (at8 s)) 0 _ (unhide HD0).drew
  generalize W5.drew.setCells cb 0 (us 16 (at8 s)) = W6 at A6 D6 ⊢
  have HA6 := hide A6
  have HD6 := hide D6
  have HF := hide (at8_lt s)
  clear A6 D6 HA0 HD0 R0 R1 T0 T1 hi h1 hne
  generalize hfs : at8 s = f at *
  have HFS := hide hfs
  clear hfs
  go_wp2_with fail
  go_loopw [7, 24] (fun pv iv wr => ∃ k : Nat, k ≤ 10 ∧ iv = .int .i64 k ∧ pv = .int .u8 (pw k : Nat) ∧ Ar wr cb 0 432 (ck f k) ∧ Below w.heap.size w wr) (fun _ iv _ => 10 - (intOf iv).toNat)
  case atStart => exact ⟨0, by omega, rfl, rfl, unhide HA6, unhide HD6⟩
  case round =>
    obtain ⟨k, hk, rfl, rfl, h1, hbw⟩ := hrel
    have H1 := hide h1
    have HW := hide hbw
    by_cases hlt : k < 10
    · have K0 : Ar wr cb (k * 16) 16 (rk f k) := by
        have := h1.part (k * 16) 16 (by omega)
        rw [Nat.zero_add] at this
        exact this.congr (fun i h => by rw [Nat.mul_comm k 16]; exact ck_key f k i h)
      have K1 := h1.part ((k + 1) * 16) 16 (by omega)
      rw [Nat.zero_add] at K1
      have K2 : Ar wr cb 176 256 sub := by
        have := h1.part 176 256 (by omega)
        rw [Nat.zero_add] at this
        exact this.congr (ck_box f k (by omega))
      have hi : (Try.prog.info? 84).map (·.size) = some (us 16 (rk f k)).length := by rw [us_length]; exact info_bl
      have hi2 : (Try.prog.info? 84).map (·.size) = some (us 16 (nk (rk f k) (pw k))).length := by rw [us_length]; exact info_bl
      have hv := us_oneL 16 (nk (rk f k) (pw k))
      have hb0 := rk_lt f (unhide HF) k
      have hp0 := pw_lt k
      have hC := hide (keyBehind_any cb (rk f k) (pw k) hb0 hp0 wr.drew K2.drew)
      have S0 : Hid (wr.drew.rangeAt cb (k * 16) (us 16 (rk f k)) ∧ wr.drew.there cb ((k + 1) * 16) (us 16 (nk (rk f k) (pw k))).length) := ⟨K0.drew.range, by rw [us_length]; exact K1.drew.there⟩
      have KB := hide (fun (W : World) (h : Below wr.drew.heap.size wr.drew W) => (show W.rangeAt cb (k * 16) (us 16 (rk f k)) ∧ W.there cb ((k + 1) * 16) (us 16 (nk (rk f k) (pw k))).length from ⟨(K0.drew.below h h1.lt).range, by rw [us_length]; exact (K1.drew.below h h1.lt).there⟩))
      have KS := hide (fun (W : World) (h : W.rangeAt cb (k * 16) (us 16 (rk f k)) ∧ W.there cb ((k + 1) * 16) (us 16 (nk (rk f k) (pw k))).length) => (show (W.setCells cb ((k + 1) * 16) (us 16 (nk (rk f k) (pw k)))).rangeAt cb (k * 16) (us 16 (rk f k)) ∧ (W.setCells cb ((k + 1) * 16) (us 16 (nk (rk f k) (pw k)))).there cb ((k + 1) * 16) (us 16 (nk (rk f k) (pw k))).length from ⟨World.rangeAt_setCells_apart h.1 _ _ _ (Or.inr (Or.inl (by rw [us_length]; omega))), World.there_setCells h.2 _ _ _⟩))
      have hD := hide (fun W => implDouble (pw k) hp0 W)
      clear h1 hbw K0 K1 K2 hb0
      have i2 : IntKind.i64.wrap ((k : Int) + 1) = (k : Int) + 1 := wraps_i64 _ (by omega) (by omega)
      have n2 : (0 : Int) ≤ (k : Int) + 1 ∧ (k : Int) + 1 < 11 := by omega
      have n3 : (0 : Int) ≤ (k : Int) ∧ (k : Int) < 11 := by omega
      go_wp2_with fail
      go_region_held3 (fun W => W.rangeAt cb (k * 16) (us 16 (rk f k)) ∧ W.there cb ((k + 1) * 16) (us 16 (nk (rk f k) (pw k))).length) (first | assumption | exact unhide S0 | exact unhide KB _ hb2 | exact unhide KS _ (unhide KB _ hb2)) (first | (go_at_call 87; with_reducible refine (unhide hC).mono ?_; rintro e w2 ⟨rfl, hb2⟩))
      have A7 : Ar (w2.setCells cb ((k + 1) * 16) (us 16 (nk (rk f k) (pw k)))) cb 0 432 (ck f (k + 1)) := by
        have := ((unhide H1).drew.below hb2 (unhide H1).lt).putPart (p := (k + 1) * 16) (m := 16) (g := nk (rk f k) (pw k)) (G := ck f (k + 1)) (by omega) (fun i h => by rw [Nat.mul_comm (k + 1) 16]; exact ck_next f k i h) (fun i h1 h2 => ck_other f k i (by omega))
        rwa [Nat.zero_add] at this
      have D7 := Go.Proofs.Ytkpodgeinanceaa.below_setCells hcb (us 16 (nk (rk f k) (pw k))) ((k + 1) * 16) _ ((unhide HW).drew.trans (hb2.mono (unhide HW).size))
      generalize w2.setCells cb ((k + 1) * 16) (us 16 (nk (rk f k) (pw k))) = w7 at A7 D7 ⊢
      have HA7 := hide A7
      have HD7 := hide D7
      have e7 := hide (show pw (k + 1) = dbl (pw k) from rfl)
      clear A7 D7 hb2 S0 KB KS hC hi hi2 hv
      go_wp2_with (go_at_call 88; with_reducible refine (unhide hD _).mono ?_; rintro e w8 ⟨rfl, rfl⟩)
      exact ⟨⟨k + 1, by omega, by go_num, by rw [unhide e7], unhide HA7, unhide HD7⟩, by simp [intOf]; omega⟩
    · have e : k = 10 := by omega
      subst e
      clear h1 hbw
      go_wp2
      go_ret2
      exact ⟨cb, hcb, rfl, by rw [unhide HFS]; exact unhide H1, unhide HW⟩
theorem newCipher_no (s : ByteArray) (hs : ¬ s.size = 16) (hl : s.size ≤ 1048576) (w : World) :
    Calls Try.prog 65 #[.string s] w fun e w' => e = .returned (.tuple #[.pointer none, .bool false]) ∧ Below w.heap.size w w' := by
  have HB := hide (fun W => blockOf_no s hs hl W)
  have hlz : (us 16 (fun _ => 0)).length = 16 := us_length _ _
  go_enter Try.func65, Try.ntmps65
  go_wp2_with (first | (go_at_call 85; with_reducible refine (unhide HB _).mono ?_; rintro e w1 ⟨rfl, b1⟩))
  rw [(z16_new w1 84).cellsPut]
  have B1 := hide (Go.Proofs.Ytkpodgeinanceaa.below_setCells (b := w1.heap.size) b1.size (us 16 (fun _ => 0)) 0 _ (b1.alloc b1.size (.cells #[.int .u8 0, .int .u8 0, .int .u8 0, .int .u8 0, .int .u8 0, .int .u8 0, .int .u8 0, .int .u8 0, .int .u8 0, .int .u8 0, .int .u8 0, .int .u8 0, .int .u8 0, .int .u8 0, .int .u8 0, .int .u8 0] 84)))
  clear b1 hlz
  go_wp2
  go_ret2
  exact ⟨rfl, unhide B1⟩
end Go.Proofs.Ytkpodgeinanceaa
