/-
  Contracts: the model's product of words and a number.
-/
import Derived.Test.YtpjmnnaiegdjmaaDoorArw
import Derived.Deep.Cut
import Derived.Laws.BitsAllLaws
namespace Go.Proofs.YtpjmnnaiegdjmaaDoor
open Go.ChangeShapes Go.WideShapes Go.ChangeAt Go.RowKit
set_option linter.unusedVariables false

/-- the number that n words of 32 bits tell, the lowest first -/
def V : Nat → (Nat → Nat) → Nat
  | 0, _ => 0
  | n + 1, f => V n f + f n * 4294967296 ^ n
theorem V_congr : ∀ (n : Nat) (f g : Nat → Nat), (∀ i, i < n → f i = g i) → V n f = V n g
  | 0, _, _, _ => rfl
  | n + 1, f, g, h => by rw [V, V, V_congr n f g (fun i hi => h i (by omega)), h n (by omega)]
theorem V_lt : ∀ (n : Nat) (f : Nat → Nat), (∀ i, i < n → f i < 4294967296) → V n f < 4294967296 ^ n
  | 0, _, _ => by simp [V]
  | n + 1, f, h => by
    have h1 := V_lt n f (fun i hi => h i (by omega))
    have h2 := h n (by omega)
    have h3 : f n * 4294967296 ^ n + 4294967296 ^ n ≤ 4294967296 * 4294967296 ^ n := by
      rw [← Nat.succ_mul]; exact Nat.mul_le_mul_right _ h2
    rw [V, Nat.pow_succ, Nat.mul_comm (4294967296 ^ n)]
    omega
/-- a word is put in the place of another -/
def pt (f : Nat → Nat) (k x : Nat) (i : Nat) : Nat := if i = k then x else f i
theorem V_pt (f : Nat → Nat) (k x : Nat) : ∀ n, k < n → V n (pt f k x) + f k * 4294967296 ^ k = V n f + x * 4294967296 ^ k
  | 0, h => by omega
  | n + 1, h => by
    by_cases e : k = n
    · subst e
      rw [V, V, V_congr k (pt f k x) f (fun i hi => by unfold pt; rw [if_neg (by omega)])]
      unfold pt
      rw [if_pos rfl]
      omega
    · have := V_pt f k x n (by omega)
      rw [V, V]
      have e2 : pt f k x n = f n := by unfold pt; rw [if_neg (by omega)]
      rw [e2]
      omega

theorem V_step (n i k x P M V0 : Nat) (G f : Nat → Nat) (hx : f i = x) (hi : i + k < n) (h : V n G + M * 4294967296 ^ (i + k) = V0 + P * 4294967296 ^ k * V i f) :
    V n (pt G (i + k) ((x * P + G (i + k) + M) % 4294967296)) + (x * P + G (i + k) + M) / 4294967296 * 4294967296 ^ (i + 1 + k) = V0 + P * 4294967296 ^ k * V (i + 1) f := by
  have h1 := V_pt G (i + k) ((x * P + G (i + k) + M) % 4294967296) n hi
  have h2 := Nat.div_add_mod (x * P + G (i + k) + M) 4294967296
  generalize hq : (x * P + G (i + k) + M) % 4294967296 = r at *
  generalize hd : (x * P + G (i + k) + M) / 4294967296 = d at *
  rw [V, hx, show i + 1 + k = (i + k) + 1 by omega, Nat.pow_succ]
  have e : 4294967296 ^ (i + k) = 4294967296 ^ i * 4294967296 ^ k := Nat.pow_add _ _ _
  have h3 : (4294967296 * d + r) * 4294967296 ^ (i + k) = (x * P + G (i + k) + M) * 4294967296 ^ (i + k) := by rw [h2]
  rw [e] at h h1 h3 ⊢
  generalize 4294967296 ^ i = Q at *
  generalize 4294967296 ^ k = R at *
  generalize V n (pt G (i + k) r) = Y at *
  simp only [Nat.mul_add, Nat.mul_assoc, Nat.mul_comm, Nat.mul_left_comm] at h h1 h3 ⊢
  omega
theorem V_zero : ∀ n, V n (fun _ => 0) = 0
  | 0 => rfl
  | n + 1 => by rw [V, V_zero n]; omega

set_option maxRecDepth 100000 in
set_option maxHeartbeats 400000 in
theorem specTimes (b n cap m : Nat) (f : Nat → Nat) (hn : n ≤ 8) (hf : ∀ i, i < n → f i < 4294967296) (hm : m < 137438953472) (w : World) (hA : Aw w b 0 n f) :
    Calls Tryd.prog 94 #[.slice (some ⟨b, 0, none⟩) n cap, .int .i64 m] w fun e w' => ∃ g G, e = .returned (.slice (some ⟨g, 0, none⟩) (n + 2) (n + 2)) ∧ w.heap.size ≤ g ∧ Aw w' g 0 (n + 2) G ∧ (∀ i, i < n + 2 → G i < 4294967296) ∧ V (n + 2) G = V n f * m ∧ Below w.heap.size w w' := by
  have hF := hide hf
  have HA := hide hA
  have hAlt := hide hA.lt
  clear hA hf
  go_enter Tryd.func94, Tryd.ntmps94
  go_wp2_with fail
  have hmk := mk_words (n + 2) (by omega) w
  rw [show (((n + 2 : Nat)) : Int) = (n : Int) + 2 by omega] at hmk
  rw [hmk]
  have hN := Aw.new w (n + 2) (fun _ => 0) 88
  have hB := (Below.refl w.heap.size w).alloc (Nat.le_refl _) (.cells (uw (n + 2) fun _ => 0).toArray 88)
  have hz : (w.alloc (.cells (uw (n + 2) fun _ => 0).toArray 88)).heap.size = w.heap.size + 1 := by simp
  have hA1 := (unhide HA).alloc (.cells (uw (n + 2) fun _ => 0).toArray 88)
  generalize w.alloc (.cells (uw (n + 2) fun _ => 0).toArray 88) = W1 at hN hB hz hA1 ⊢
  have HN := hide hN
  have HB := hide hB
  have HA1 := hide hA1
  clear hN hB hA1 hmk HA
  go_wp2_with fail
  have hpa : bits .and .u64 (m : Int) 4294967295 = ((m / 4294967296 ^ 0 % 4294967296 : Nat) : Int) := by
    have h9 := u64_and_nat m 4294967295 (by omega) (by omega)
    have h8 : m &&& 4294967295 = m % 4294967296 := Nat.and_two_pow_sub_one_eq_mod m 32
    rw [h8] at h9
    rw [Nat.pow_zero, Nat.div_one]
    exact h9
  have hpb : (m : Int) / 4294967296 = ((m / 4294967296 ^ 1 % 4294967296 : Nat) : Int) := by
    rw [Nat.pow_one, Nat.mod_eq_of_lt (by omega)]; omega
  have hB2 := hide ((unhide HB).alloc (by omega) (.cells #[.int .u64 (bits .and .u64 (m : Int) 4294967295), .int .u64 ((m : Int) / 4294967296)] 60))
  have hN2 := hide ((unhide HN).alloc (.cells #[.int .u64 (bits .and .u64 (m : Int) 4294967295), .int .u64 ((m : Int) / 4294967296)] 60))
  have hA2 := hide ((unhide HA1).alloc (.cells #[.int .u64 (bits .and .u64 (m : Int) 4294967295), .int .u64 ((m : Int) / 4294967296)] 60))
  have hC2 : Hid (∀ k, k < 2 → (W1.alloc (.cells #[.int .u64 (bits .and .u64 (m : Int) 4294967295), .int .u64 ((m : Int) / 4294967296)] 60)).cell? ⟨w.heap.size + 1, k, none⟩ = some (.int .u64 ((m / 4294967296 ^ k % 4294967296 : Nat) : Int))) := by
    intro k hk
    rw [hpa, hpb, ← hz]
    have e : k = 0 ∨ k = 1 := by omega
    rcases e with rfl | rfl <;> simp
  generalize W1.alloc (.cells #[.int .u64 (bits .and .u64 (m : Int) 4294967295), .int .u64 ((m : Int) / 4294967296)] 60) = W2 at hB2 hN2 hA2 hC2 ⊢
  clear HB HN HA1 hpa hpb
  have hblt : b < w.heap.size := (unhide hAlt)
  go_loopw [24] (fun kv wr => ∃ k : Nat, k ≤ 2 ∧ kv = .int .i64 k ∧ ∃ G, Aw wr w.heap.size 0 (n + 2) G ∧ (∀ i, i < n + 2 → G i < 4294967296) ∧ V (n + 2) G = V n f * (m % 4294967296 ^ k) ∧ (∀ j, n + k ≤ j → j < n + 2 → G j = 0) ∧ Aw wr b 0 n f ∧ (∀ k, k < 2 → wr.cell? ⟨w.heap.size + 1, k, none⟩ = some (.int .u64 ((m / 4294967296 ^ k % 4294967296 : Nat) : Int))) ∧ Below w.heap.size w wr) (fun kv _ => 2 - (intOf kv).toNat)
  case atStart => exact ⟨0, by omega, rfl, fun _ => 0, unhide hN2, fun i hi => by show (0 : Nat) < _; omega, by rw [Nat.pow_zero, Nat.mod_one, Nat.mul_zero]; exact V_zero _, fun j _ _ => rfl, unhide hA2, unhide hC2, unhide hB2⟩
  case round =>
    obtain ⟨k, hk, rfl, G, hG, hGb, hV, hG0, hAr, hCr, hBr⟩ := hrel
    by_cases hlt : k < 2
    · have hc := hCr k hlt
      generalize hP : m / 4294967296 ^ k % 4294967296 = P at *
      have HH := hide (And.intro hG (And.intro hGb (And.intro hV (And.intro hG0 (And.intro hAr (And.intro hCr hBr))))))
      clear hG hGb hV hG0 hAr hCr hBr
      go_wp2_with fail
      have hPlt : P < 4294967296 := by rw [← hP]; exact Nat.mod_lt _ (by omega)
      go_loopw [31, 8] (fun iv mv wx => ∃ i M : Nat, ∃ G', i ≤ n ∧ iv = .int .i64 i ∧ mv = .int .u64 M ∧ M < 4294967296 ∧ Aw wx w.heap.size 0 (n + 2) G' ∧ (∀ i, i < n + 2 → G' i < 4294967296) ∧ V (n + 2) G' + M * 4294967296 ^ (i + k) = V n f * (m % 4294967296 ^ k) + P * 4294967296 ^ k * V i f ∧ (∀ j, n + k ≤ j → j < n + 2 → G' j = 0) ∧ Aw wx b 0 n f ∧ (∀ k, k < 2 → wx.cell? ⟨w.heap.size + 1, k, none⟩ = some (.int .u64 ((m / 4294967296 ^ k % 4294967296 : Nat) : Int))) ∧ Below w.heap.size w wx) (fun iv _ _ => n - (intOf iv).toNat)
      case atStart =>
        obtain ⟨hG, hGb, hV, hG0, hAr, hCr, hBr⟩ := unhide HH
        exact ⟨0, 0, G, by omega, rfl, rfl, by omega, hG, hGb, by rw [hV]; simp [V], hG0, hAr, hCr, hBr⟩
      case round =>
        obtain ⟨i, M, G', hi, rfl, rfl, hM, hG, hGb, hV, hG0, hAr, hCr, hBr⟩ := hrel
        by_cases hli : i < n
        · have hx := hAr.c0 i hli
          have hy := hG.c0 (i + k) (by omega)
          have hz1 := hG.f0 (i + k) (by omega)
          have hyb := hGb (i + k) (by omega)
          have hxb := unhide hF i hli
          have hq1 : f i * P ≤ 4294967295 * 4294967295 := Nat.mul_le_mul (by omega) (by omega)
          generalize hq : f i * P = q at *
          have hN : Hid (∀ j, j < n + 2 → pt G' (i + k) ((q + G' (i + k) + M) % 4294967296) j < 4294967296) := by
            intro j hj; unfold pt; split
            · exact Nat.mod_lt _ (by omega)
            · exact hGb j hj
          have hS : Hid (V (n + 2) (pt G' (i + k) ((q + G' (i + k) + M) % 4294967296)) + (q + G' (i + k) + M) / 4294967296 * 4294967296 ^ (i + 1 + k) = V n f * (m % 4294967296 ^ k) + P * 4294967296 ^ k * V (i + 1) f) := by
            have := V_step (n + 2) i k (f i) P M _ G' f rfl (by omega) hV
            rw [hq] at this
            exact this
          have hZ : Hid (∀ j, n + k ≤ j → j < n + 2 → pt G' (i + k) ((q + G' (i + k) + M) % 4294967296) j = 0) := by
            intro j h1 h2; unfold pt; rw [if_neg (by omega)]; exact hG0 j h1 h2
          have hP1 := hide (hG.put0 (g := pt G' (i + k) ((q + G' (i + k) + M) % 4294967296)) (k := i + k) (x := (q + G' (i + k) + M) % 4294967296) (by omega) (by simp [pt]) (fun j _ hne => by simp [pt, hne]))
          have hP2 := hide (hAr.other (a := ⟨w.heap.size, i + k, none⟩) (v := .int .u32 (((q + G' (i + k) + M) % 4294967296 : Nat) : Int)) (by show w.heap.size ≠ b; omega))
          have hP3 : Hid (∀ k', k' < 2 → (wr.setCell ⟨w.heap.size, i + k, none⟩ (.int .u32 (((q + G' (i + k) + M) % 4294967296 : Nat) : Int))).cell? ⟨w.heap.size + 1, k', none⟩ = some (.int .u64 ((m / 4294967296 ^ k' % 4294967296 : Nat) : Int))) := fun k' hk' => by
            rw [World.cell?_setCell_other _ _ _ _ (by intro e; simp at e <;> omega)]; exact hCr k' hk'
          have hP4 := hide (hBr.setCell (p := ⟨w.heap.size, i + k, none⟩) (Nat.le_refl _) (.int .u32 (((q + G' (i + k) + M) % 4294967296 : Nat) : Int)))
          have m1 : IntKind.u64.wrap ((f i : Int) * (P : Int)) = (q : Int) := by rw [← hq, IntKind.wrap_u64]; rw [Int.natCast_mul]; omega
          have eN : (((q + G' (i + k) + M) % 4294967296 : Nat) : Int) = ((q : Int) + (G' (i + k) : Nat) + (M : Int)) % 4294967296 := by omega
          have eD : (((q + G' (i + k) + M) / 4294967296 : Nat) : Int) = ((q : Int) + (G' (i + k) : Nat) + (M : Int)) / 4294967296 := by omega
          rw [eN] at hP1 hP2 hP3 hP4
          have ED := hide eD
          have hl1 : (q + G' (i + k) + M) / 4294967296 < 4294967296 := by omega
          clear hV hG hGb hG0 hAr hCr hBr HH hq eN eD
          go_wp2_with fail
          exact ⟨⟨i + 1, _, _, by omega, by go_num, by rw [← unhide ED], hl1, unhide hP1, unhide hN, unhide hS, unhide hZ, unhide hP2, unhide hP3, unhide hP4⟩, by simp [intOf]; omega⟩
        · obtain rfl : i = n := by omega
          have hy := hG.c0 (i + k) (by omega)
          have hz1 := hG.f0 (i + k) (by omega)
          have h0 := hG0 (i + k) (by omega) (by omega)
          rw [h0] at hy
          have hN : Hid (∀ j, j < i + 2 → pt G' (i + k) M j < 4294967296) := by
            intro j hj; unfold pt; split
            · exact hM
            · exact hGb j hj
          have hS : Hid (V (i + 2) (pt G' (i + k) M) = V i f * (m % 4294967296 ^ (k + 1))) := by
            have h1 := V_pt G' (i + k) M (i + 2) (by omega)
            rw [h0, Nat.zero_mul, Nat.add_zero, hV] at h1
            rw [h1, Nat.mod_pow_succ, hP, Nat.mul_add, Nat.mul_comm P, Nat.mul_comm (_ * P)]
            exact rfl
          have hZ : Hid (∀ j, i + (k + 1) ≤ j → j < i + 2 → pt G' (i + k) M j = 0) := by
            intro j h1 h2; unfold pt; rw [if_neg (by omega)]; exact hG0 j (by omega) h2
          have hP1 := hide (hG.put0 (g := pt G' (i + k) M) (k := i + k) (x := M) (by omega) (by simp [pt]) (fun j _ hne => by simp [pt, hne]))
          have hP2 := hide (hAr.other (a := ⟨w.heap.size, i + k, none⟩) (v := .int .u32 ((M : Nat) : Int)) (by show w.heap.size ≠ b; omega))
          have hP3 : Hid (∀ k', k' < 2 → (wr.setCell ⟨w.heap.size, i + k, none⟩ (.int .u32 ((M : Nat) : Int))).cell? ⟨w.heap.size + 1, k', none⟩ = some (.int .u64 ((m / 4294967296 ^ k' % 4294967296 : Nat) : Int))) := fun k' hk' => by
            rw [World.cell?_setCell_other _ _ _ _ (by intro e; simp at e <;> omega)]; exact hCr k' hk'
          have hP4 := hide (hBr.setCell (p := ⟨w.heap.size, i + k, none⟩) (Nat.le_refl _) (.int .u32 ((M : Nat) : Int)))
          clear hV hG hGb hG0 hAr hCr hBr HH h0
          go_wp2_with fail
          exact ⟨⟨k + 1, by omega, by go_num, _, unhide hP1, unhide hN, unhide hS, unhide hZ, unhide hP2, unhide hP3, unhide hP4⟩, by simp [intOf]; omega⟩
    · obtain rfl : k = 2 := by omega
      have hVm : Hid (V (n + 2) G = V n f * m) := by rw [Nat.mod_eq_of_lt (by omega)] at hV; exact hV
      have HH := hide (And.intro hG (And.intro hGb hBr))
      clear hG hGb hV hG0 hAr hCr hBr
      go_wp2
      go_ret
      exact ⟨_, G, rfl, Nat.le_refl _, (unhide HH).1, (unhide HH).2.1, unhide hVm, (unhide HH).2.2⟩
end Go.Proofs.YtpjmnnaiegdjmaaDoor
