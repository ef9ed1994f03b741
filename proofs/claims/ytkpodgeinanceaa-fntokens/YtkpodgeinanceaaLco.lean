/-
  Contracts: the model's texts that are counted.
-/
import Derived.Test.YtkpodgeinanceaaLbl
import Derived.Test.YtkpodgeinanceaaAco
import Derived.Test.YtkpodgeinanceaaLbi
import Derived.Deep.AppendLies
namespace Go.Proofs.Ytkpodgeinanceaa
open Go.ChangeShapes Go.WideShapes Go.ChangeAt Go.RowKit
set_option linter.unusedVariables false
set_option maxRecDepth 100000

theorem byV_int (n k : Nat) : ((byV n k : Nat) : Int) = (n : Int) / 2 ^ (8 * k) % 256 := by
  unfold byV
  rw [show (256 : Nat) ^ k = 2 ^ (8 * k) by rw [Nat.pow_mul]]
  simp
set_option maxRecDepth 100000 in
set_option maxHeartbeats 1000000 in
theorem specFix4 (n : Nat) (hn : n < 4294967296) (w : World) :
    Calls Try.prog 55 #[.int .i64 n, .int .i64 4] w fun e w' => e = .returned (.string (bq 4 (fun i => byV n (3 - i)))) ∧ Below w.heap.size w w' := by
  obtain ⟨i0, hi0, hz0, hz1, hz2⟩ := info_u8i
  have HL := hide (fun i => byV_lt n (3 - i))
  go_enter Try.func55, Try.ntmps55
  go_wp2_with fail
  go_loopw [5, 6] (fun v kv wr => ∃ i : Nat, i ≤ 4 ∧ kv = .int .i64 (3 - (i : Int)) ∧ Ob w.heap.size wr v i (fun i => byV n (3 - i)) ∧ Below w.heap.size w wr) (fun _ kv _ => (intOf kv + 1).toNat)
  case atStart => exact ⟨0, by omega, rfl, Ob.nil _ _ _, Below.refl _ _⟩
  case round =>
    obtain ⟨i, hi, rfl, hO, hB⟩ := hrel
    by_cases hlt : i < 4
    · obtain ⟨k, hk⟩ : ∃ k : Nat, k = 3 - i := ⟨_, rfl⟩
      have hkI : 3 - (i : Int) = (k : Int) := by omega
      rw [hkI]
      have hk4 : k < 4 := by omega
      have hbs := hB.size
      have eI := byV_int n k
      have al := (Below.refl wr.heap.size wr).alloc (Nat.le_refl _) (.cells #[.int .u8 ((n : Int) / 2 ^ (8 * k) % 256)] 5)
      have hN : Ar (wr.alloc (.cells #[.int .u8 ((n : Int) / 2 ^ (8 * k) % 256)] 5)) wr.heap.size 0 1 (fun _ => byV n k) := by
        have h9 := Ar.new wr 1 (fun _ => byV n k) 5
        have e9 : (us 1 (fun _ => byV n k)).toArray = #[.int .u8 ((n : Int) / 2 ^ (8 * k) % 256)] := by
          rw [us_def]
          show #[Value.int .u8 ((byV n k : Nat) : Int)] = _
          rw [eI]
        rw [e9] at h9
        exact h9
      have O3 := hide (hO.kept al)
      have B3 := hide (hB.trans (al.mono hbs))
      have hnew : Hid (∀ j u, (us 1 (fun _ => byV n k))[j]? = some u → (wr.alloc (.cells #[.int .u8 ((n : Int) / 2 ^ (8 * k) % 256)] 5)).cell? ((⟨wr.heap.size, 0, none⟩ : Addr).add j) = some u) := fun j u hu => by rw [Addr.add_mid]; exact hN.range j u hu
      have hone := hide (us_oneL 1 (fun _ => byV n k))
      have hz3 : (wr.alloc (.cells #[.int .u8 ((n : Int) / 2 ^ (8 * k) % 256)] 5)).heap.size = wr.heap.size + 1 := by simp
      have HK := hide (And.intro hk hkI)
      clear al hN hO hB hk hkI eI
      go_wp2_with (at_builtin; refine wpList_append_lies _ rfl _ _ 32 rfl w.heap.size 5 i0 (.int .u8 0) 1 1 Try.underlying32 hi0 hz0 hz1 hz2 rfl (by decide) _ _ _ rfl (unhide O3) ⟨wr.heap.size, 0, none⟩ 1 1 (us 1 (fun _ => byV n k)) rfl ?c0 (unhide hnew) (unhide hone) (by omega) ?c3 ?c4 ?c5 (wr.heap.size + 1) ?c6 ?_)
      case c0 => rw [us_length]
      case c3 => unfold maxLen; omega
      case c4 => omega
      case c5 => omega
      case c6 => exact hz3
      intro g8 cap8 w8 hown hgrow hat hlt8
      rw [show us 1 (fun _ => byV n k) = us 1 (fun j => (fun i => byV n (3 - i)) (i + j)) from us_congr fun j hj => by obtain rfl : j = 0 := (by omega); rw [(unhide HK).1]; rfl] at hown
      have O8 := hide (Ob.grow hown)
      have b8 := Ob.below (unhide O3) hgrow (by rw [hz3]; omega)
      have B8 := hide ((unhide B3).trans b8)
      clear hown hgrow hat b8 O3 B3 hnew hone
      go_wp2
      exact ⟨⟨i + 1, by omega, by have := (unhide HK).2; congr 1; omega, unhide O8, unhide B8⟩, by simp [intOf]⟩
    · obtain rfl : i = 4 := by omega
      have hst := hO.string (fun i _ => unhide HL i)
      have B9 := hide hB
      clear hO hB
      go_wp2
      go_ret
      exact ⟨rfl, unhide B9⟩
theorem fw_congr (K : Nat → Nat → Nat) (f g : Nat → Nat) (h : ∀ i, i < 16 → f i = g i) : ∀ n i, i < 16 → fw K f n i = fw K g n i
  | 0, i, hi => by
    show f i ^^^ K 0 i = g i ^^^ K 0 i
    rw [h i hi]
  | n + 1, i, hi => by
    have e : sbs (fw K f n) = sbs (fw K g n) := funext fun j => by
      unfold sbs pts
      rw [fw_congr K f g h n _ (Nat.mod_lt _ (by omega))]
    show rnd K (n + 1) (fw K f n) i = rnd K (n + 1) (fw K g n) i
    unfold rnd
    rw [e]
theorem nbW_nb4 (s : ByteArray) (hs : s.size = 16) : nbW (s.extract 12 16) 4 = nb4 (at8 s) := by
  have h : ∀ i, i < 4 → at8 (s.extract 12 16) i = at8 s (12 + i) := fun i hi => at8_extract s 12 16 i (by omega) (by omega)
  show (((0 * 256 + at8 (s.extract 12 16) 0) * 256 + at8 (s.extract 12 16) 1) * 256 + at8 (s.extract 12 16) 2) * 256 + at8 (s.extract 12 16) 3 = _
  rw [h 0 (by omega), h 1 (by omega), h 2 (by omega), h 3 (by omega)]
  show (((0 * 256 + at8 s 12) * 256 + at8 s 13) * 256 + at8 s 14) * 256 + at8 s 15 = _
  unfold nb4
  omega
theorem at8_append (a b : ByteArray) (i : Nat) : at8 (a ++ b) i = if i < a.size then at8 a i else at8 b (i - a.size) := by
  unfold at8
  by_cases h : i < a.size
  · rw [if_pos h, dif_pos h, dif_pos (by rw [ByteArray.size_append]; omega), ByteArray.getElem_append_left h]
  · rw [if_neg h]
    by_cases h2 : i - a.size < b.size
    · rw [dif_pos h2, dif_pos (by rw [ByteArray.size_append]; omega), ByteArray.getElem_append_right (by omega)]
    · rw [dif_neg h2, dif_neg (by rw [ByteArray.size_append]; omega)]
theorem byV_mod (x k : Nat) (hk : k < 4) : byV (x % 4294967296) k = byV x k := by
  have h : k = 0 ∨ k = 1 ∨ k = 2 ∨ k = 3 := by omega
  unfold byV
  rcases h with h | h | h | h <;> rw [h] <;> omega
theorem cb_size (s : ByteArray) (hs : s.size = 16) (n : Nat) : (s.extract 0 12 ++ bq 4 (fun i => byV n (3 - i))).size = 16 := by
  rw [ByteArray.size_append, bq_size, ByteArray.size_extract]
  omega
theorem cb_at (s : ByteArray) (hs : s.size = 16) (j i : Nat) (hi : i < 16) : at8 (s.extract 0 12 ++ bq 4 (fun i => byV ((nb4 (at8 s) + j) % 4294967296) (3 - i))) i = plB (at8 s) j i := by
  have hz : (s.extract 0 12).size = 12 := by rw [ByteArray.size_extract]; omega
  rw [at8_append, hz]
  unfold plB
  by_cases e : i < 12
  · rw [if_pos e, if_pos e, at8_extract s 0 12 i (by omega) (by omega), Nat.zero_add]
  · rw [if_neg e, if_neg e, at8_bq 4 (fun i => byV ((nb4 (at8 s) + j) % 4294967296) (3 - i)) (i - 12) (by omega) (byV_lt _ _), show 3 - (i - 12) = 15 - i by omega]
    exact byV_mod _ _ (by omega)
theorem Ob.push {base : Nat} {w : World} {v : Value} {n : Nat} {f : Nat → Nat} (h : Ob base w v n f) (x : Int) (hx : x = (f n : Nat)) (hn : n ≤ 100000) (hb : base ≤ w.heap.size) :
    ∃ g cap w', (Builtin.append_ #[32, 32] 32 #[v, .slice (some ⟨w.heap.size, 0, none⟩) 1 1]).run Try.prog (w.alloc (.cells #[.int .u8 x] 5)) = .ok (.slice (some ⟨g, 0, none⟩) (n + 1) cap) w' ∧
      Ob base w' (.slice (some ⟨g, 0, none⟩) (n + 1) cap) (n + 1) f ∧ Below base w w' := by
  obtain ⟨i0, hi0, hz0, hz1, hz2⟩ := info_u8i
  have al := (Below.refl w.heap.size w).alloc (Nat.le_refl _) (.cells #[.int .u8 x] 5)
  have O3 := h.kept al
  have hN := Ar.new w 1 (fun j => f (n + j)) 5
  have e9 : (us 1 (fun j => f (n + j))).toArray = #[.int .u8 x] := by
    rw [us_def, hx]
    rfl
  rw [e9] at hN
  obtain ⟨g, cap, w', h1, h2, h3, h4, h5⟩ := run_append_lies (P := Try.prog) (w.alloc (.cells #[.int .u8 x] 5)) 32 32 base 5 i0 (.int .u8 0) 1 1 Try.underlying32 hi0 hz0 hz1 hz2 rfl (by decide) v n _ O3 ⟨w.heap.size, 0, none⟩ 1 1 (us 1 (fun j => f (n + j))) (by rw [us_length]) (fun j u hu => by rw [Addr.add_mid]; exact hN.range j u hu) (us_oneL _ _) (by omega) (by unfold maxLen; omega) (by omega) (by rw [World.size_alloc]; omega) _ rfl
  exact ⟨g, cap, w', h1, Ob.grow h2, (al.mono hb).trans (Ob.below O3 h3 (by rw [World.size_alloc]; omega))⟩
end Go.Proofs.Ytkpodgeinanceaa
