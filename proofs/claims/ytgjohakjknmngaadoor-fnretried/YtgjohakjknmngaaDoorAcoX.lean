/-
  Contracts: the program's AesCounter. Contracts: the model's texts that are counted. Contracts: XorText of both sides. Contracts: the model's texts filled up, its key that seals.
-/
import Derived.Test.YtgjohakjknmngaaDoorAct
import Derived.Test.YtgjohakjknmngaaDoorLbl
import Derived.Test.YtgjohakjknmngaaDoorLbi
import Derived.Deep.AppendLies
import Derived.Test.YtgjohakjknmngaaDoorLxo
import Derived.Test.YtgjohakjknmngaaDoorL5h
import Derived.Test.YtgjohakjknmngaaDoorE5hX
namespace Go.Proofs.YtgjohakjknmngaaDoor
open Go.ChangeShapes Go.WideShapes Go.ChangeAt Go.RowKit
set_option linter.unusedVariables false
set_option maxRecDepth 100000

/-- a text that is counted -/
def ctW (k s t : ByteArray) : ByteArray := bq t.size (fun i => at8 t i ^^^ cvW (rk (at8 k)) (at8 s) i)
theorem ctW_size (k s t : ByteArray) : (ctW k s t).size = t.size := bq_size _ _
end Go.Proofs.YtgjohakjknmngaaDoor
namespace Go.Proofs.YtgjohakjknmngaaDoor
open Go.ChangeShapes Go.WideShapes Go.ChangeAt Go.RowKit
set_option linter.unusedVariables false
set_option maxRecDepth 100000

theorem byV_int (n k : Nat) : ((byV n k : Nat) : Int) = (n : Int) / 2 ^ (8 * k) % 256 := by
  unfold byV
  rw [show (256 : Nat) ^ k = 2 ^ (8 * k) by rw [Nat.pow_mul]]
  simp
set_option maxRecDepth 100000 in
set_option maxHeartbeats 1000000 in
theorem specFix4 (n : Nat) (hn : n < 4294967296) (w : World) :
    Calls Tryd.prog 35 #[.int .i64 n, .int .i64 4] w fun e w' => e = .returned (.string (bq 4 (fun i => byV n (3 - i)))) ∧ Below w.heap.size w w' := by
  obtain ⟨i0, hi0, hz0, hz1, hz2⟩ := info_u8i
  have HL := hide (fun i => byV_lt n (3 - i))
  go_enter Tryd.func35, Tryd.ntmps35
  go_wp2_with fail
  go_loopw [5, 6] (fun v kv wr => ∃ i : Nat, i ≤ 4 ∧ kv = .int .i64 (3 - (i : Int)) ∧ Ob w.heap.size wr v i (fun i => byV n (3 - i)) ∧ Below w.heap.size w wr) (fun _ kv _ => (intOf kv + 1).toNat)
  case atStart => exact ⟨0, by omega, rfl, Ob.nil _ _ _, Below.refl _ _⟩
  case round =>
    obtain ⟨i, hi, rfl, hO, hB⟩ := hrel
    by_cases hlt : i < 4
    · obtain ⟨k, hk⟩ : ∃ k : Nat, k = 3 - i := ⟨_, rfl⟩
      have hkI : 3 - (i : Int) = (k : Int) := by omega
      rw [hkI]
      have hk4 : k < 4 := by omega
      have hbs := hB.size
      have eI := byV_int n k
      have al := (Below.refl wr.heap.size wr).alloc (Nat.le_refl _) (.cells #[.int .u8 ((n : Int) / 2 ^ (8 * k) % 256)] 5)
      have hN : Ar (wr.alloc (.cells #[.int .u8 ((n : Int) / 2 ^ (8 * k) % 256)] 5)) wr.heap.size 0 1 (fun _ => byV n k) := by
        have h9 := Ar.new wr 1 (fun _ => byV n k) 5
        have e9 : (us 1 (fun _ => byV n k)).toArray = #[.int .u8 ((n : Int) / 2 ^ (8 * k) % 256)] := by
          rw [us_def]
          show #[Value.int .u8 ((byV n k : Nat) : Int)] = _
          rw [eI]
        rw [e9] at h9
        exact h9
      have O3 := hide (hO.kept al)
      have B3 := hide (hB.trans (al.mono hbs))
      have hnew : Hid (∀ j u, (us 1 (fun _ => byV n k))[j]? = some u → (wr.alloc (.cells #[.int .u8 ((n : Int) / 2 ^ (8 * k) % 256)] 5)).cell? ((⟨wr.heap.size, 0, none⟩ : Addr).add j) = some u) := fun j u hu => by rw [Addr.add_mid]; exact hN.range j u hu
      have hone := hide (us_oneL 1 (fun _ => byV n k))
      have hz3 : (wr.alloc (.cells #[.int .u8 ((n : Int) / 2 ^ (8 * k) % 256)] 5)).heap.size = wr.heap.size + 1 := by simp
      have HK := hide (And.intro hk hkI)
      clear al hN hO hB hk hkI eI
      go_wp2_with (at_builtin; refine wpList_append_lies _ rfl _ _ 22 rfl w.heap.size 5 i0 (.int .u8 0) 1 1 Tryd.underlying22 hi0 hz0 hz1 hz2 rfl (by decide) _ _ _ rfl (unhide O3) ⟨wr.heap.size, 0, none⟩ 1 1 (us 1 (fun _ => byV n k)) rfl ?c0 (unhide hnew) (unhide hone) (by omega) ?c3 ?c4 ?c5 (wr.heap.size + 1) ?c6 ?_)
      case c0 => rw [us_length]
      case c3 => unfold maxLen; omega
      case c4 => omega
      case c5 => omega
      case c6 => exact hz3
      intro g8 cap8 w8 hown hgrow hat hlt8
      rw [show us 1 (fun _ => byV n k) = us 1 (fun j => (fun i => byV n (3 - i)) (i + j)) from us_congr fun j hj => by obtain rfl : j = 0 := (by omega); rw [(unhide HK).1]; rfl] at hown
      have O8 := hide (Ob.grow hown)
      have b8 := Ob.below (unhide O3) hgrow (by rw [hz3]; omega)
      have B8 := hide ((unhide B3).trans b8)
      clear hown hgrow hat b8 O3 B3 hnew hone
      go_wp2
      exact ⟨⟨i + 1, by omega, by have := (unhide HK).2; congr 1; omega, unhide O8, unhide B8⟩, by simp [intOf]⟩
    · obtain rfl : i = 4 := by omega
      have hst := hO.string (fun i _ => unhide HL i)
      have B9 := hide hB
      clear hO hB
      go_wp2
      go_ret
      exact ⟨rfl, unhide B9⟩
theorem fw_congr (K : Nat → Nat → Nat) (f g : Nat → Nat) (h : ∀ i, i < 16 → f i = g i) : ∀ n i, i < 16 → fw K f n i = fw K g n i
  | 0, i, hi => by
    show f i ^^^ K 0 i = g i ^^^ K 0 i
    rw [h i hi]
  | n + 1, i, hi => by
    have e : sbs (fw K f n) = sbs (fw K g n) := funext fun j => by
      unfold sbs pts
      rw [fw_congr K f g h n _ (Nat.mod_lt _ (by omega))]
    show rnd K (n + 1) (fw K f n) i = rnd K (n + 1) (fw K g n) i
    unfold rnd
    rw [e]
theorem nbW_nb4 (s : ByteArray) (hs : s.size = 16) : nbW (s.extract 12 16) 4 = nb4 (at8 s) := by
  have h : ∀ i, i < 4 → at8 (s.extract 12 16) i = at8 s (12 + i) := fun i hi => at8_extract s 12 16 i (by omega) (by omega)
  show (((0 * 256 + at8 (s.extract 12 16) 0) * 256 + at8 (s.extract 12 16) 1) * 256 + at8 (s.extract 12 16) 2) * 256 + at8 (s.extract 12 16) 3 = _
  rw [h 0 (by omega), h 1 (by omega), h 2 (by omega), h 3 (by omega)]
  show (((0 * 256 + at8 s 12) * 256 + at8 s 13) * 256 + at8 s 14) * 256 + at8 s 15 = _
  unfold nb4
  omega
theorem at8_append (a b : ByteArray) (i : Nat) : at8 (a ++ b) i = if i < a.size then at8 a i else at8 b (i - a.size) := by
  unfold at8
  by_cases h : i < a.size
  · rw [if_pos h, dif_pos h, dif_pos (by rw [ByteArray.size_append]; omega), ByteArray.getElem_append_left h]
  · rw [if_neg h]
    by_cases h2 : i - a.size < b.size
    · rw [dif_pos h2, dif_pos (by rw [ByteArray.size_append]; omega), ByteArray.getElem_append_right (by omega)]
    · rw [dif_neg h2, dif_neg (by rw [ByteArray.size_append]; omega)]
theorem byV_mod (x k : Nat) (hk : k < 4) : byV (x % 4294967296) k = byV x k := by
  have h : k = 0 ∨ k = 1 ∨ k = 2 ∨ k = 3 := by omega
  unfold byV
  rcases h with h | h | h | h <;> rw [h] <;> omega
theorem cb_size (s : ByteArray) (hs : s.size = 16) (n : Nat) : (s.extract 0 12 ++ bq 4 (fun i => byV n (3 - i))).size = 16 := by
  rw [ByteArray.size_append, bq_size, ByteArray.size_extract]
  omega
theorem cb_at (s : ByteArray) (hs : s.size = 16) (j i : Nat) (hi : i < 16) : at8 (s.extract 0 12 ++ bq 4 (fun i => byV ((nb4 (at8 s) + j) % 4294967296) (3 - i))) i = plB (at8 s) j i := by
  have hz : (s.extract 0 12).size = 12 := by rw [ByteArray.size_extract]; omega
  rw [at8_append, hz]
  unfold plB
  by_cases e : i < 12
  · rw [if_pos e, if_pos e, at8_extract s 0 12 i (by omega) (by omega), Nat.zero_add]
  · rw [if_neg e, if_neg e, at8_bq 4 (fun i => byV ((nb4 (at8 s) + j) % 4294967296) (3 - i)) (i - 12) (by omega) (byV_lt _ _), show 3 - (i - 12) = 15 - i by omega]
    exact byV_mod _ _ (by omega)
theorem Ob.push {base : Nat} {w : World} {v : Value} {n : Nat} {f : Nat → Nat} (h : Ob base w v n f) (x : Int) (hx : x = (f n : Nat)) (hn : n ≤ 100000) (hb : base ≤ w.heap.size) :
    ∃ g cap w', (Builtin.append_ #[22, 22] 22 #[v, .slice (some ⟨w.heap.size, 0, none⟩) 1 1]).run Tryd.prog (w.alloc (.cells #[.int .u8 x] 5)) = .ok (.slice (some ⟨g, 0, none⟩) (n + 1) cap) w' ∧
      Ob base w' (.slice (some ⟨g, 0, none⟩) (n + 1) cap) (n + 1) f ∧ Below base w w' := by
  obtain ⟨i0, hi0, hz0, hz1, hz2⟩ := info_u8i
  have al := (Below.refl w.heap.size w).alloc (Nat.le_refl _) (.cells #[.int .u8 x] 5)
  have O3 := h.kept al
  have hN := Ar.new w 1 (fun j => f (n + j)) 5
  have e9 : (us 1 (fun j => f (n + j))).toArray = #[.int .u8 x] := by
    rw [us_def, hx]
    rfl
  rw [e9] at hN
  obtain ⟨g, cap, w', h1, h2, h3, h4, h5⟩ := run_append_lies (P := Tryd.prog) (w.alloc (.cells #[.int .u8 x] 5)) 22 22 base 5 i0 (.int .u8 0) 1 1 Tryd.underlying22 hi0 hz0 hz1 hz2 rfl (by decide) v n _ O3 ⟨w.heap.size, 0, none⟩ 1 1 (us 1 (fun j => f (n + j))) (by rw [us_length]) (fun j u hu => by rw [Addr.add_mid]; exact hN.range j u hu) (us_oneL _ _) (by omega) (by unfold maxLen; omega) (by omega) (by rw [World.size_alloc]; omega) _ rfl
  exact ⟨g, cap, w', h1, Ob.grow h2, (al.mono hb).trans (Ob.below O3 h3 (by rw [World.size_alloc]; omega))⟩
end Go.Proofs.YtgjohakjknmngaaDoor
namespace Go.Proofs.YtgjohakjknmngaaDoor
open Go.ChangeShapes Go.WideShapes Go.ChangeAt Go.RowKit
set_option linter.unusedVariables false

/-- two texts xored -/
def xoW (a b : ByteArray) : ByteArray := bq a.size (fun i => at8 a i ^^^ at8 b i)
theorem xoW_size (a b : ByteArray) : (xoW a b).size = a.size := bq_size _ _
set_option maxRecDepth 100000 in
set_option maxHeartbeats 400000 in
theorem specXorN (n : Nat) (hn : n ≤ 1048576) (ab ao acap bb bo bcap : Nat) (F G : Nat → Nat) (hF : ∀ i, F i < 256) (hG : ∀ i, G i < 256) (w : World) (h1 : Ar w ab ao n F) (h2 : Ar w bb bo n G) :
    Calls Tryd.prog 64 #[.slice (some ⟨ab, ao, none⟩) n acap, .slice (some ⟨bb, bo, none⟩) n bcap] w fun e w' => ∃ g, w.heap.size ≤ g ∧ e = .returned (.slice (some ⟨g, 0, none⟩) n n) ∧ Ar w' g 0 n (fun i => F i ^^^ G i) ∧ Below w.heap.size w w' := by
  have HF := hide hF
  have HG := hide hG
  have H1 := hide h1
  have H2 := hide h2
  have E : ∀ i, (fun i => F i ^^^ G i) i = F i ^^^ G i := fun i => rfl
  generalize (fun i => F i ^^^ G i) = r at E ⊢
  have HE := hide E
  clear hF hG h1 h2 E
  go_enter Tryd.func64, Tryd.ntmps64
  go_wp2_with fail
  have hmk : (Instr.makeSlice 22 (.int .i64 n) (.int .i64 n)).run Tryd.prog w = _ := mk_bytes n hn w
  rw [hmk]
  go_wp2_with fail
  have A0 : Ar (w.alloc (.cells (us n fun _ => 0).toArray 5)) w.heap.size 0 n (fun _ => 0) := Ar.new w n (fun _ => 0) 5
  have B0 : Below w.heap.size w (w.alloc (.cells (us n fun _ => 0).toArray 5)) := (Below.refl _ _).alloc (Nat.le_refl _) _
  generalize w.alloc (.cells (us n fun _ => 0).toArray 5) = w0 at A0 B0 ⊢
  have HA := hide A0
  have HB := hide B0
  clear A0 B0 hmk
  go_loopw [12] (fun iv wr => ∃ i : Nat, i ≤ n ∧ iv = .int .i64 i ∧ Ar wr w.heap.size 0 n (stp r (fun _ => 0) i) ∧ Below w.heap.size w wr) (fun iv _ => n - (intOf iv).toNat)
  case atStart => exact ⟨0, by omega, rfl, (unhide HA).stepNone, unhide HB⟩
  case round =>
    obtain ⟨i, hi, rfl, a1, b1⟩ := hrel
    have HA1 := hide a1
    have HB1 := hide b1
    by_cases hlt : i < n
    · have c0 := a1.c0 i hlt
      have f0 := a1.f0 i hlt
      have s1 := ((unhide H1).below b1 (unhide H1).lt).c i hlt
      have s2 := ((unhide H2).below b1 (unhide H2).lt).c i hlt
      have e1 := hide (xorI (F i) (G i) (unhide HF _) (unhide HG _))
      have e2 := hide (unhide HE i)
      clear a1 b1
      generalize F i = x at *
      generalize G i = y at *
      generalize stp r (fun _ => 0) i i = z at *
      have n1 : (0 : Int) ≤ (i : Int) ∧ (i : Int) < n := by omega
      go_wp2_with fail
      go_region
      go_wp2
      rw [unhide e1]
      exact ⟨⟨i + 1, by omega, by go_num, ((unhide HA1).step hlt (unhide e2)).drew, ((unhide HB1).setCell (by simp) _).drew⟩, by simp [intOf]; omega⟩
    · have e : i = n := by omega
      subst e
      clear a1 b1
      go_wp2
      go_ret
      exact ⟨w.heap.size, Nat.le_refl _, rfl, (unhide HA1).stepEnd, unhide HB1⟩
end Go.Proofs.YtgjohakjknmngaaDoor
namespace Go.Proofs.YtgjohakjknmngaaDoor
open Go.ChangeShapes Go.WideShapes Go.ChangeAt Go.RowKit
set_option linter.unusedVariables false

theorem at8_out (s : ByteArray) (i : Nat) (h : s.size ≤ i) : at8 s i = 0 := by unfold at8; rw [dif_neg (by omega)]
theorem bq_zero (k : Nat) (f : Nat → Nat) (h : f k = 0) : bq k f ++ ⟨#[0]⟩ = bq (k + 1) f := by
  rw [bq_add k 1 f]
  congr 1
  unfold bq
  show (⟨#[0]⟩ : ByteArray) = ⟨#[UInt8.ofNat (f (k + 0))]⟩
  rw [Nat.add_zero, h]
  rfl
set_option maxRecDepth 100000 in
set_option maxHeartbeats 1000000 in
theorem specFull (s : ByteArray) (hs : s.size ≤ 4000) (w : World) :
    Calls Tryd.prog 66 #[.string s] w fun e w' => e = .returned (.string (bq (flN s.size) (at8 s))) ∧ w' = w := by
  obtain ⟨n, hn⟩ : ∃ n : Nat, n = s.size := ⟨_, rfl⟩
  obtain ⟨hf1, hf2, hf3⟩ := flN_le n
  have HS : Hid (s = bq n (at8 s)) := by rw [hn]; exact (bq_at8 s).symm
  have HZ : Hid (∀ k, n ≤ k → at8 s k = 0) := fun k hk => at8_out s k (by omega)
  rw [← hn]
  rw [← hn] at hs
  generalize flN n = N at *
  have HFN : Hid (∀ k, n ≤ k → k % 16 = 0 → k ≤ N → k = N) := fun k h1 h2 h3 => by omega
  have HN := hide hn
  clear hn
  go_enter Tryd.func66, Tryd.ntmps66
  go_wp2_with fail
  go_loopw [0] (fun v wr => ∃ k : Nat, n ≤ k ∧ k ≤ N ∧ v = .string (bq k (at8 s)) ∧ wr = w) (fun v _ => 5000 - (match v with | .string t => t.size | _ => 0))
  case atStart => exact ⟨n, Nat.le_refl _, hf1, by rw [← unhide HS], rfl⟩
  case round =>
    obtain ⟨k, hk1, hk2, rfl, rfl⟩ := hrel
    have hz := bq_size k (at8 s)
    by_cases hm : k % 16 = 0
    · have hkN := unhide HFN k hk1 hm hk2
      have h1 : ((k : Int) % 16 != 0) = false := by simp; omega
      have HK := hide hkN
      clear hm hkN
      generalize hb : bq k (at8 s) = t at *
      have HB := hide hb
      clear hb
      go_wp2
      go_ret
      exact ⟨by rw [← unhide HK, unhide HB]; rfl, rfl⟩
    · have h1 : ((k : Int) % 16 != 0) = true := by simp; omega
      have hkk : k + 1 ≤ N := by omega
      have ad := fun W : World => run_string_add_sum (P := Tryd.prog) (w := W) (bq k (at8 s)) ⟨#[0]⟩ (by rw [hz]; show k + 1 ≤ _; omega)
      have HB1 := hide (bq_zero k (at8 s) (unhide HZ k hk1))
      have hz2 := bq_size (k + 1) (at8 s)
      rw [← unhide HB1] at hz2
      generalize bq k (at8 s) ++ ⟨#[0]⟩ = t2 at *
      generalize bq k (at8 s) = t at *
      clear hm
      go_wp2
      exact ⟨⟨k + 1, by omega, hkk, by rw [unhide HB1], trivial⟩, by show 5000 - t2.size < 5000 - t.size; omega⟩
/-- the model's key that seals lies in a block -/
structure SM (w : World) (kb gk ok ck gt : Nat) (key : ByteArray) : Prop where
  c0 : w.cell? ⟨kb, 0, none⟩ = some (.slice (some ⟨gk, ok, none⟩) 176 ck)
  c1 : w.cell? ⟨kb, 1, none⟩ = some (.slice (some ⟨gt, 0, none⟩) 256 256)
  c2 : w.cell? ⟨kb, 2, none⟩ = some (.string (bq 16 (hkF key)))
  lt : kb < w.heap.size
  le : 176 ≤ ck
  ks : Ar w gk ok 176 (ks (at8 key))
  tb : Ar w gt 0 256 sub
theorem SM.keep {w w' : World} {kb gk ok ck gt : Nat} {key : ByteArray} (h : SM w kb gk ok ck gt key) (hb : Below w.heap.size w w') : SM w' kb gk ok ck gt key :=
  ⟨by rw [hb.cell (p := ⟨kb, 0, none⟩) h.lt]; exact h.c0, by rw [hb.cell (p := ⟨kb, 1, none⟩) h.lt]; exact h.c1, by rw [hb.cell (p := ⟨kb, 2, none⟩) h.lt]; exact h.c2, Nat.lt_of_lt_of_le h.lt hb.size, h.le, h.ks.below hb h.ks.lt, h.tb.below hb h.tb.lt⟩
set_option maxRecDepth 100000 in
set_option maxHeartbeats 1000000 in
theorem specKey5 (key : ByteArray) (hk : key.size = 16) (w : World) :
    Calls Tryd.prog 32 #[.string key] w fun e w' => ∃ kb gk ok ck gt, e = .returned (.pointer (some ⟨kb, 0, none⟩)) ∧ SM w' kb gk ok ck gt key ∧ Below w.heap.size w w' := by
  have H1 := hide (fun W => specKeys key hk W)
  have H2 := hide (fun W => specTable W)
  go_enter Tryd.func32, Tryd.ntmps32
  go_wp2_with fail
  refine (unhide H1 _).mono ?_
  rintro e w1 ⟨v, rfl, hsp, b1⟩
  obtain ⟨gk, ok, ck, rfl, hgk, hsg⟩ := hsp
  have K1 := hide hsg.ar
  have hkc := hsg.le
  have B1 := hide b1
  clear hsg b1
  go_wp2_with fail
  refine (unhide H2 _).mono ?_
  rintro e w2 ⟨gt, hgt, rfl, hA, b2⟩
  have K2 := hide ((unhide K1).below b2 (unhide K1).lt)
  have T2 := hide hA
  have B2 := hide ((unhide B1).trans (b2.mono (unhide B1).size))
  clear hA b2 K1 B1
  go_wp2_with fail
  have al := (Below.refl w2.heap.size w2).alloc (Nat.le_refl _) (.cells #[.slice (some ⟨gk, ok, none⟩) 176 ck, .slice (some ⟨gt, 0, none⟩) 256 256, .string ⟨#[]⟩] 95)
  have c0 : (w2.alloc (.cells #[.slice (some ⟨gk, ok, none⟩) 176 ck, .slice (some ⟨gt, 0, none⟩) 256 256, .string ⟨#[]⟩] 95)).cell? ⟨w2.heap.size, 0, none⟩ = some (.slice (some ⟨gk, ok, none⟩) 176 ck) := by simp
  have c1 : (w2.alloc (.cells #[.slice (some ⟨gk, ok, none⟩) 176 ck, .slice (some ⟨gt, 0, none⟩) 256 256, .string ⟨#[]⟩] 95)).cell? ⟨w2.heap.size, 1, none⟩ = some (.slice (some ⟨gt, 0, none⟩) 256 256) := by simp
  have c2 : (w2.alloc (.cells #[.slice (some ⟨gk, ok, none⟩) 176 ck, .slice (some ⟨gt, 0, none⟩) 256 256, .string ⟨#[]⟩] 95)).cell? ⟨w2.heap.size, 2, none⟩ = some (.string ⟨#[]⟩) := by simp
  have c3 : (w2.alloc (.cells #[.slice (some ⟨gk, ok, none⟩) 176 ck, .slice (some ⟨gt, 0, none⟩) 256 256, .string ⟨#[]⟩] 95)).frozen? ⟨w2.heap.size, 2, none⟩ = false := by simp
  have hzk : (w2.alloc (.cells #[.slice (some ⟨gk, ok, none⟩) 176 ck, .slice (some ⟨gt, 0, none⟩) 256 256, .string ⟨#[]⟩] 95)).heap.size = w2.heap.size + 1 := by simp
  have K3 := hide (((unhide K2).below al (unhide K2).lt).drew)
  have T3 := hide (((unhide T2).below al (unhide T2).lt).drew)
  have B3 := hide ((unhide B2).trans (al.mono (unhide B2).size)).drew
  have hkb : w.heap.size ≤ w2.heap.size := (unhide B2).size
  have hgk2 : gk < w2.heap.size := (unhide K2).lt
  have hgt2 : gt < w2.heap.size := (unhide T2).lt
  generalize w2.alloc (.cells #[.slice (some ⟨gk, ok, none⟩) 176 ck, .slice (some ⟨gt, 0, none⟩) 256 256, .string ⟨#[]⟩] 95) = W3 at al c0 c1 c2 c3 K3 T3 B3 hzk ⊢
  generalize w2.heap.size = kb at *
  have D0 : W3.drew.cell? ⟨kb, 0, none⟩ = some (.slice (some ⟨gk, ok, none⟩) 176 ck) ∧ W3.drew.cell? ⟨kb, 1, none⟩ = some (.slice (some ⟨gt, 0, none⟩) 256 256) := ⟨c0, c1⟩
  have D2 : W3.drew.cell? ⟨kb, 2, none⟩ = some (.string ⟨#[]⟩) ∧ W3.drew.frozen? ⟨kb, 2, none⟩ = false := ⟨c2, c3⟩
  have hzd : W3.drew.heap.size = kb + 1 := by rw [World.size_drew]; exact hzk
  clear al c0 c1 c2 c3 hzk K2 T2 B2
  refine wp_region_held_drew (S := fun V => V.cell? ⟨kb, 0, none⟩ = some (.slice (some ⟨gk, ok, none⟩) 176 ck) ∧ V.cell? ⟨kb, 1, none⟩ = some (.slice (some ⟨gt, 0, none⟩) 256 256)) (by kernel_rfl) D0 (fun hHeld => ?_)
  generalize W3.drew = V0 at *
  have KS : Hid (∀ V, Below V0.heap.size V0 V → V.cell? ⟨kb, 0, none⟩ = some (.slice (some ⟨gk, ok, none⟩) 176 ck) ∧ V.cell? ⟨kb, 1, none⟩ = some (.slice (some ⟨gt, 0, none⟩) 256 256)) := fun V hV => ⟨(hV.cell (p := ⟨kb, 0, none⟩) (show kb < _ by omega)).trans D0.1, (hV.cell (p := ⟨kb, 1, none⟩) (show kb < _ by omega)).trans D0.2⟩
  have mk0 : (Instr.makeSlice 22 (.int .i64 16) (.int .i64 16)).run Tryd.prog V0 = .ok (.slice (some ⟨V0.heap.size, 0, none⟩) 16 16) (V0.alloc (.cells (us 16 fun _ => 0).toArray 5)) := mk_bytes 16 (by omega) V0
  have al := (Below.refl V0.heap.size V0).alloc (Nat.le_refl _) (.cells (us 16 fun _ => 0).toArray 5)
  have hst := ar_string (Ar.new V0 16 (fun _ => 0) 5) (fun _ _ => by omega) 16
  rw [hzd] at hst
  refine wpAnyH_take (i := 0) (v := ?_) rfl (by kernel_rfl) (by kernel_rfl) (by kernel_rfl) (fun _ _ _ h => h) (Or.inl ⟨by rfl, ?_⟩) hHeld ?_
  rotate_left
  · intro V hSw; go_simp; rfl
  simp only [Act.put, List.getElem_toArray, List.getElem_cons_zero, List.setIfInBounds_toArray, List.set_cons_zero, List.set_cons_succ]
  refine wpAnyH_take (i := 1) (v := ?_) rfl (by kernel_rfl) (by kernel_rfl) (by kernel_rfl) (fun _ _ _ h => h) (Or.inl ⟨by rfl, ?_⟩) hHeld ?_
  rotate_left
  · intro V hSw; go_simp; rfl
  simp only [Act.put, List.getElem_toArray, List.getElem_cons_succ, List.getElem_cons_zero, List.setIfInBounds_toArray, List.set_cons_zero, List.set_cons_succ]
  refine wpAnyH_take (i := 2) (v := ?_) rfl (by kernel_rfl) (by kernel_rfl) (by kernel_rfl) (fun _ _ _ h => h) (Or.inl ⟨by rfl, ?_⟩) hHeld ?_
  rotate_left
  · intro V hSw; go_simp; rfl
  simp only [Act.put, List.getElem_toArray, List.getElem_cons_succ, List.getElem_cons_zero, List.setIfInBounds_toArray, List.set_cons_zero, List.set_cons_succ]
  refine wpAnyH_take (i := 3) (v := ?_) rfl (by kernel_rfl) (by kernel_rfl) (by kernel_rfl) (fun _ _ _ h => h) (Or.inl ⟨by rfl, ?_⟩) hHeld ?_
  rotate_left
  · intro V hSw; go_simp; rfl
  simp only [Act.put, List.getElem_toArray, List.getElem_cons_succ, List.getElem_cons_zero, List.setIfInBounds_toArray, List.set_cons_zero, List.set_cons_succ]
  refine wpAnyH_take (i := 4) (v := ?_) rfl (by kernel_rfl) (by kernel_rfl) (by kernel_rfl) (fun _ _ _ h => h) (Or.inl ⟨by rfl, ?_⟩) hHeld ?_
  rotate_left
  · intro V hSw; go_simp; rfl
  simp only [Act.put, List.getElem_toArray, List.getElem_cons_succ, List.getElem_cons_zero, List.setIfInBounds_toArray, List.set_cons_zero, List.set_cons_succ]
  refine wpAnyH_take (i := 5) (v := ?_) rfl (by kernel_rfl) (by kernel_rfl) (by kernel_rfl) (fun _ _ _ h => h) (Or.inl ⟨by rfl, ?_⟩) hHeld ?_
  rotate_left
  · intro V hSw; go_simp; rfl
  simp only [Act.put, List.getElem_toArray, List.getElem_cons_succ, List.getElem_cons_zero, List.setIfInBounds_toArray, List.set_cons_zero, List.set_cons_succ]
  refine wpAnyH_take (i := 6) (v := ?_) rfl (by kernel_rfl) (by kernel_rfl) (by kernel_rfl) (fun _ _ _ h => h) (Or.inl ⟨by rfl, ?_⟩) hHeld ?_
  rotate_left
  · intro V hSw; go_simp; rfl
  simp only [Act.put, List.getElem_toArray, List.getElem_cons_succ, List.getElem_cons_zero, List.setIfInBounds_toArray, List.set_cons_zero, List.set_cons_succ]
  refine wpAnyH_take (i := 7) (v := ?_) rfl (by kernel_rfl) (by kernel_rfl) (by kernel_rfl) (fun _ _ _ h => h) (Or.inl ⟨by rfl, ?_⟩) hHeld ?_
  rotate_left
  · intro V hSw; go_simp; rfl
  simp only [Act.put, List.getElem_toArray, List.getElem_cons_succ, List.getElem_cons_zero, List.setIfInBounds_toArray, List.set_cons_zero, List.set_cons_succ]
  refine wpAnyH_take (i := 8) (v := ?_) rfl (by kernel_rfl) (by kernel_rfl) (by kernel_rfl) (fun _ _ _ h => h) (Or.inl ⟨by rfl, ?_⟩) hHeld ?_
  rotate_left
  · intro V hSw; go_simp; rfl
  simp only [Act.put, List.getElem_toArray, List.getElem_cons_succ, List.getElem_cons_zero, List.setIfInBounds_toArray, List.set_cons_zero, List.set_cons_succ]
  refine wpAnyH_ready (rs := [9]) (by kernel_rfl) (by simp) ?_
  refine AllReadyH.cons rfl (fun K hK => ?_) AllReadyH.nil
  go_simp
  refine hK.out _ _ (unhide KS _ al) (fun hHeld => ?_)
  clear hK K
  try simp only [Act.put, List.getElem_toArray, List.getElem_cons_succ, List.getElem_cons_zero, List.setIfInBounds_toArray, List.set_cons_zero, List.set_cons_succ]
  have HW := hide (specWith gk ok ck gt 256 (at8 key) (bq 16 (fun _ => 0)) (at8_lt key) (bq_size _ _) hkc (V0.alloc (.cells (us 16 fun _ => 0).toArray 5)) ((unhide K3).below al (unhide K3).lt) ((unhide T3).below al (unhide T3).lt))
  have AL := hide al
  clear al mk0
  generalize V0.alloc (.cells (us 16 fun _ => 0).toArray 5) = V1 at HW AL hst hHeld ⊢
  refine wpAnyH_ready (rs := [10]) (by kernel_rfl) (by simp) ?_
  refine AllReadyH.cons rfl (fun K hK => ?_) AllReadyH.nil
  go_simp
  refine hK.out _ _ (hHeld) (fun hHeld => ?_)
  clear hK K
  try simp only [Act.put, List.getElem_toArray, List.getElem_cons_succ, List.getElem_cons_zero, List.setIfInBounds_toArray, List.set_cons_zero, List.set_cons_succ]
  refine wpAnyH_ready (rs := [11]) (by kernel_rfl) (by simp) ?_
  refine AllReadyH.cons rfl (fun K hK => ?_) AllReadyH.nil
  go_simp
  go_at_call 50
  refine (unhide HW).mono ?_
  rintro e w4 ⟨rfl, b4⟩
  have B4 := (unhide AL).trans (b4.mono (unhide AL).size)
  refine hK.out _ _ (unhide KS _ B4) (fun hHeld => ?_)
  clear hK K
  try simp only [Act.put, List.getElem_toArray, List.getElem_cons_succ, List.getElem_cons_zero, List.setIfInBounds_toArray, List.set_cons_zero, List.set_cons_succ]
  refine wpAnyH_take (i := 12) (v := ?_) rfl (by kernel_rfl) (by kernel_rfl) (by kernel_rfl) (fun _ _ _ h => h) (Or.inl ⟨by rfl, ?_⟩) hHeld ?_
  rotate_left
  · intro V hSw; go_simp; rfl
  simp only [Act.put, List.getElem_toArray, List.getElem_cons_succ, List.getElem_cons_zero, List.setIfInBounds_toArray, List.set_cons_zero, List.set_cons_succ]
  refine wpAnyH_take (i := 13) (v := ?_) rfl (by kernel_rfl) (by kernel_rfl) (by kernel_rfl) (fun _ _ _ h => h) (Or.inl ⟨by rfl, ?_⟩) hHeld ?_
  rotate_left
  · intro V hSw; go_simp; rfl
  simp only [Act.put, List.getElem_toArray, List.getElem_cons_succ, List.getElem_cons_zero, List.setIfInBounds_toArray, List.set_cons_zero, List.set_cons_succ]
  have k2 := (B4.cell (p := ⟨kb, 2, none⟩) (show kb < _ by omega)).trans D2.1
  have k3 := (B4.frozen (p := ⟨kb, 2, none⟩) (show kb < _ by omega)).trans D2.2
  refine wpAnyH_ready (rs := [14]) (by kernel_rfl) (by simp) ?_
  refine AllReadyH.cons rfl (fun K hK => ?_) AllReadyH.nil
  go_simp
  have eh : bq 16 (fw (rk (at8 key)) (at8 (bq 16 fun _ => 0)) 10) = bq 16 (hkF key) := bq_congr (fun i hi => fw_congr _ _ _ (fun j hj => at8_bq 16 (fun _ => 0) j hj (by omega)) 10 i hi)
  rw [eh]
  have S6 : SM (w4.setCell ⟨kb, 2, none⟩ (.string (bq 16 (hkF key)))) kb gk ok ck gt key := by
    obtain ⟨z0, z1⟩ := unhide KS _ B4
    refine ⟨?_, ?_, World.cell?_setCell_same _ _ _ k2, ?_, hkc, ?_, ?_⟩
    · rw [World.cell?_setCell_other _ _ _ _ (by intro e; simp at e)]; exact z0
    · rw [World.cell?_setCell_other _ _ _ _ (by intro e; simp at e)]; exact z1
    · have := B4.size
      simp only [World.setCell, Array.size_modify]
      omega
    · exact ((unhide K3).below B4 (unhide K3).lt).other (a := ⟨kb, 2, none⟩) (by show kb ≠ gk; omega)
    · exact ((unhide T3).below B4 (unhide T3).lt).other (a := ⟨kb, 2, none⟩) (by show kb ≠ gt; omega)
  have B6 := (((unhide B3).trans (B4.mono (unhide B3).size)).setCell (p := ⟨kb, 2, none⟩) hkb (.string (bq 16 (hkF key))))
  refine hK.out _ _ ⟨S6.c0, S6.c1⟩ (fun hHeld => ?_)
  clear hK K
  try simp only [Act.put, List.getElem_toArray, List.getElem_cons_succ, List.getElem_cons_zero, List.setIfInBounds_toArray, List.set_cons_zero, List.set_cons_succ]
  refine wpAnyH_done (by kernel_rfl) ?_ _
  generalize w4.setCell ⟨kb, 2, none⟩ (.string (bq 16 (hkF key))) = W7 at S6 B6 ⊢
  have HS := hide S6
  have HB := hide B6
  clear hHeld S6 B6 k2 k3 B4 b4 D0 D2
  go_wp2
  go_ret
  exact ⟨kb, gk, ok, ck, gt, rfl, unhide HS, unhide HB⟩
end Go.Proofs.YtgjohakjknmngaaDoor
