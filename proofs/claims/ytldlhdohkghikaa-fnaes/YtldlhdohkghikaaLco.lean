/-
  Contracts: the model's texts that are counted.
-/
import Derived.Test.YtldlhdohkghikaaLbl
import Derived.Test.YtldlhdohkghikaaAco
import Derived.Test.YtldlhdohkghikaaLbi
import Derived.Deep.AppendLies
namespace Go.Proofs.Ytldlhdohkghikaa
open Go.ChangeShapes Go.WideShapes Go.ChangeAt Go.RowKit
set_option linter.unusedVariables false

theorem byV_int (n k : Nat) : ((byV n k : Nat) : Int) = (n : Int) / 2 ^ (8 * k) % 256 := by
  unfold byV
  rw [show (256 : Nat) ^ k = 2 ^ (8 * k) by rw [Nat.pow_mul]]
  simp
set_option maxRecDepth 100000 in
set_option maxHeartbeats 1000000 in
theorem specFix4 (n : Nat) (hn : n < 4294967296) (w : World) :
    Calls Try.prog 47 #[.int .i64 n, .int .i64 4] w fun e w' => e = .returned (.string (bq 4 (fun i => byV n (3 - i)))) ∧ Below w.heap.size w w' := by
  obtain ⟨i0, hi0, hz0, hz1, hz2⟩ := info_u8i
  have HL := hide (fun i => byV_lt n (3 - i))
  go_enter Try.func47, Try.ntmps47
  go_wp2_with fail
  go_loopw [5, 6] (fun v kv wr => ∃ i : Nat, i ≤ 4 ∧ kv = .int .i64 (3 - (i : Int)) ∧ Ob w.heap.size wr v i (fun i => byV n (3 - i)) ∧ Below w.heap.size w wr) (fun _ kv _ => (intOf kv + 1).toNat)
  case atStart => exact ⟨0, by omega, rfl, Ob.nil _ _ _, Below.refl _ _⟩
  case round =>
    obtain ⟨i, hi, rfl, hO, hB⟩ := hrel
    by_cases hlt : i < 4
    · obtain ⟨k, hk⟩ : ∃ k : Nat, k = 3 - i := ⟨_, rfl⟩
      have hkI : 3 - (i : Int) = (k : Int) := by omega
      rw [hkI]
      have hk4 : k < 4 := by omega
      have hbs := hB.size
      have eI := byV_int n k
      have al := (Below.refl wr.heap.size wr).alloc (Nat.le_refl _) (.cells #[.int .u8 ((n : Int) / 2 ^ (8 * k) % 256)] 5)
      have hN : Ar (wr.alloc (.cells #[.int .u8 ((n : Int) / 2 ^ (8 * k) % 256)] 5)) wr.heap.size 0 1 (fun _ => byV n k) := by
        have h9 := Ar.new wr 1 (fun _ => byV n k) 5
        have e9 : (us 1 (fun _ => byV n k)).toArray = #[.int .u8 ((n : Int) / 2 ^ (8 * k) % 256)] := by
          rw [us_def]
          show #[Value.int .u8 ((byV n k : Nat) : Int)] = _
          rw [eI]
        rw [e9] at h9
        exact h9
      have O3 := hide (hO.kept al)
      have B3 := hide (hB.trans (al.mono hbs))
      have hnew : Hid (∀ j u, (us 1 (fun _ => byV n k))[j]? = some u → (wr.alloc (.cells #[.int .u8 ((n : Int) / 2 ^ (8 * k) % 256)] 5)).cell? ((⟨wr.heap.size, 0, none⟩ : Addr).add j) = some u) := fun j u hu => by rw [Addr.add_mid]; exact hN.range j u hu
      have hone := hide (us_oneL 1 (fun _ => byV n k))
      have hz3 : (wr.alloc (.cells #[.int .u8 ((n : Int) / 2 ^ (8 * k) % 256)] 5)).heap.size = wr.heap.size + 1 := by simp
      have HK := hide (And.intro hk hkI)
      clear al hN hO hB hk hkI eI
      go_wp2_with (at_builtin; refine wpList_append_lies _ rfl _ _ 22 rfl w.heap.size 5 i0 (.int .u8 0) 1 1 Try.underlying22 hi0 hz0 hz1 hz2 rfl (by decide) _ _ _ rfl (unhide O3) ⟨wr.heap.size, 0, none⟩ 1 1 (us 1 (fun _ => byV n k)) rfl ?c0 (unhide hnew) (unhide hone) (by omega) ?c3 ?c4 ?c5 (wr.heap.size + 1) ?c6 ?_)
      case c0 => rw [us_length]
      case c3 => unfold maxLen; omega
      case c4 => omega
      case c5 => omega
      case c6 => exact hz3
      intro g8 cap8 w8 hown hgrow hat hlt8
      rw [show us 1 (fun _ => byV n k) = us 1 (fun j => (fun i => byV n (3 - i)) (i + j)) from us_congr fun j hj => by obtain rfl : j = 0 := (by omega); rw [(unhide HK).1]; rfl] at hown
      have O8 := hide (Ob.grow hown)
      have b8 := Ob.below (unhide O3) hgrow (by rw [hz3]; omega)
      have B8 := hide ((unhide B3).trans b8)
      clear hown hgrow hat b8 O3 B3 hnew hone
      go_wp2
      exact ⟨⟨i + 1, by omega, by have := (unhide HK).2; congr 1; omega, unhide O8, unhide B8⟩, by simp [intOf]⟩
    · obtain rfl : i = 4 := by omega
      have hst := hO.string (fun i _ => unhide HL i)
      have B9 := hide hB
      clear hO hB
      go_wp2
      go_ret
      exact ⟨rfl, unhide B9⟩
theorem fw_congr (K : Nat → Nat → Nat) (f g : Nat → Nat) (h : ∀ i, i < 16 → f i = g i) : ∀ n i, i < 16 → fw K f n i = fw K g n i
  | 0, i, hi => by
    show f i ^^^ K 0 i = g i ^^^ K 0 i
    rw [h i hi]
  | n + 1, i, hi => by
    have e : sbs (fw K f n) = sbs (fw K g n) := funext fun j => by
      unfold sbs pts
      rw [fw_congr K f g h n _ (Nat.mod_lt _ (by omega))]
    show rnd K (n + 1) (fw K f n) i = rnd K (n + 1) (fw K g n) i
    unfold rnd
    rw [e]
theorem nbW_nb4 (s : ByteArray) (hs : s.size = 16) : nbW (s.extract 12 16) 4 = nb4 (at8 s) := by
  have h : ∀ i, i < 4 → at8 (s.extract 12 16) i = at8 s (12 + i) := fun i hi => at8_extract s 12 16 i (by omega) (by omega)
  show (((0 * 256 + at8 (s.extract 12 16) 0) * 256 + at8 (s.extract 12 16) 1) * 256 + at8 (s.extract 12 16) 2) * 256 + at8 (s.extract 12 16) 3 = _
  rw [h 0 (by omega), h 1 (by omega), h 2 (by omega), h 3 (by omega)]
  show (((0 * 256 + at8 s 12) * 256 + at8 s 13) * 256 + at8 s 14) * 256 + at8 s 15 = _
  unfold nb4
  omega
theorem at8_append (a b : ByteArray) (i : Nat) : at8 (a ++ b) i = if i < a.size then at8 a i else at8 b (i - a.size) := by
  unfold at8
  by_cases h : i < a.size
  · rw [if_pos h, dif_pos h, dif_pos (by rw [ByteArray.size_append]; omega), ByteArray.getElem_append_left h]
  · rw [if_neg h]
    by_cases h2 : i - a.size < b.size
    · rw [dif_pos h2, dif_pos (by rw [ByteArray.size_append]; omega), ByteArray.getElem_append_right (by omega)]
    · rw [dif_neg h2, dif_neg (by rw [ByteArray.size_append]; omega)]
theorem byV_mod (x k : Nat) (hk : k < 4) : byV (x % 4294967296) k = byV x k := by
  have h : k = 0 ∨ k = 1 ∨ k = 2 ∨ k = 3 := by omega
  unfold byV
  rcases h with h | h | h | h <;> rw [h] <;> omega
theorem cb_size (s : ByteArray) (hs : s.size = 16) (n : Nat) : (s.extract 0 12 ++ bq 4 (fun i => byV n (3 - i))).size = 16 := by
  rw [ByteArray.size_append, bq_size, ByteArray.size_extract]
  omega
theorem cb_at (s : ByteArray) (hs : s.size = 16) (j i : Nat) (hi : i < 16) : at8 (s.extract 0 12 ++ bq 4 (fun i => byV ((nb4 (at8 s) + j) % 4294967296) (3 - i))) i = plB (at8 s) j i := by
  have hz : (s.extract 0 12).size = 12 := by rw [ByteArray.size_extract]; omega
  rw [at8_append, hz]
  unfold plB
  by_cases e : i < 12
  · rw [if_pos e, if_pos e, at8_extract s 0 12 i (by omega) (by omega), Nat.zero_add]
  · rw [if_neg e, if_neg e, at8_bq 4 (fun i => byV ((nb4 (at8 s) + j) % 4294967296) (3 - i)) (i - 12) (by omega) (byV_lt _ _), show 3 - (i - 12) = 15 - i by omega]
    exact byV_mod _ _ (by omega)
theorem Ob.push {base : Nat} {w : World} {v : Value} {n : Nat} {f : Nat → Nat} (h : Ob base w v n f) (x : Int) (hx : x = (f n : Nat)) (hn : n ≤ 100000) (hb : base ≤ w.heap.size) :
    ∃ g cap w', (Builtin.append_ #[22, 22] 22 #[v, .slice (some ⟨w.heap.size, 0, none⟩) 1 1]).run Try.prog (w.alloc (.cells #[.int .u8 x] 5)) = .ok (.slice (some ⟨g, 0, none⟩) (n + 1) cap) w' ∧
      Ob base w' (.slice (some ⟨g, 0, none⟩) (n + 1) cap) (n + 1) f ∧ Below base w w' := by
  obtain ⟨i0, hi0, hz0, hz1, hz2⟩ := info_u8i
  have al := (Below.refl w.heap.size w).alloc (Nat.le_refl _) (.cells #[.int .u8 x] 5)
  have O3 := h.kept al
  have hN := Ar.new w 1 (fun j => f (n + j)) 5
  have e9 : (us 1 (fun j => f (n + j))).toArray = #[.int .u8 x] := by
    rw [us_def, hx]
    rfl
  rw [e9] at hN
  obtain ⟨g, cap, w', h1, h2, h3, h4, h5⟩ := run_append_lies (P := Try.prog) (w.alloc (.cells #[.int .u8 x] 5)) 22 22 base 5 i0 (.int .u8 0) 1 1 Try.underlying22 hi0 hz0 hz1 hz2 rfl (by decide) v n _ O3 ⟨w.heap.size, 0, none⟩ 1 1 (us 1 (fun j => f (n + j))) (by rw [us_length]) (fun j u hu => by rw [Addr.add_mid]; exact hN.range j u hu) (us_oneL _ _) (by omega) (by unfold maxLen; omega) (by omega) (by rw [World.size_alloc]; omega) _ rfl
  exact ⟨g, cap, w', h1, Ob.grow h2, (al.mono hb).trans (Ob.below O3 h3 (by rw [World.size_alloc]; omega))⟩
set_option maxRecDepth 100000 in
set_option maxHeartbeats 1000000 in
theorem specCounter (k s t : ByteArray) (hk : k.size = 16) (hs : s.size = 16) (ht : t.size ≤ 1500) (w : World) :
    Calls Try.prog 29 #[.string k, .string s, .string t] w fun e w' => e = .returned (.string (ctW k s t)) ∧ Below w.heap.size w w' := by
  have H1 := hide (fun W => specKeys k hk W)
  have H2 := hide (fun W => specTable W)
  have HB4 := specBig4 (s.extract 12 16) (by rw [ByteArray.size_extract]; omega)
  rw [nbW_nb4 s hs] at HB4
  have H3 := hide HB4
  have hm := nbW_lt (s.extract 12 16) 4
  rw [nbW_nb4 s hs] at hm
  have HCB := hide (fun j i (hi : i < 16) => cb_at s hs j i hi)
  have HCS := hide (fun n => cb_size s hs n)
  have hF : ∀ i, (fun i => at8 t i ^^^ cvW (rk (at8 k)) (at8 s) i) i = at8 t i ^^^ fw (rk (at8 k)) (plB (at8 s) (i / 16)) 10 (i % 16) := fun i => rfl
  unfold ctW
  generalize (fun i => at8 t i ^^^ cvW (rk (at8 k)) (at8 s) i) = F at hF ⊢
  have HL : Hid (∀ i, F i < 256) := fun i => by
    rw [hF]
    exact xor_lt _ _ (at8_lt t i) (fw_lt (rk (at8 k)) _ (fun n i => rk_lt (at8 k) (at8_lt k) n i) (plB_lt _ (at8_lt s) _) 10 _)
  have HF := hide hF
  clear hF HB4
  generalize nb4 (at8 s) = m at *
  have hm : m < 4294967296 := by omega
  go_enter Try.func29, Try.ntmps29
  go_wp2_with fail
  refine (unhide H1 _).mono ?_
  rintro e w1 ⟨v, rfl, hsp, b1⟩
  obtain ⟨gk, ok, ck, rfl, hgk, hsg⟩ := hsp
  have K1 := hide hsg.ar
  have hkc := hsg.le
  have B1 := hide b1
  clear hsg b1
  go_wp2_with fail
  refine (unhide H2 _).mono ?_
  rintro e w2 ⟨gt, hgt, rfl, hA, b2⟩
  have K2 := hide ((unhide K1).below b2 (unhide K1).lt)
  have T2 := hide hA
  have B2 := hide ((unhide B1).trans (b2.mono (unhide B1).size))
  clear hA b2 K1 B1
  go_wp2_with fail
  refine (unhide H3 _).mono ?_
  rintro e w2 ⟨rfl, rfl⟩
  have hkl : gk < w2.heap.size := (unhide K2).lt
  have htl : gt < w2.heap.size := (unhide T2).lt
  have hw : IntKind.u32.wrap (m : Int) = (m : Int) := by simp [IntKind.wrap, IntKind.signed, IntKind.bits]; omega
  go_wp2_with fail
  go_loopw [9, 10, 11] (fun nv v av wr => ∃ j a n : Nat, n = (m + j) % 4294967296 ∧ a = 16 * j ∧ j ≤ (t.size + 15) / 16 ∧ nv = .int .u32 (n : Nat) ∧ av = .int .i64 (a : Nat) ∧ Ob w2.heap.size wr v (min a t.size) F ∧ Below w2.heap.size w2 wr) (fun _ _ av _ => 20000 - (intOf av).toNat)
  case atStart => exact ⟨0, 0, m, by omega, rfl, by omega, rfl, rfl, by rw [Nat.zero_min]; exact Ob.nil _ _ _, Below.refl _ _⟩
  case round =>
    obtain ⟨j, a, n, hn, ha, hj, rfl, rfl, hO, hB⟩ := hrel
    by_cases hlt : a < t.size
    · rw [Nat.min_eq_left (by omega)] at hO
      have hn32 : n < 4294967296 := by omega
      have HC1 := unhide HCB j
      rw [← hn] at HC1
      have HXS := unhide HCS n
      have HN := hide hn
      have HX : Hid (∀ i, i < 16 → at8 (bq 16 (fw (rk (at8 k)) (at8 (s.extract 0 12 ++ bq 4 fun i => byV n (3 - i))) 10)) i < 256 ∧ F (a + i) = at8 t (a + i) ^^^ at8 (bq 16 (fw (rk (at8 k)) (at8 (s.extract 0 12 ++ bq 4 fun i => byV n (3 - i))) 10)) i) := fun i hi => by
        refine ⟨at8_lt _ _, ?_⟩
        rw [unhide HF, at8_bq 16 _ i hi (fw_lt (rk (at8 k)) _ (fun n i => rk_lt (at8 k) (at8_lt k) n i) (at8_lt _) 10 _), fw_congr _ _ _ HC1 10 i hi, show (a + i) / 16 = j by omega, show (a + i) % 16 = i by omega]
      have HXZ := hide (bq_size 16 (fw (rk (at8 k)) (at8 (s.extract 0 12 ++ bq 4 fun i => byV n (3 - i))) 10))
      have HWI := hide (fun W (hK : Ar W gk ok 176 (ks (at8 k))) (hT : Ar W gt 0 256 sub) => specWith gk ok ck gt 256 (at8 k) _ (at8_lt k) HXS hkc W hK hT)
      have HF4 := hide (fun W => specFix4 n hn32 W)
      have K3 := hide (((unhide K2).below hB hkl).drew)
      have T3 := hide (((unhide T2).below hB htl).drew)
      have O3 := hide (hO.kept (Below.refl _ _).drew)
      have B3 := hide hB.drew
      have hs3 : w2.heap.size ≤ wr.heap.size := hB.size
      have hz3 := World.size_drew wr
      have wn : IntKind.i64.wrap (n : Int) = (n : Int) := wraps_i64 _ (by omega) (by omega)
      have HA := hide (And.intro ha hj)
      have ad1 := fun W : World => run_string_add_sum (P := Try.prog) (w := W) (s.extract 0 12) (bq 4 fun i => byV n (3 - i)) (by rw [bq_size, ByteArray.size_extract]; omega)
      clear hn HC1 HXS hO hB ha hj
      generalize bq 16 (fw (rk (at8 k)) (at8 (s.extract 0 12 ++ bq 4 fun i => byV n (3 - i))) 10) = bs at *
      generalize (s.extract 0 12 ++ bq 4 fun i => byV n (3 - i)) = X at HWI ad1
      generalize (bq 4 fun i => byV n (3 - i)) = b4 at HF4 ad1
      go_wp2_with fail
      go_region_with (first
        | (go_at_call 47; with_reducible refine (unhide HF4 _).mono ?_; rintro e w5 ⟨rfl, b5⟩)
        | (go_at_call 39; with_reducible refine (unhide HWI _ ((unhide K3).below b5 (unhide K3).lt) ((unhide T3).below b5 (unhide T3).lt)).mono ?_; rintro e w6 ⟨rfl, b6⟩))
      have O6 := hide ((unhide O3).kept (b5.trans (b6.mono b5.size)))
      have B6 := hide ((unhide B3).trans (b5.trans (b6.mono b5.size) |>.mono (unhide B3).size))
      have hbz := unhide HXZ
      clear HWI HF4 K3 T3 O3 B3 b5 b6 ad1 H1 H2 H3 HCB HCS
      go_wp2_with fail
      go_loopw [10, 13] (fun v iv wx => ∃ i : Nat, i ≤ 16 ∧ a + i ≤ t.size ∧ iv = .int .i64 (i : Nat) ∧ Ob w2.heap.size wx v (a + i) F ∧ Below w2.heap.size w2 wx) (fun _ iv _ => 20 - (intOf iv).toNat)
      case atStart => exact ⟨0, by omega, by omega, rfl, unhide O6, unhide B6⟩
      case round =>
        obtain ⟨i, hi, hat, rfl, hO, hB⟩ := hrel
        clear O6 B6
        by_cases hc : i < 16 ∧ a + i < t.size
        · obtain ⟨hi16, hit⟩ := hc
          obtain ⟨p, hp⟩ : ∃ p : Nat, p = a + i := ⟨_, rfl⟩
          obtain ⟨hx1, hx2⟩ := unhide HX i hi16
          rw [← hp] at hO hx2 hit
          have e1 := xorI (at8 t p) (at8 bs i) (at8_lt t p) hx1
          rw [← hx2, at8_in t p hit, at8_in bs i (by omega)] at e1
          have hs5 : w2.heap.size ≤ wr.drew.heap.size := by rw [World.size_drew]; exact hB.size
          obtain ⟨g8, cap8, w8, hrun, hO8, hB8⟩ := (hO.kept (Below.refl _ _).drew).push _ e1 (by omega) hs5
          rw [World.size_drew] at hrun
          have RUN := hide hrun
          have O8 := hide hO8
          have B8 := hide ((hB.drew).trans hB8)
          have HP := hide hp
          have w1 : IntKind.i64.wrap ((a : Int) + (i : Int)) = (p : Int) := by rw [show (a : Int) + (i : Int) = (p : Int) by omega]; exact wraps_i64 _ (by omega) (by omega)
          have n1 : (0 : Int) ≤ (p : Int) ∧ (p : Int) < (t.size : Int) := by omega
          have n2 : (0 : Int) ≤ (i : Int) ∧ (i : Int) < (bs.size : Int) := by omega
          have n3 : (a : Int) + (i : Int) < (t.size : Int) := by omega
          clear hrun hO8 hB8 hO hB hp hx1 hx2 e1
          go_wp2_with fail
          go_region_held3 (fun _ => True) (trivial) (first | (refine step_append_run rfl (.tmp 48) (.tmp 58) 22 rfl _ _ _ w8 rfl rfl (unhide RUN) ?_))
          all_goals
            clear RUN
            go_wp2
            exact ⟨⟨i + 1, by omega, by have := unhide HP; omega, by go_num, by rw [show a + (i + 1) = p + 1 by have := unhide HP; omega]; exact unhide O8, unhide B8⟩, by simp [intOf]; omega⟩
        · have O9 : Hid (Ob w2.heap.size wr u10 (min (a + 16) t.size) F) := (show min (a + 16) t.size = a + i by omega) ▸ hO
          have B9 := hide hB
          obtain ⟨n', hn'⟩ : ∃ n' : Nat, n' = (m + (j + 1)) % 4294967296 := ⟨_, rfl⟩
          have hwn : IntKind.u32.wrap ((n : Int) + 1) = (n' : Int) := by
            have := unhide HN
            simp [IntKind.wrap, IntKind.signed, IntKind.bits]
            omega
          have HN' := hide hn'
          clear hO hB hn'
          by_cases h16 : i < 16
          · have n3 : ¬ (a : Int) + (i : Int) < (t.size : Int) := by omega
            go_wp2
            exact ⟨⟨j + 1, a + 16, n', unhide HN', by have := unhide HA; omega, by have := unhide HA; omega, rfl, by go_num, unhide O9, unhide B9⟩, by simp [intOf]; omega⟩
          · obtain rfl : i = 16 := by omega
            go_wp2
            exact ⟨⟨j + 1, a + 16, n', unhide HN', by have := unhide HA; omega, by have := unhide HA; omega, rfl, by go_num, unhide O9, unhide B9⟩, by simp [intOf]; omega⟩
    · have hj2 : min a t.size = t.size := by omega
      rw [hj2] at hO
      have hst := hO.string (fun i _ => unhide HL i)
      have B9 := hide ((unhide B2).trans (hB.mono (unhide B2).size))
      clear hO hB
      go_wp2
      go_ret
      exact ⟨rfl, unhide B9⟩
end Go.Proofs.Ytldlhdohkghikaa
