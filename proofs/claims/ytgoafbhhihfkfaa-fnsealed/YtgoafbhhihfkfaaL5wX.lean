/-
  Contracts: the model's blocks as two words. Contracts: the model's products of blocks. Contracts: the model's product of two blocks.
-/
import Derived.Test.YtgoafbhhihfkfaaLbi
import Derived.Test.YtgoafbhhihfkfaaArrX
import Derived.Laws.Concat
namespace Go.Proofs.Ytgoafbhhihfkfaa
open Go.ChangeShapes Go.WideShapes Go.ChangeAt Go.RowKit
set_option linter.unusedVariables false

theorem orW (n c : Nat) (hn : n < 72057594037927936) (hc : c < 256) : bits .or .i64 (IntKind.i64.wrap ((n : Int) * 256)) (c : Int) = IntKind.i64.wrap ((n * 256 + c : Nat) : Int) := by
  have h1 := Nat.two_pow_add_eq_or_of_lt (i := 8) (b := c) (by omega) n
  show IntKind.i64.wrap (((BitVec.ofInt 64 (IntKind.i64.wrap ((n : Int) * 256)) ||| BitVec.ofInt 64 (c : Int)).toNat : Nat) : Int) = _
  have e1 : (BitVec.ofInt 64 (IntKind.i64.wrap ((n : Int) * 256))).toNat = 2 ^ 8 * n := by
    rw [BitVec.toNat_ofInt, IntKind.wrap_i64]
    omega
  have e2 : (BitVec.ofInt 64 (c : Int)).toNat = c := by
    rw [BitVec.toNat_ofInt]
    omega
  rw [BitVec.toNat_or, e1, e2, ← h1, Nat.mul_comm n 256]
theorem wrap64_i (z : Int) : wrap64 z = IntKind.i64.wrap z := by rw [IntKind.wrap_i64]; unfold wrap64; omega
/-- the byte k of a word -/
def byN (v k : Nat) : Nat := v / 256 ^ k % 256
theorem byN_lt (v k : Nat) : byN v k < 256 := Nat.mod_lt _ (by omega)
theorem byN_int (h k : Nat) (hh : h < 18446744073709551616) (hk : k < 8) : ((byN h k : Nat) : Int) = IntKind.i64.wrap (h : Int) / 2 ^ (8 * k) % 256 := by
  have e : k = 0 ∨ k = 1 ∨ k = 2 ∨ k = 3 ∨ k = 4 ∨ k = 5 ∨ k = 6 ∨ k = 7 := by omega
  rw [IntKind.wrap_i64]
  unfold byN
  rcases e with rfl | rfl | rfl | rfl | rfl | rfl | rfl | rfl <;> simp <;> omega
set_option maxRecDepth 100000 in
set_option maxHeartbeats 1000000 in
theorem specBig8 (s : ByteArray) (hs : s.size = 8) (w : World) :
    Calls Try.prog 53 #[.string s] w fun e w' => e = .returned (.int .i64 (IntKind.i64.wrap (nbW s 8 : Nat))) ∧ w' = w := by
  go_enter Try.func53, Try.ntmps53
  go_wp2_with fail
  go_loopw [3, 4] (fun n i wr => ∃ k : Nat, k ≤ 8 ∧ i = .int .i64 k ∧ n = .int .i64 (IntKind.i64.wrap (nbW s k : Nat)) ∧ wr = w) (fun _ i _ => 8 - (intOf i).toNat)
  case atStart => exact ⟨0, by omega, rfl, rfl, rfl⟩
  case round =>
    obtain ⟨k, hk, rfl, rfl, rfl⟩ := hrel
    by_cases hlt : k < 8
    · have hn := nbW_lt s k
      have h4 : 256 ^ k ≤ 256 ^ 7 := Nat.pow_le_pow_right (by omega) (by omega)
      have HS : Hid (nbW s (k + 1) = nbW s k * 256 + at8 s k) := rfl
      have hb : nbW s k < 72057594037927936 := by omega
      have ha := at8_lt s k
      have EO := hide (orW (nbW s k) (at8 s k) hb ha)
      have hw0 : IntKind.i64.wrap (nbW s k : Nat) = ((nbW s k : Nat) : Int) := wraps_i64 _ (by omega) (by omega)
      rw [hw0]
      have ea := at8_in s k (by omega)
      rw [ea] at EO HS
      clear h4 hn ha ea hw0
      have W8 : Hid (wrap64 ((s[k]'(by omega)).toNat : Int) = ((s[k]'(by omega)).toNat : Int)) := by
        have := UInt8.toNat_lt (s[k]'(by omega))
        exact (show wrap64 ((s[k]'(by omega)).toNat : Int) = ((s[k]'(by omega)).toNat : Int) by unfold wrap64; omega)
      generalize nbW s k = x at *
      go_wp2
      exact ⟨⟨k + 1, by omega, by go_num, by rw [unhide HS, ← unhide EO, unhide W8, wrap64_i], by first | trivial | rfl⟩, by simp [intOf]; omega⟩
    · obtain rfl : k = 8 := by omega
      go_wp2
      go_ret
      exact ⟨rfl, rfl⟩
set_option maxRecDepth 100000 in
set_option maxHeartbeats 1000000 in
theorem specFix8 (h : Nat) (hh : h < 18446744073709551616) (w : World) :
    Calls Try.prog 52 #[.int .i64 (IntKind.i64.wrap (h : Int)), .int .i64 8] w fun e w' => e = .returned (.string (bq 8 (fun i => byN h (7 - i)))) ∧ Below w.heap.size w w' := by
  obtain ⟨i0, hi0, hz0, hz1, hz2⟩ := info_u8j
  have HL := hide (fun i => byN_lt h (7 - i))
  have HI := hide (fun k (hk : k < 8) => byN_int h k hh hk)
  have hb1 : -9223372036854775808 ≤ IntKind.i64.wrap (h : Int) ∧ IntKind.i64.wrap (h : Int) < 9223372036854775808 := by rw [IntKind.wrap_i64]; omega
  generalize IntKind.i64.wrap (h : Int) = n at *
  go_enter Try.func52, Try.ntmps52
  go_wp2_with fail
  go_loopw [5, 6] (fun v kv wr => ∃ i : Nat, i ≤ 8 ∧ kv = .int .i64 (7 - (i : Int)) ∧ Ob w.heap.size wr v i (fun i => byN h (7 - i)) ∧ Below w.heap.size w wr) (fun _ kv _ => (intOf kv + 1).toNat)
  case atStart => exact ⟨0, by omega, rfl, Ob.nil _ _ _, Below.refl _ _⟩
  case round =>
    obtain ⟨i, hi, rfl, hO, hB⟩ := hrel
    by_cases hlt : i < 8
    · obtain ⟨k, hk⟩ : ∃ k : Nat, k = 7 - i := ⟨_, rfl⟩
      have hkI : 7 - (i : Int) = (k : Int) := by omega
      rw [hkI]
      have hk8 : k < 8 := by omega
      have hbs := hB.size
      have eI := unhide HI k hk8
      have al := (Below.refl wr.heap.size wr).alloc (Nat.le_refl _) (.cells #[.int .u8 (n / 2 ^ (8 * k) % 256)] 5)
      have hN : Ar (wr.alloc (.cells #[.int .u8 (n / 2 ^ (8 * k) % 256)] 5)) wr.heap.size 0 1 (fun _ => byN h k) := by
        have h9 := Ar.new wr 1 (fun _ => byN h k) 5
        have e9 : (us 1 (fun _ => byN h k)).toArray = #[.int .u8 (n / 2 ^ (8 * k) % 256)] := by
          rw [us_def]
          show #[Value.int .u8 ((byN h k : Nat) : Int)] = _
          rw [eI]
        rw [e9] at h9
        exact h9
      have O3 := hide (hO.kept al)
      have B3 := hide (hB.trans (al.mono hbs))
      have hnew : Hid (∀ j u, (us 1 (fun _ => byN h k))[j]? = some u → (wr.alloc (.cells #[.int .u8 (n / 2 ^ (8 * k) % 256)] 5)).cell? ((⟨wr.heap.size, 0, none⟩ : Addr).add j) = some u) := fun j u hu => by rw [Addr.add_mid]; exact hN.range j u hu
      have hone := hide (us_oneL 1 (fun _ => byN h k))
      have hz3 : (wr.alloc (.cells #[.int .u8 (n / 2 ^ (8 * k) % 256)] 5)).heap.size = wr.heap.size + 1 := by simp
      have HK := hide (And.intro hk hkI)
      clear al hN hO hB hk hkI eI
      go_wp2_with (at_builtin; refine wpList_append_lies _ rfl _ _ 22 rfl w.heap.size 5 i0 (.int .u8 0) 1 1 Try.underlying22 hi0 hz0 hz1 hz2 rfl (by decide) _ _ _ rfl (unhide O3) ⟨wr.heap.size, 0, none⟩ 1 1 (us 1 (fun _ => byN h k)) rfl ?c0 (unhide hnew) (unhide hone) (by omega) ?c3 ?c4 ?c5 (wr.heap.size + 1) ?c6 ?_)
      case c0 => rw [us_length]
      case c3 => unfold maxLen; omega
      case c4 => omega
      case c5 => omega
      case c6 => exact hz3
      intro g8 cap8 w8 hown hgrow hat hlt8
      rw [show us 1 (fun _ => byN h k) = us 1 (fun j => (fun i => byN h (7 - i)) (i + j)) from us_congr fun j hj => by obtain rfl : j = 0 := (by omega); rw [(unhide HK).1]; rfl] at hown
      have O8 := hide (Ob.grow hown)
      have b8 := Ob.below (unhide O3) hgrow (by rw [hz3]; omega)
      have B8 := hide ((unhide B3).trans b8)
      clear hown hgrow hat b8 O3 B3 hnew hone
      go_wp2
      exact ⟨⟨i + 1, by omega, by have := (unhide HK).2; congr 1; omega, unhide O8, unhide B8⟩, by simp [intOf]⟩
    · obtain rfl : i = 8 := by omega
      have hst := hO.string (fun i _ => unhide HL i)
      have B9 := hide hB
      clear hO hB
      go_wp2
      go_ret
      exact ⟨rfl, unhide B9⟩
end Go.Proofs.Ytgoafbhhihfkfaa
namespace Go.Proofs.Ytgoafbhhihfkfaa
open Go.ChangeShapes Go.WideShapes Go.ChangeAt Go.RowKit
set_option linter.unusedVariables false

/-- the two words of a block -/
def hiW (s : ByteArray) : Nat := nbW (s.extract 0 8) 8
def loW (s : ByteArray) : Nat := nbW (s.extract 8 16) 8
theorem hiW_lt (s : ByteArray) : hiW s < 18446744073709551616 := nbW_lt _ 8
theorem loW_lt (s : ByteArray) : loW s < 18446744073709551616 := nbW_lt _ 8
theorem u64_of (h : Nat) (hh : h < 18446744073709551616) : IntKind.u64.wrap (IntKind.i64.wrap (h : Int)) = (h : Int) := by
  rw [IntKind.wrap_u64, IntKind.wrap_i64]
  omega
/-- two words lie in a block -/
structure Q2 (w : World) (b x y : Nat) : Prop where
  c0 : w.cell? ⟨b, 0, none⟩ = some (.int .u64 (x : Nat))
  c1 : w.cell? ⟨b, 1, none⟩ = some (.int .u64 (y : Nat))
  f0 : w.frozen? ⟨b, 0, none⟩ = false
  f1 : w.frozen? ⟨b, 1, none⟩ = false
theorem q2_new (w : World) (x y : Nat) (t : TypeId) : Q2 (w.alloc (.cells #[.int .u64 (x : Nat), .int .u64 (y : Nat)] t)).drew w.heap.size x y :=
  ⟨by simp, by simp, by simp, by simp⟩
theorem Q2.range {w : World} {b x y : Nat} (h : Q2 w b x y) : w.rangeAt b 0 [.int .u64 (x : Nat), .int .u64 (y : Nat)] := fun j u hu => by
  rw [Nat.zero_add]
  match j, hu with
  | 0, hu => simp at hu; subst hu; exact h.c0
  | 1, hu => simp at hu; subst hu; exact h.c1
theorem ret_two {P : Program} {fn : Func} {R : Ending → World → Prop} {a : Act} {w : World} (s rb x y : Nat) (t : TypeId) (d : TypeDesc) (hres : fn.results = #[.cell s t]) (ha : a.tmps.getD s undef = .pointer (some ⟨rb, 0, none⟩)) (hd : a.defers = [])
    (h : Q2 w rb x y) (hu : P.underlying t = some d) (hrow : d.isRow = true) (hi : (P.info? t).map (·.size) = some 2) (hR : R (.returned (.agg #[.int .u64 (x : Nat), .int .u64 (y : Nat)])) w) : bodyPost P fn R .ret a w := by
  refine bodyPost_ret (v := .agg #[.int .u64 (x : Nat), .int .u64 (y : Nat)]) ?_ hd hR
  have hl := run_loadVar_mid (P := P) w rb 0 t [.int .u64 (x : Nat), .int .u64 (y : Nat)] d h.range hu hrow hi
  unfold results
  rw [hres]
  simp only [Sem.run_bind, Array.mapM_eq_mapM_toList, List.mapM_cons, List.mapM_nil, ha]
  simp [asAddr, hl]
theorem info_l5 : (Try.prog.info? 46).map (·.size) = some 2 := by kernel_rfl
set_option maxRecDepth 100000 in
set_option maxHeartbeats 1000000 in
theorem specOf (s : ByteArray) (hs : s.size = 16) (w : World) :
    Calls Try.prog 31 #[.string s] w fun e w' => e = .returned (.agg #[.int .u64 (hiW s : Nat), .int .u64 (loW s : Nat)]) ∧ Below w.heap.size w w' := by
  have H1 := hide (fun W => specBig8 (s.extract 0 8) (by rw [ByteArray.size_extract]; omega) W)
  have H2 := hide (fun W => specBig8 (s.extract 8 16) (by rw [ByteArray.size_extract]; omega) W)
  have e1 := u64_of _ (hiW_lt s)
  have e2 := u64_of _ (loW_lt s)
  unfold hiW at e1 ⊢
  unfold loW at e2 ⊢
  generalize nbW (s.extract 0 8) 8 = h at *
  generalize nbW (s.extract 8 16) 8 = l at *
  go_enter Try.func31, Try.ntmps31
  go_wp2_with fail
  have N0 : Q2 (w.alloc (.cells #[.int .u64 0, .int .u64 0] 46)).drew w.heap.size 0 0 := q2_new w 0 0 _
  have hc0 := N0.c0
  have hc1 := N0.c1
  have hf0 := N0.f0
  have hf1 := N0.f1
  clear N0
  go_region_with (first
    | (go_at_call 53; with_reducible refine (unhide H1 _).mono ?_; rintro e w9 ⟨rfl, h9⟩; rw [h9]; clear h9 w9)
    | (go_at_call 53; with_reducible refine (unhide H2 _).mono ?_; rintro e w9 ⟨rfl, h9⟩; rw [h9]; clear h9 w9))
  all_goals
    clear hc0 hc1 hf0 hf1
    have HH := hide (q2_new w h l 46)
    have HB := hide (((Below.refl w.heap.size w).alloc (Nat.le_refl _) (.cells #[.int .u64 (h : Nat), .int .u64 (l : Nat)] 46)).drew)
    generalize (w.alloc (.cells #[.int .u64 (h : Nat), .int .u64 (l : Nat)] 46)).drew = W at HH HB ⊢
    go_wp2
    refine ret_two 2 w.heap.size h l 46 _ ?r1 ?r2 ?r3 (unhide HH) Try.underlying46 rfl info_l5 ?_
    case r1 => rfl
    case r2 => rfl
    case r3 => rfl
    exact ⟨rfl, unhide HB⟩
end Go.Proofs.Ytgoafbhhihfkfaa
namespace Go.Proofs.Ytgoafbhhihfkfaa
open Go.ChangeShapes Go.WideShapes Go.ChangeAt Go.RowKit
set_option linter.unusedVariables false

/-- the words of b times 2 to the i -/
def bsP (bh bl : Nat) : Nat → Nat × Nat
  | 0 => (bh, bl)
  | i + 1 => (if (bsP bh bl i).2 % 2 = 1 then (bsP bh bl i).1 / 2 ^^^ 16212958658533785600 else (bsP bh bl i).1 / 2, (bsP bh bl i).2 / 2 + (bsP bh bl i).1 % 2 * 9223372036854775808)
/-- the bit i of a, from the front -/
def btA (ah al i : Nat) : Nat := if i < 64 then ah / 2 ^ (63 - i) % 2 else al / 2 ^ (127 - i) % 2
/-- the words of the product as far as bit i -/
def ouP (ah al bh bl : Nat) : Nat → Nat × Nat
  | 0 => (0, 0)
  | i + 1 => if btA ah al i = 1 then ((ouP ah al bh bl i).1 ^^^ (bsP bh bl i).1, (ouP ah al bh bl i).2 ^^^ (bsP bh bl i).2) else ouP ah al bh bl i
theorem bsP_lt (bh bl : Nat) (h1 : bh < 18446744073709551616) (h2 : bl < 18446744073709551616) : ∀ i, (bsP bh bl i).1 < 18446744073709551616 ∧ (bsP bh bl i).2 < 18446744073709551616
  | 0 => ⟨h1, h2⟩
  | i + 1 => by
    obtain ⟨h3, h4⟩ := bsP_lt bh bl h1 h2 i
    refine ⟨?_, ?_⟩
    · show (if (bsP bh bl i).2 % 2 = 1 then (bsP bh bl i).1 / 2 ^^^ 16212958658533785600 else (bsP bh bl i).1 / 2) < _
      split
      · exact Nat.xor_lt_two_pow (n := 64) (by omega) (by omega)
      · omega
    · show (bsP bh bl i).2 / 2 + (bsP bh bl i).1 % 2 * 9223372036854775808 < _
      omega
theorem ouP_lt (ah al bh bl : Nat) (h1 : bh < 18446744073709551616) (h2 : bl < 18446744073709551616) : ∀ i, (ouP ah al bh bl i).1 < 18446744073709551616 ∧ (ouP ah al bh bl i).2 < 18446744073709551616
  | 0 => ⟨by show 0 < _; omega, by show 0 < _; omega⟩
  | i + 1 => by
    obtain ⟨h3, h4⟩ := ouP_lt ah al bh bl h1 h2 i
    obtain ⟨h5, h6⟩ := bsP_lt bh bl h1 h2 i
    unfold ouP
    split
    · exact ⟨Nat.xor_lt_two_pow (n := 64) h3 h5, Nat.xor_lt_two_pow (n := 64) h4 h6⟩
    · exact ⟨h3, h4⟩
theorem and1 (x : Int) (h0 : 0 ≤ x) (h1 : x < 18446744073709551616) : bits .and .u64 x 1 = x % 2 := by
  first | go_bits2 | exact bits_mask .u64 64 (by decide) (fun n a b => by rw [IntKind.wrap_u64]; omega) 1 (by decide) x h0 h1
theorem xor64 (a b : Nat) (ha : a < 18446744073709551616) (hb : b < 18446744073709551616) : bits .xor .u64 (a : Int) (b : Int) = ((a ^^^ b : Nat) : Int) := by
  have h := Nat.xor_lt_two_pow (n := 64) ha hb
  show IntKind.u64.wrap (((BitVec.ofInt 64 (a : Int) ^^^ BitVec.ofInt 64 (b : Int)).toNat : Nat) : Int) = _
  rw [BitVec.toNat_xor, BitVec.toNat_ofInt, BitVec.toNat_ofInt, show ((a : Int) % ((2 ^ 64 : Nat) : Int)).toNat = a by omega, show ((b : Int) % ((2 ^ 64 : Nat) : Int)).toNat = b by omega, IntKind.wrap_u64]
  omega
theorem or63 (H L : Nat) (hL : L < 18446744073709551616) : bits .or .u64 ((L : Int) / 2) (IntKind.u64.wrap ((H : Int) * 9223372036854775808)) = ((L / 2 + H % 2 * 9223372036854775808 : Nat) : Int) := by
  have h1 := Nat.two_pow_add_eq_or_of_lt (i := 63) (b := L / 2) (by omega) (H % 2)
  show IntKind.u64.wrap (((BitVec.ofInt 64 ((L : Int) / 2) ||| BitVec.ofInt 64 (IntKind.u64.wrap ((H : Int) * 9223372036854775808))).toNat : Nat) : Int) = _
  rw [BitVec.toNat_or, BitVec.toNat_ofInt, BitVec.toNat_ofInt, IntKind.wrap_u64, IntKind.wrap_u64, show ((L : Int) / 2 % ((2 ^ 64 : Nat) : Int)).toNat = L / 2 by omega, show ((H : Int) * 9223372036854775808 % 18446744073709551616 % ((2 ^ 64 : Nat) : Int)).toNat = 2 ^ 63 * (H % 2) by omega, Nat.or_comm, ← h1]
  omega
end Go.Proofs.Ytgoafbhhihfkfaa
