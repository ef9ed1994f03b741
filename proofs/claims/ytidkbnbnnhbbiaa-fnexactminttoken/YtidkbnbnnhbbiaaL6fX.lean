/-
  Contracts: what is minted as a value, its copies and its weight; addresses, times and marks of both sides. Contracts: a number in its lowest bytes, of both sides; bounds. Contracts: MintToken of both sides. Contracts: MintToken of the model. How what is minted, handed to a law, reads.
-/
import Derived.Test.YtidkbnbnnhbbiaaInb
import Derived.Test.YtidkbnbnnhbbiaaWtn
import Derived.Test.YtidkbnbnnhbbiaaObs
import Derived.Test.YtidkbnbnnhbbiaaE5w
import Derived.Deep.Slices
import Derived.Lib.SmallJoins
namespace Go.Proofs.Ytidkbnbnnhbbiaa
open Go.ChangeShapes Go.WideShapes Go.ChangeAt Go.RowKit
set_option linter.unusedVariables false
set_option maxRecDepth 100000

/-- what is minted, as a value -/
abbrev mnV (d : ByteArray) (t : Int) (n : Bool) : Value := .agg #[.string d, .int .i64 t, .bool n]
theorem none_iff (s : ByteArray) : s.toList = [] ↔ s.size = 0 := by
  have h : s.toList.length = s.size := by rw [Lib.toList_data, Array.length_toList]; rfl
  constructor
  · intro e; rw [e] at h; simpa using h.symm
  · intro e; rw [e] at h; exact List.length_eq_zero_iff.1 h
set_option maxHeartbeats 1000000 in
theorem toMn (d : ByteArray) (t : Int) (n : Bool) (w : World) :
    Calls Try.prog 7 #[mnV d t n] w fun e w' => e = .returned (mnV d t n) ∧ Below w.heap.size w w' := by
  go_enter Try.func7, Try.ntmps7
  go_wp2
  refine bodyPost_ret (v := mnV d t n) (by simp [results, Try.results7, go_sem]) rfl ⟨rfl, ?_⟩
  exact (((Below.refl _ _).alloc (Nat.le_refl _) _).alloc (by simp) _).alloc (by simp; omega) _
theorem szMn (d : ByteArray) (t : Int) (n : Bool) (hk : d.size ≤ maxLen) (w : World) :
    Calls Try.prog 5 #[mnV d t n, .int .i64 1048576] w fun e w' => e = .returned (.int .i64 (if (1048576 : Int) < d.size then -1 else 1048576 - d.size)) ∧ Below w.heap.size w w' := by
  unfold maxLen at hk
  split
  · go_enter Try.func5, Try.ntmps5
    go_wp2
    go_ret
    exact ⟨rfl, (Below.refl _ _).alloc (Nat.le_refl _) _⟩
  · go_enter Try.func5, Try.ntmps5
    go_wp2
    go_ret
    exact ⟨rfl, (Below.refl _ _).alloc (Nat.le_refl _) _⟩
theorem goodAd (a : ByteArray) (hl : a.size ≤ 1048576) (w : World) :
    Calls Try.prog 17 #[.string a] w fun e w' => e = .returned (.bool (decide (1 ≤ a.size ∧ a.size ≤ 18))) ∧ Below w.heap.size w w' := by
  by_cases h0 : a.toList = []
  · have h1 : a.size = 0 := (none_iff a).1 h0
    rw [decide_eq_false (by omega)]
    go_enter Try.func17, Try.ntmps17
    go_wp2
    go_ret
    exact ⟨rfl, Below.refl _ _⟩
  · have h1 : ¬ a.size = 0 := fun e => h0 ((none_iff a).2 e)
    rw [show decide (1 ≤ a.size ∧ a.size ≤ 18) = decide (a.size ≤ 18) from decide_eq_decide.2 (by omega)]
    have HW := hide (within_one a 18 (by omega) hl)
    have hE := hide (List.isEmpty_eq_false_iff.2 h0)
    clear h1
    go_enter Try.func17, Try.ntmps17
    go_wp2_with fail
    refine (unhide HW _ _ _ (by simp)).mono ?_
    rintro e w1 ⟨rfl, h9⟩
    rw [h9]
    clear h9 w1
    go_wp2
    go_ret
    exact ⟨by show Ending.returned (Value.bool (!a.toList.isEmpty && decide (a.size ≤ 18))) = _; rw [unhide hE]; rfl, (Below.refl _ _).alloc (Nat.le_refl _) _⟩
theorem goodTm (t : Int) (w : World) :
    Calls Try.prog 14 #[.int .i64 t] w fun e w' => e = .returned (.bool (decide (0 ≤ t ∧ t ≤ 1000000000))) ∧ w' = w := by
  by_cases h0 : 0 ≤ t
  · rw [show decide (0 ≤ t ∧ t ≤ 1000000000) = decide (t ≤ 1000000000) from decide_eq_decide.2 (by omega)]
    go_enter Try.func14, Try.ntmps14
    go_wp2
    go_ret
    exact ⟨rfl, rfl⟩
  · rw [decide_eq_false (by omega)]
    go_enter Try.func14, Try.ntmps14
    go_wp2
    go_ret
    exact ⟨rfl, rfl⟩
set_option maxHeartbeats 1000000 in
theorem goodMd (d : ByteArray) (t : Int) (n : Bool) (hl : d.size ≤ 1048576) (w : World) :
    Calls Try.prog 13 #[mnV d t n] w fun e w' => e = .returned (.bool (decide (d.size ≤ 20 ∧ 0 ≤ t ∧ t ≤ 1000000000))) ∧ Below w.heap.size w w' := by
  have HW := hide (within_one d 20 (by omega) hl)
  by_cases h0 : d.size ≤ 20
  case neg =>
    rw [decide_eq_false h0] at HW
    rw [decide_eq_false (show ¬ (d.size ≤ 20 ∧ 0 ≤ t ∧ t ≤ 1000000000) from fun x => h0 x.1)]
    clear h0
    go_enter Try.func13, Try.ntmps13
    go_wp2_with fail
    refine (unhide HW _ _ _ (by simp)).mono ?_
    rintro e w1 ⟨rfl, h9⟩
    rw [h9]
    clear h9 w1
    go_wp2
    go_ret
    exact ⟨rfl, ((Below.refl _ _).alloc (Nat.le_refl _) _).alloc (by simp) _⟩
  rw [decide_eq_true h0] at HW
  have HT := hide (goodTm t)
  rw [show decide (d.size ≤ 20 ∧ 0 ≤ t ∧ t ≤ 1000000000) = decide (0 ≤ t ∧ t ≤ 1000000000) from decide_eq_decide.2 (by omega)]
  generalize decide (0 ≤ t ∧ t ≤ 1000000000) = r at *
  clear h0
  go_enter Try.func13, Try.ntmps13
  go_wp2_with fail
  refine (unhide HW _ _ _ (by simp)).mono ?_
  rintro e w1 ⟨rfl, h9⟩
  rw [h9]
  clear h9 w1
  go_wp2_with fail
  refine (unhide HT _).mono ?_
  rintro e w1 ⟨rfl, h9⟩
  rw [h9]
  clear h9 w1
  go_wp2
  go_ret
  exact ⟨rfl, ((Below.refl _ _).alloc (Nat.le_refl _) _).alloc (by simp) _⟩
theorem specAd (a : ByteArray) (w : World) :
    Calls Try.prog 15 #[.string a] w fun e w' => e = .returned (.bool (decide (1 ≤ a.size ∧ a.size ≤ 18))) ∧ w' = w := by
  have H := hide (inB (a.size : Int) 1 18)
  have e : (decide ((1 : Int) ≤ a.size) && decide ((a.size : Int) ≤ 18)) = decide (1 ≤ a.size ∧ a.size ≤ 18) := by
    rw [← Bool.decide_and]; exact decide_eq_decide.2 (by omega)
  rw [e] at H
  clear e
  generalize decide (1 ≤ a.size ∧ a.size ≤ 18) = r at *
  go_enter Try.func15, Try.ntmps15
  go_wp2_with fail
  refine (unhide H _).mono ?_
  rintro e w1 ⟨rfl, h9⟩
  rw [h9]
  clear h9 w1
  go_wp2
  go_ret
  exact ⟨rfl, rfl⟩
theorem specMd (d : ByteArray) (t : Int) (n : Bool) (hl : d.size ≤ 1048576) (w : World) :
    Calls Try.prog 11 #[mnV d t n] w fun e w' => e = .returned (.bool (decide (d.size ≤ 20 ∧ 0 ≤ t ∧ t ≤ 1000000000))) ∧ Below w.heap.size w w' := by
  by_cases h0 : d.size ≤ 20
  · have H := hide (inB t 0 1000000000)
    rw [← Bool.decide_and] at H
    rw [show decide (d.size ≤ 20 ∧ 0 ≤ t ∧ t ≤ 1000000000) = decide (0 ≤ t ∧ t ≤ 1000000000) from decide_eq_decide.2 (by omega)]
    generalize decide (0 ≤ t ∧ t ≤ 1000000000) = r at *
    have h1 : (d.size : Int) ≤ 20 := by omega
    go_enter Try.func11, Try.ntmps11
    go_wp2_with fail
    refine (unhide H _).mono ?_
    rintro e w1 ⟨rfl, h9⟩
    rw [h9]
    clear h9 w1
    go_wp2
    go_ret
    exact ⟨rfl, (Below.refl _ _).alloc (Nat.le_refl _) _⟩
  · rw [decide_eq_false (by omega)]
    have h1 : ¬ (d.size : Int) ≤ 20 := by omega
    go_enter Try.func11, Try.ntmps11
    go_wp2
    go_ret
    exact ⟨rfl, (Below.refl _ _).alloc (Nat.le_refl _) _⟩
/-- the byte that a token begins with -/
def mkW (n : Bool) : ByteArray := if n then ⟨#[1]⟩ else ⟨#[0]⟩
theorem mkW_size (n : Bool) : (mkW n).size = 1 := by cases n <;> rfl
theorem implMk (n : Bool) (w : World) :
    Calls Try.prog 18 #[.bool n] w fun e w' => e = .returned (.string (mkW n)) ∧ w' = w := by
  cases n <;>
  · go_enter Try.func18, Try.ntmps18
    go_wp2
    go_ret
    exact ⟨rfl, rfl⟩
end Go.Proofs.Ytidkbnbnnhbbiaa
namespace Go.Proofs.Ytidkbnbnnhbbiaa
open Go.ChangeShapes Go.WideShapes Go.ChangeAt Go.RowKit
set_option linter.unusedVariables false
set_option maxRecDepth 100000

/-- byte k of a number, from the lowest on -/
def nB (n k : Nat) : Nat := n / 256 ^ k % 256
theorem nB_lt (n k : Nat) : nB n k < 256 := Nat.mod_lt _ (by omega)
theorem nB_int (n k : Nat) : ((nB n k : Nat) : Int) = (n : Int) / 2 ^ (8 * k) % 256 := by
  unfold nB
  rw [show (256 : Nat) ^ k = 2 ^ (8 * k) by rw [Nat.pow_mul]]
  simp
/-- the lowest m bytes of a number -/
def loW (n m : Nat) : ByteArray := bq m (fun i => nB n (m - 1 - i))
theorem loW_size (n m : Nat) : (loW n m).size = m := bq_size _ _
set_option maxHeartbeats 1000000 in
theorem specFx (n M : Nat) (hn : n < 4611686018427387904) (hM : M ≤ 8) (w : World) :
    Calls Try.prog 24 #[.int .i64 n, .int .i64 M] w fun e w' => e = .returned (.string (loW n M)) ∧ Below w.heap.size w w' := by
  unfold loW
  obtain ⟨i0, hi0, hz0, hz1, hz2⟩ := info_u8j
  have HL := hide (fun i => nB_lt n (M - 1 - i))
  go_enter Try.func24, Try.ntmps24
  go_wp2_with fail
  go_loopw [5, 6] (fun v kv wr => ∃ i : Nat, i ≤ M ∧ kv = .int .i64 ((M : Int) - 1 - (i : Int)) ∧ Ob w.heap.size wr v i (fun i => nB n (M - 1 - i)) ∧ Below w.heap.size w wr) (fun _ kv _ => (intOf kv + 1).toNat)
  case atStart => exact ⟨0, by omega, by go_num, Ob.nil _ _ _, Below.refl _ _⟩
  case round =>
    obtain ⟨i, hi, rfl, hO, hB⟩ := hrel
    by_cases hlt : i < M
    · obtain ⟨k, hk⟩ : ∃ k : Nat, k = M - 1 - i := ⟨_, rfl⟩
      have hkI : (M : Int) - 1 - (i : Int) = (k : Int) := by omega
      rw [hkI]
      have hk4 : k < 8 := by omega
      have hbs := hB.size
      have eI := nB_int n k
      have al := (Below.refl wr.heap.size wr).alloc (Nat.le_refl _) (.cells #[.int .u8 ((n : Int) / 2 ^ (8 * k) % 256)] 5)
      have hN : Ar (wr.alloc (.cells #[.int .u8 ((n : Int) / 2 ^ (8 * k) % 256)] 5)) wr.heap.size 0 1 (fun _ => nB n k) := by
        have h9 := Ar.new wr 1 (fun _ => nB n k) 5
        have e9 : (us 1 (fun _ => nB n k)).toArray = #[.int .u8 ((n : Int) / 2 ^ (8 * k) % 256)] := by
          rw [us_def]
          show #[Value.int .u8 ((nB n k : Nat) : Int)] = _
          rw [eI]
        rw [e9] at h9
        exact h9
      have O3 := hide (hO.kept al)
      have B3 := hide (hB.trans (al.mono hbs))
      have hnew : Hid (∀ j u, (us 1 (fun _ => nB n k))[j]? = some u → (wr.alloc (.cells #[.int .u8 ((n : Int) / 2 ^ (8 * k) % 256)] 5)).cell? ((⟨wr.heap.size, 0, none⟩ : Addr).add j) = some u) := fun j u hu => by rw [Addr.add_mid]; exact hN.range j u hu
      have hone := hide (us_oneL 1 (fun _ => nB n k))
      have hz3 : (wr.alloc (.cells #[.int .u8 ((n : Int) / 2 ^ (8 * k) % 256)] 5)).heap.size = wr.heap.size + 1 := by simp
      have HK := hide (And.intro hk hkI)
      clear al hN hO hB hk hkI eI
      go_wp2_with (at_builtin; refine wpList_append_lies _ rfl _ _ 59 rfl w.heap.size 5 i0 (.int .u8 0) 1 1 Try.underlying59 hi0 hz0 hz1 hz2 rfl (by decide) _ _ _ rfl (unhide O3) ⟨wr.heap.size, 0, none⟩ 1 1 (us 1 (fun _ => nB n k)) rfl ?c0 (unhide hnew) (unhide hone) (by omega) ?c3 ?c4 ?c5 (wr.heap.size + 1) ?c6 ?_)
      case c0 => rw [us_length]
      case c3 => unfold maxLen; omega
      case c4 => omega
      case c5 => omega
      case c6 => exact hz3
      intro g8 cap8 w8 hown hgrow hat hlt8
      rw [show us 1 (fun _ => nB n k) = us 1 (fun j => (fun i => nB n (M - 1 - i)) (i + j)) from us_congr fun j hj => by obtain rfl : j = 0 := (by omega); rw [(unhide HK).1]; rfl] at hown
      have O8 := hide (Ob.grow hown)
      have b8 := Ob.below (unhide O3) hgrow (by rw [hz3]; omega)
      have B8 := hide ((unhide B3).trans b8)
      clear hown hgrow hat b8 O3 B3 hnew hone
      go_wp2
      exact ⟨⟨i + 1, by omega, by have := (unhide HK).2; congr 1; omega, unhide O8, unhide B8⟩, by simp [intOf]⟩
    · obtain rfl : i = M := by omega
      have hst := hO.string (fun i _ => unhide HL i)
      have B9 := hide hB
      clear hO hB
      go_wp2
      go_ret
      exact ⟨rfl, unhide B9⟩

set_option maxHeartbeats 1000000 in
theorem implLow (n M : Nat) (hn : n < 4611686018427387904) (hM : M ≤ 8) (w : World) :
    Calls Try.prog 20 #[.int .i64 n, .int .i64 M] w fun e w' => e = .returned (.string (loW n M)) ∧ Below w.heap.size w w' := by
  unfold loW
  have HL : Hid (∀ i, i < M → (fun i => nB n (M - 1 - i)) i < 256) := fun i _ => nB_lt n (M - 1 - i)
  have E : ∀ i, (fun i => nB n (M - 1 - i)) i = nB n (M - 1 - i) := fun i => rfl
  generalize (fun i => nB n (M - 1 - i)) = r at E HL ⊢
  have HE := hide E
  clear E
  go_enter Try.func20, Try.ntmps20
  go_wp2_with fail
  have hmk : (Instr.makeSlice 59 (.int .i64 M) (.int .i64 M)).run Try.prog w = _ := mk_bytes M (by omega) w
  rw [hmk]
  go_wp2_with fail
  have A0 : Ar (w.alloc (.cells (us M fun _ => 0).toArray 5)) w.heap.size 0 M (fun _ => 0) := Ar.new w M (fun _ => 0) 5
  have B0 : Below w.heap.size w (w.alloc (.cells (us M fun _ => 0).toArray 5)) := (Below.refl _ _).alloc (Nat.le_refl _) _
  generalize w.alloc (.cells (us M fun _ => 0).toArray 5) = w0 at A0 B0 ⊢
  have HA := hide A0
  have HB := hide B0
  clear A0 B0 hmk
  go_loopw [11] (fun iv wr => ∃ i : Nat, i ≤ M ∧ iv = .int .i64 i ∧ Ar wr w.heap.size 0 M (stp r (fun _ => 0) i) ∧ Below w.heap.size w wr) (fun iv _ => M - (intOf iv).toNat)
  case atStart => exact ⟨0, by omega, rfl, (unhide HA).stepNone, unhide HB⟩
  case round =>
    obtain ⟨i, hi, rfl, a1, b1⟩ := hrel
    have HA1 := hide a1
    have HB1 := hide b1
    by_cases hlt : i < M
    · have c0 := a1.c0 i hlt
      have f0 := a1.f0 i hlt
      obtain ⟨k, hk⟩ : ∃ k : Nat, k = M - 1 - i := ⟨_, rfl⟩
      have hkI : (M : Int) - 1 - (i : Int) = (k : Int) := by omega
      have hk8 : k < 8 := by omega
      have e2 := hide (unhide HE i)
      rw [← hk] at e2
      have eI := hide (nB_int n k)
      clear a1 b1 hk
      generalize stp r (fun _ => 0) i i = z at *
      have n1 : (0 : Int) ≤ (i : Int) ∧ (i : Int) < M := by omega
      go_wp2
      rw [← unhide eI]
      exact ⟨⟨i + 1, by omega, by go_num, (unhide HA1).step hlt (unhide e2), (unhide HB1).setCell (by simp) _⟩, by simp [intOf]; omega⟩
    · have e : i = M := by omega
      subst e
      have hst := ar_string (a1.stepEnd) (unhide HL) i
      clear a1 b1
      go_wp2
      go_ret
      exact ⟨rfl, unhide HB1⟩
end Go.Proofs.Ytidkbnbnnhbbiaa
namespace Go.Proofs.Ytidkbnbnnhbbiaa
open Go.ChangeShapes Go.WideShapes Go.ChangeAt Go.RowKit
set_option linter.unusedVariables false
set_option maxRecDepth 100000

/-- a token -/
def mtW (k n a d : ByteArray) (t : Nat) (b : Bool) : ByteArray := mkW b ++ n ++ seW k n (mkW b ++ a) (loW t 8 ++ d)
def mtB (k n a d : Nat) (t : Int) : Prop := k = 16 ∧ n = 12 ∧ (1 ≤ a ∧ a ≤ 18) ∧ d ≤ 20 ∧ 0 ≤ t ∧ t ≤ 1000000000

set_option maxHeartbeats 1000000 in
theorem implMT_ok (k n a d : ByteArray) (t : Nat) (b : Bool) (h : mtB k.size n.size a.size d.size t) (w : World) :
    Calls Try.prog 10 #[.string k, .string n, .string a, mnV d t b] w fun e w' => e = .returned (.tuple #[.string (mtW k n a d t b), .bool true]) ∧ Below w.heap.size w w' := by
  obtain ⟨hk, hn, ha, hd, h0, h1⟩ := h
  have HA := hide (goodAd a (by omega))
  rw [decide_eq_true ha] at HA
  have HG := hide (goodMd d (t : Int) b (by omega))
  rw [decide_eq_true ⟨hd, h0, h1⟩] at HG
  have HM := hide (implMk b)
  have HL : Hid (∀ W, Calls Try.prog 20 #[.int .i64 t, .int .i64 8] W fun e w' => e = .returned (.string (loW t 8)) ∧ Below W.heap.size W w') := implLow t 8 (by omega) (by omega)
  have hbs := mkW_size b
  have hls := loW_size t 8
  have HS := hide (implST_ok k n (mkW b ++ a) (loW t 8 ++ d) ⟨hk, hn, by rw [ByteArray.size_append]; omega, by rw [ByteArray.size_append]; omega⟩)
  have ad1 := fun W : World => run_string_add_sum (P := Try.prog) (w := W) (mkW b) a (by omega)
  have ad2 := fun W : World => run_string_add_sum (P := Try.prog) (w := W) (loW t 8) d (by omega)
  have ad3 := fun W : World => run_string_add_sum (P := Try.prog) (w := W) (mkW b) n (by omega)
  have hz := seW_size k n (mkW b ++ a) (loW t 8 ++ d)
  have ad4 := fun W : World => run_string_add_sum (P := Try.prog) (w := W) (mkW b ++ n) (seW k n (mkW b ++ a) (loW t 8 ++ d)) (by rw [hz, ByteArray.size_append, ByteArray.size_append]; omega)
  have HE : Hid (mkW b ++ n ++ seW k n (mkW b ++ a) (loW t 8 ++ d) = mtW k n a d t b) := rfl
  rw [unhide HE] at ad4
  generalize mtW k n a d t b = r at *
  generalize seW k n (mkW b ++ a) (loW t 8 ++ d) = sw at *
  generalize mkW b ++ a = y at *
  generalize mkW b ++ n = z at *
  generalize loW t 8 ++ d = x at *
  generalize mkW b = m at *
  generalize loW t 8 = l at *
  clear hz HE hbs hls
  go_enter Try.func10, Try.ntmps10
  go_wp2_with fail
  refine (unhide HA _).mono ?_
  rintro e w1 ⟨rfl, b1⟩
  have D1 := hide b1
  have B1 : Hid (Below w.heap.size w w1) := ((Below.refl _ _).alloc (Nat.le_refl _) _).trans (b1.mono (by simp))
  obtain ⟨hc1, hf1⟩ := bcell b1
  have p1 : ∀ o, w1.cell? ⟨w.heap.size, o, none⟩ = _ := fun o => hc1 w.heap.size o (by simp)
  clear b1 hc1 hf1
  go_wp2_with fail
  refine (unhide HG _).mono ?_
  rintro e w2 ⟨rfl, b2⟩
  have D2 := hide ((unhide D1).trans (b2.mono (unhide D1).size))
  have B2 := hide ((unhide B1).trans (b2.mono (unhide B1).size))
  clear p1 D1 B1 b2
  obtain ⟨hc1, hf1⟩ := bcell (unhide D2)
  have p2 : ∀ o, w2.cell? ⟨w.heap.size, o, none⟩ = _ := fun o => hc1 w.heap.size o (by simp)
  clear hc1 hf1
  go_wp2_with fail
  refine (unhide HM _).mono ?_
  rintro e w3 ⟨rfl, h9⟩
  rw [h9]
  clear h9 w3
  have KQ : Hid (∀ V, Below w2.drew.heap.size w2.drew V → V.cell? ⟨w.heap.size, 0, none⟩ = some (.string d) ∧ V.cell? ⟨w.heap.size, 1, none⟩ = some (.int .i64 t)) := fun V hV => by
    have hV2 := (unhide D2).drew.trans (hV.mono (by have := (unhide D2).size; rw [World.size_drew]; exact this))
    obtain ⟨hc, _⟩ := bcell hV2
    exact ⟨by rw [hc w.heap.size 0 (by simp)]; simp, by rw [hc w.heap.size 1 (by simp)]; simp⟩
  have S0 := hide (unhide KQ _ (Below.refl _ _))
  go_wp2_with fail
  go_region_held3 (fun V => V.cell? ⟨w.heap.size, 0, none⟩ = some (.string d) ∧ V.cell? ⟨w.heap.size, 1, none⟩ = some (.int .i64 t)) (first | exact unhide S0 | exact unhide KQ _ b5 | exact unhide KQ _ (b5.trans (b6.mono b5.size))) (first
    | (go_at_call 20; with_reducible refine (unhide HL _).mono ?_; rintro e w5 ⟨rfl, b5⟩)
    | (go_at_call 19; with_reducible refine (unhide HS _).mono ?_; rintro e w6 ⟨rfl, b6⟩))
  have B6 := hide ((unhide B2).drew.trans ((b5.trans (b6.mono b5.size)).mono (by have := (unhide B2).size; rw [World.size_drew]; exact this)))
  clear b5 b6 KQ S0 p2
  go_wp2
  go_ret2
  exact ⟨rfl, unhide B6⟩
set_option maxHeartbeats 1000000 in
theorem implMT_no (k n a d : ByteArray) (t : Int) (b : Bool) (h : ¬ mtB k.size n.size a.size d.size t) (l0 : k.size ≤ 1048576) (l1 : n.size ≤ 1048576) (l2 : a.size ≤ 1048576) (l3 : d.size ≤ 1048576) (w : World) :
    Calls Try.prog 10 #[.string k, .string n, .string a, mnV d t b] w fun e w' => e = .returned (.tuple #[.string ⟨#[]⟩, .bool false]) ∧ Below w.heap.size w w' := by
  have HA := hide (goodAd a l2)
  by_cases ha : 1 ≤ a.size ∧ a.size ≤ 18
  case neg =>
    rw [decide_eq_false ha] at HA
    go_enter Try.func10, Try.ntmps10
    go_wp2_with fail
    refine (unhide HA _).mono ?_
    rintro e w1 ⟨rfl, b1⟩
    go_wp2
    go_ret2
    exact ⟨rfl, ((Below.refl _ _).alloc (Nat.le_refl _) _).trans (b1.mono (by simp))⟩
  rw [decide_eq_true ha] at HA
  have HG := hide (goodMd d t b l3)
  by_cases hg : d.size ≤ 20 ∧ 0 ≤ t ∧ t ≤ 1000000000
  case neg =>
    rw [decide_eq_false hg] at HG
    clear hg h
    go_enter Try.func10, Try.ntmps10
    go_wp2_with fail
    refine (unhide HA _).mono ?_
    rintro e w1 ⟨rfl, b1⟩
    have B1 : Hid (Below w.heap.size w w1) := ((Below.refl _ _).alloc (Nat.le_refl _) _).trans (b1.mono (by simp))
    obtain ⟨hc1, hf1⟩ := bcell b1
    have p1 : ∀ o, w1.cell? ⟨w.heap.size, o, none⟩ = _ := fun o => hc1 w.heap.size o (by simp)
    clear b1 hc1 hf1
    go_wp2_with fail
    refine (unhide HG _).mono ?_
    rintro e w2 ⟨rfl, b2⟩
    go_wp2
    go_ret2
    exact ⟨rfl, (unhide B1).trans (b2.mono (unhide B1).size)⟩
  rw [decide_eq_true hg] at HG
  obtain ⟨hd, ht⟩ := hg
  obtain ⟨m, rfl⟩ : ∃ m : Nat, t = (m : Int) := ⟨t.toNat, by omega⟩
  have hkn : ¬ (k.size = 16 ∧ n.size = 12) := fun x => h ⟨x.1, x.2, ha, hd, ht.1, ht.2⟩
  have HM := hide (implMk b)
  have HL : Hid (∀ W, Calls Try.prog 20 #[.int .i64 m, .int .i64 8] W fun e w' => e = .returned (.string (loW m 8)) ∧ Below W.heap.size W w') := implLow m 8 (by omega) (by omega)
  have hbs := mkW_size b
  have hls := loW_size m 8
  have HS := hide (implST_no k n (mkW b ++ a) (loW m 8 ++ d) (fun x => hkn ⟨x.1, x.2.1⟩) l0 l1 (by rw [ByteArray.size_append]; omega) (by rw [ByteArray.size_append]; omega))
  have ad1 := fun W : World => run_string_add_sum (P := Try.prog) (w := W) (mkW b) a (by omega)
  have ad2 := fun W : World => run_string_add_sum (P := Try.prog) (w := W) (loW m 8) d (by omega)
  generalize mkW b ++ a = y at *
  generalize loW m 8 ++ d = x at *
  generalize mkW b = mm at *
  generalize loW m 8 = l at *
  clear hbs hls hkn h
  go_enter Try.func10, Try.ntmps10
  go_wp2_with fail
  refine (unhide HA _).mono ?_
  rintro e w1 ⟨rfl, b1⟩
  have D1 := hide b1
  have B1 : Hid (Below w.heap.size w w1) := ((Below.refl _ _).alloc (Nat.le_refl _) _).trans (b1.mono (by simp))
  obtain ⟨hc1, hf1⟩ := bcell b1
  have p1 : ∀ o, w1.cell? ⟨w.heap.size, o, none⟩ = _ := fun o => hc1 w.heap.size o (by simp)
  clear b1 hc1 hf1
  go_wp2_with fail
  refine (unhide HG _).mono ?_
  rintro e w2 ⟨rfl, b2⟩
  have D2 := hide ((unhide D1).trans (b2.mono (unhide D1).size))
  have B2 := hide ((unhide B1).trans (b2.mono (unhide B1).size))
  clear p1 D1 B1 b2
  obtain ⟨hc1, hf1⟩ := bcell (unhide D2)
  have p2 : ∀ o, w2.cell? ⟨w.heap.size, o, none⟩ = _ := fun o => hc1 w.heap.size o (by simp)
  clear hc1 hf1
  go_wp2_with fail
  refine (unhide HM _).mono ?_
  rintro e w3 ⟨rfl, h9⟩
  rw [h9]
  clear h9 w3
  have KQ : Hid (∀ V, Below w2.drew.heap.size w2.drew V → V.cell? ⟨w.heap.size, 0, none⟩ = some (.string d) ∧ V.cell? ⟨w.heap.size, 1, none⟩ = some (.int .i64 m)) := fun V hV => by
    have hV2 := (unhide D2).drew.trans (hV.mono (by have := (unhide D2).size; rw [World.size_drew]; exact this))
    obtain ⟨hc, _⟩ := bcell hV2
    exact ⟨by rw [hc w.heap.size 0 (by simp)]; simp, by rw [hc w.heap.size 1 (by simp)]; simp⟩
  have S0 := hide (unhide KQ _ (Below.refl _ _))
  go_wp2_with fail
  go_region_held3 (fun V => V.cell? ⟨w.heap.size, 0, none⟩ = some (.string d) ∧ V.cell? ⟨w.heap.size, 1, none⟩ = some (.int .i64 m)) (first | exact unhide S0 | exact unhide KQ _ b5 | exact unhide KQ _ (b5.trans (b6.mono b5.size))) (first
    | (go_at_call 20; with_reducible refine (unhide HL _).mono ?_; rintro e w5 ⟨rfl, b5⟩)
    | (go_at_call 19; with_reducible refine (unhide HS _).mono ?_; rintro e w6 ⟨rfl, b6⟩))
  have B6 := hide ((unhide B2).drew.trans ((b5.trans (b6.mono b5.size)).mono (by have := (unhide B2).size; rw [World.size_drew]; exact this)))
  clear b5 b6 KQ S0 p2
  go_wp2
  go_ret2
  exact ⟨rfl, unhide B6⟩
end Go.Proofs.Ytidkbnbnnhbbiaa
namespace Go.Proofs.Ytidkbnbnnhbbiaa
open Go.ChangeShapes Go.WideShapes Go.ChangeAt Go.RowKit
set_option linter.unusedVariables false
set_option maxRecDepth 100000

set_option maxHeartbeats 2000000 in
theorem specMint (k n a d : ByteArray) (t : Nat) (b : Bool) (h : mtB k.size n.size a.size d.size t) (w : World) :
    Calls Try.prog 16 #[.string k, .string n, .string a, mnV d t b] w fun e w' => e = .returned (.string (mtW k n a d t b)) ∧ Below w.heap.size w w' := by
  obtain ⟨hk, hn, ha, hd, h0, h1⟩ := h
  have HL : Hid (∀ W, Calls Try.prog 24 #[.int .i64 t, .int .i64 8] W fun e w' => e = .returned (.string (loW t 8)) ∧ Below W.heap.size W w') := specFx t 8 (by omega) (by omega)
  have H1 := hide (fun W => specKey5 k hk W)
  have hbs := mkW_size b
  have hls := loW_size t 8
  have H2 := hide (fun kb gk ok ck gt W (h : SM W kb gk ok ck gt k) => specSeal kb gk ok ck gt k n (mkW b ++ a) (loW t 8 ++ d) hn (by rw [ByteArray.size_append]; omega) (by rw [ByteArray.size_append]; omega) W h)
  have ad1 := fun W : World => run_string_add_sum (P := Try.prog) (w := W) (mkW b) a (by omega)
  have ad2 := fun W : World => run_string_add_sum (P := Try.prog) (w := W) (loW t 8) d (by omega)
  have ad3 := fun W : World => run_string_add_sum (P := Try.prog) (w := W) (mkW b) n (by omega)
  have hz := seW_size k n (mkW b ++ a) (loW t 8 ++ d)
  have ad4 := fun W : World => run_string_add_sum (P := Try.prog) (w := W) (mkW b ++ n) (seW k n (mkW b ++ a) (loW t 8 ++ d)) (by rw [hz, ByteArray.size_append, ByteArray.size_append]; omega)
  have HE : Hid (mkW b ++ n ++ seW k n (mkW b ++ a) (loW t 8 ++ d) = mtW k n a d t b) := rfl
  rw [unhide HE] at ad4
  generalize mtW k n a d t b = r at *
  generalize seW k n (mkW b ++ a) (loW t 8 ++ d) = sw at *
  generalize mkW b ++ a = y at *
  generalize mkW b ++ n = z at *
  generalize loW t 8 ++ d = x at *
  generalize loW t 8 = l at *
  clear hz HE hbs hls
  have KQ : Hid (∀ V, Below (w.alloc (.cells #[.string d, .int .i64 t, .bool b] 27)).drew.heap.size (w.alloc (.cells #[.string d, .int .i64 t, .bool b] 27)).drew V → V.cell? ⟨w.heap.size, 0, none⟩ = some (.string d) ∧ V.cell? ⟨w.heap.size, 1, none⟩ = some (.int .i64 t)) := fun V hV => by
    obtain ⟨hc, _⟩ := bcell hV
    exact ⟨by rw [hc w.heap.size 0 (by simp)]; simp, by rw [hc w.heap.size 1 (by simp)]; simp⟩
  have S0 := hide (unhide KQ _ (Below.refl _ _))
  have A0 := hide (((Below.refl w.heap.size w).alloc (Nat.le_refl _) (.cells #[.string d, .int .i64 t, .bool b] 27)).drew)
  cases b <;>
  · unfold mkW at ad1 ad3
    simp only [if_true, if_false, Bool.false_eq_true] at ad1 ad3
    go_enter Try.func16, Try.ntmps16
    go_wp2_with fail
    go_region_held3 (fun V => V.cell? ⟨w.heap.size, 0, none⟩ = some (.string d) ∧ V.cell? ⟨w.heap.size, 1, none⟩ = some (.int .i64 t)) (first | exact unhide S0 | exact unhide KQ _ b4 | exact unhide KQ _ b5 | exact unhide KQ _ (b4.trans (b5.mono b4.size)) | exact unhide KQ _ (b5.trans (b4.mono b5.size)) | exact unhide KQ _ ((b4.trans (b5.mono b4.size)).trans (b6.mono (Nat.le_trans b4.size b5.size))) | exact unhide KQ _ ((b5.trans (b4.mono b5.size)).trans (b6.mono (Nat.le_trans b5.size b4.size)))) (first
      | (go_at_call 22; with_reducible refine (unhide H1 _).mono ?_; rintro e w4 ⟨kb, gk, ok, ck, gt, rfl, m4, b4⟩)
      | (go_at_call 24; with_reducible refine (unhide HL _).mono ?_; rintro e w5 ⟨rfl, b5⟩)
      | (go_at_call 23; refine (unhide H2 _ _ _ _ _ _ (by first | exact m4 | exact m4.keep b5)).mono ?_; rintro e w6 ⟨rfl, b6⟩))
    all_goals
      have B6 : Hid (Below w.heap.size w w6) := by
        first
          | exact (unhide A0).trans (((b4.trans (b5.mono b4.size)).trans (b6.mono (Nat.le_trans b4.size b5.size))).mono (by simp))
          | exact (unhide A0).trans (((b5.trans (b4.mono b5.size)).trans (b6.mono (Nat.le_trans b5.size b4.size))).mono (by simp))
      clear b4 b5 b6 m4
      go_wp2
      go_ret
      exact ⟨rfl, unhide B6⟩
set_option maxHeartbeats 1000000 in
theorem specMT_ok (k n a d : ByteArray) (t : Nat) (b : Bool) (h : mtB k.size n.size a.size d.size t) (w : World) :
    Calls Try.prog 9 #[.string k, .string n, .string a, mnV d t b] w fun e w' => e = .returned (.tuple #[.string (mtW k n a d t b), .bool true]) ∧ Below w.heap.size w w' := by
  have HM := hide (specMint k n a d t b h)
  obtain ⟨hk, hn, ha, hd, h0, h1⟩ := h
  have HA := hide (specAd a)
  rw [decide_eq_true ha] at HA
  have HD := hide (specMd d t b (by omega))
  rw [decide_eq_true ⟨hd, h0, h1⟩] at HD
  generalize mtW k n a d t b = r at *
  go_enter Try.func9, Try.ntmps9
  go_wp2_with fail
  refine (unhide HA _).mono ?_
  rintro e w1 ⟨rfl, h9⟩
  rw [h9]
  clear h9 w1
  go_wp2_with fail
  refine (unhide HD _).mono ?_
  rintro e w1 ⟨rfl, b1⟩
  have B1 : Hid (Below w.heap.size w w1) := ((Below.refl _ _).alloc (Nat.le_refl _) _).trans (b1.mono (by simp))
  obtain ⟨hc1, hf1⟩ := bcell b1
  have p1 : ∀ o, w1.cell? ⟨w.heap.size, o, none⟩ = _ := fun o => hc1 w.heap.size o (by simp)
  clear b1 hc1 hf1
  go_wp2_with fail
  refine (unhide HM _).mono ?_
  rintro e w2 ⟨rfl, b2⟩
  have B2 := hide ((unhide B1).trans (b2.mono (unhide B1).size))
  clear b2 B1 p1
  go_wp2
  go_ret2
  exact ⟨rfl, unhide B2⟩
set_option maxHeartbeats 1000000 in
theorem specMT_no (k n a d : ByteArray) (t : Int) (b : Bool) (h : ¬ mtB k.size n.size a.size d.size t) (l0 : k.size ≤ 1048576) (l1 : n.size ≤ 1048576) (l2 : a.size ≤ 1048576) (l3 : d.size ≤ 1048576) (w : World) :
    Calls Try.prog 9 #[.string k, .string n, .string a, mnV d t b] w fun e w' => e = .returned (.tuple #[.string ⟨#[]⟩, .bool false]) ∧ Below w.heap.size w w' := by
  by_cases hk : k.size = 16
  case neg =>
    have h9 : ((k.size : Int) != 16) = true := by simp; omega
    go_enter Try.func9, Try.ntmps9
    go_wp2
    go_ret2
    exact ⟨rfl, (Below.refl _ _).alloc (Nat.le_refl _) _⟩
  by_cases hn : n.size = 12
  case neg =>
    have h9 : ((n.size : Int) != 12) = true := by simp; omega
    go_enter Try.func9, Try.ntmps9
    go_wp2
    go_ret2
    exact ⟨rfl, (Below.refl _ _).alloc (Nat.le_refl _) _⟩
  have HA := hide (specAd a)
  by_cases ha : 1 ≤ a.size ∧ a.size ≤ 18
  case neg =>
    rw [decide_eq_false ha] at HA
    go_enter Try.func9, Try.ntmps9
    go_wp2_with fail
    refine (unhide HA _).mono ?_
    rintro e w1 ⟨rfl, h9⟩
    rw [h9]
    clear h9 w1
    go_wp2
    go_ret2
    exact ⟨rfl, (Below.refl _ _).alloc (Nat.le_refl _) _⟩
  rw [decide_eq_true ha] at HA
  have HD := hide (specMd d t b l3)
  rw [decide_eq_false (fun x => h ⟨hk, hn, ha, x.1, x.2.1, x.2.2⟩)] at HD
  go_enter Try.func9, Try.ntmps9
  go_wp2_with fail
  refine (unhide HA _).mono ?_
  rintro e w1 ⟨rfl, h9⟩
  rw [h9]
  clear h9 w1
  go_wp2_with fail
  refine (unhide HD _).mono ?_
  rintro e w1 ⟨rfl, b1⟩
  have B1 : Hid (Below w.heap.size w w1) := ((Below.refl _ _).alloc (Nat.le_refl _) _).trans (b1.mono (by simp))
  clear b1
  go_wp2
  go_ret2
  exact ⟨rfl, unhide B1⟩
end Go.Proofs.Ytidkbnbnnhbbiaa
namespace Go.Proofs.Ytidkbnbnnhbbiaa
open Go.ChangeShapes Go.WideShapes Go.ChangeAt Go.RowKit Go.Deep
set_option linter.unusedVariables false
set_option maxRecDepth 100000

theorem cI10 : Try.prog.cellsOf 3 = 1 := by kernel_rfl
theorem cS10 : Try.prog.cellsOf 9 = 1 := by kernel_rfl
theorem cB10 : Try.prog.cellsOf 4 = 1 := by kernel_rfl
theorem cM10 : Try.prog.cellsOf 23 = 3 := by kernel_rfl

theorem open_minted {H : Type} {enc : TypeId × Value → H} {W : World} {spare : Nat → Bool} {held : Bool} {fuel : Nat} {cs : List Value} {x : DataW H × List MemPlace}
    (h : DataW.trod enc Try.prog W 0 spare held fuel 23 cs = some x) :
    ∃ (d : ByteArray) (t : Int) (n : Bool), cs = [.string d, .int .i64 t, .bool n] ∧ d.size ≤ maxLen ∧ (Lit.int .i64 t).wf = true := by
  obtain ⟨xs, n, _, _, hl, hlen, hf⟩ := DataW.trod_struct Try.underlying23 h
  rw [cM10] at hl
  match cs, hl, xs, hlen with
  | [c0, c1, c2], _, [y0, y1, y2], _ =>
    have g0 := hf 0 _ rfl
    have g1 := hf 1 _ rfl
    have g2 := hf 2 _ rfl
    simp [cI10, cS10, cB10] at g0 g1 g2
    obtain ⟨d, e0, _, hd⟩ := DataW.trod_string Try.underlying9 g0
    obtain ⟨t, e1, _, w1⟩ := DataW.trod_int Try.underlying3 g1
    obtain ⟨n, e2, _⟩ := DataW.trod_bool Try.underlying4 g2
    simp at e0 e1 e2
    subst e0 e1 e2
    exact ⟨d, t, n, rfl, hd, w1⟩
end Go.Proofs.Ytidkbnbnnhbbiaa
