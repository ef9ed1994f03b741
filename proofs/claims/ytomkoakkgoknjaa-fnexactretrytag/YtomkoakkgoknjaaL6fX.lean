/-
  Contracts: a number in its lowest bytes, of both sides; bounds. Contracts: RetryTag of both sides.
-/
import Derived.Test.YtomkoakkgoknjaaObs
import Derived.Test.YtomkoakkgoknjaaInb
import Derived.Test.YtomkoakkgoknjaaE5w
import Derived.Test.YtomkoakkgoknjaaWtn
namespace Go.Proofs.Ytomkoakkgoknjaa
open Go.ChangeShapes Go.WideShapes Go.ChangeAt Go.RowKit
set_option linter.unusedVariables false
set_option maxRecDepth 100000

/-- byte k of a number, from the lowest on -/
def nB (n k : Nat) : Nat := n / 256 ^ k % 256
theorem nB_lt (n k : Nat) : nB n k < 256 := Nat.mod_lt _ (by omega)
theorem nB_int (n k : Nat) : ((nB n k : Nat) : Int) = (n : Int) / 2 ^ (8 * k) % 256 := by
  unfold nB
  rw [show (256 : Nat) ^ k = 2 ^ (8 * k) by rw [Nat.pow_mul]]
  simp
/-- the lowest m bytes of a number -/
def loW (n m : Nat) : ByteArray := bq m (fun i => nB n (m - 1 - i))
theorem loW_size (n m : Nat) : (loW n m).size = m := bq_size _ _
set_option maxHeartbeats 1000000 in
theorem specFx (n M : Nat) (hn : n < 4611686018427387904) (hM : M ≤ 8) (w : World) :
    Calls Try.prog 24 #[.int .i64 n, .int .i64 M] w fun e w' => e = .returned (.string (loW n M)) ∧ Below w.heap.size w w' := by
  unfold loW
  obtain ⟨i0, hi0, hz0, hz1, hz2⟩ := info_u8j
  have HL := hide (fun i => nB_lt n (M - 1 - i))
  go_enter Try.func24, Try.ntmps24
  go_wp2_with fail
  go_loopw [5, 6] (fun v kv wr => ∃ i : Nat, i ≤ M ∧ kv = .int .i64 ((M : Int) - 1 - (i : Int)) ∧ Ob w.heap.size wr v i (fun i => nB n (M - 1 - i)) ∧ Below w.heap.size w wr) (fun _ kv _ => (intOf kv + 1).toNat)
  case atStart => exact ⟨0, by omega, by go_num, Ob.nil _ _ _, Below.refl _ _⟩
  case round =>
    obtain ⟨i, hi, rfl, hO, hB⟩ := hrel
    by_cases hlt : i < M
    · obtain ⟨k, hk⟩ : ∃ k : Nat, k = M - 1 - i := ⟨_, rfl⟩
      have hkI : (M : Int) - 1 - (i : Int) = (k : Int) := by omega
      rw [hkI]
      have hk4 : k < 8 := by omega
      have hbs := hB.size
      have eI := nB_int n k
      have al := (Below.refl wr.heap.size wr).alloc (Nat.le_refl _) (.cells #[.int .u8 ((n : Int) / 2 ^ (8 * k) % 256)] 5)
      have hN : Ar (wr.alloc (.cells #[.int .u8 ((n : Int) / 2 ^ (8 * k) % 256)] 5)) wr.heap.size 0 1 (fun _ => nB n k) := by
        have h9 := Ar.new wr 1 (fun _ => nB n k) 5
        have e9 : (us 1 (fun _ => nB n k)).toArray = #[.int .u8 ((n : Int) / 2 ^ (8 * k) % 256)] := by
          rw [us_def]
          show #[Value.int .u8 ((nB n k : Nat) : Int)] = _
          rw [eI]
        rw [e9] at h9
        exact h9
      have O3 := hide (hO.kept al)
      have B3 := hide (hB.trans (al.mono hbs))
      have hnew : Hid (∀ j u, (us 1 (fun _ => nB n k))[j]? = some u → (wr.alloc (.cells #[.int .u8 ((n : Int) / 2 ^ (8 * k) % 256)] 5)).cell? ((⟨wr.heap.size, 0, none⟩ : Addr).add j) = some u) := fun j u hu => by rw [Addr.add_mid]; exact hN.range j u hu
      have hone := hide (us_oneL 1 (fun _ => nB n k))
      have hz3 : (wr.alloc (.cells #[.int .u8 ((n : Int) / 2 ^ (8 * k) % 256)] 5)).heap.size = wr.heap.size + 1 := by simp
      have HK := hide (And.intro hk hkI)
      clear al hN hO hB hk hkI eI
      go_wp2_with (at_builtin; refine wpList_append_lies _ rfl _ _ 60 rfl w.heap.size 5 i0 (.int .u8 0) 1 1 Try.underlying60 hi0 hz0 hz1 hz2 rfl (by decide) _ _ _ rfl (unhide O3) ⟨wr.heap.size, 0, none⟩ 1 1 (us 1 (fun _ => nB n k)) rfl ?c0 (unhide hnew) (unhide hone) (by omega) ?c3 ?c4 ?c5 (wr.heap.size + 1) ?c6 ?_)
      case c0 => rw [us_length]
      case c3 => unfold maxLen; omega
      case c4 => omega
      case c5 => omega
      case c6 => exact hz3
      intro g8 cap8 w8 hown hgrow hat hlt8
      rw [show us 1 (fun _ => nB n k) = us 1 (fun j => (fun i => nB n (M - 1 - i)) (i + j)) from us_congr fun j hj => by obtain rfl : j = 0 := (by omega); rw [(unhide HK).1]; rfl] at hown
      have O8 := hide (Ob.grow hown)
      have b8 := Ob.below (unhide O3) hgrow (by rw [hz3]; omega)
      have B8 := hide ((unhide B3).trans b8)
      clear hown hgrow hat b8 O3 B3 hnew hone
      go_wp2
      exact ⟨⟨i + 1, by omega, by have := (unhide HK).2; congr 1; omega, unhide O8, unhide B8⟩, by simp [intOf]⟩
    · obtain rfl : i = M := by omega
      have hst := hO.string (fun i _ => unhide HL i)
      have B9 := hide hB
      clear hO hB
      go_wp2
      go_ret
      exact ⟨rfl, unhide B9⟩

set_option maxHeartbeats 1000000 in
theorem implLow (n M : Nat) (hn : n < 4611686018427387904) (hM : M ≤ 8) (w : World) :
    Calls Try.prog 19 #[.int .i64 n, .int .i64 M] w fun e w' => e = .returned (.string (loW n M)) ∧ Below w.heap.size w w' := by
  unfold loW
  have HL : Hid (∀ i, i < M → (fun i => nB n (M - 1 - i)) i < 256) := fun i _ => nB_lt n (M - 1 - i)
  have E : ∀ i, (fun i => nB n (M - 1 - i)) i = nB n (M - 1 - i) := fun i => rfl
  generalize (fun i => nB n (M - 1 - i)) = r at E HL ⊢
  have HE := hide E
  clear E
  go_enter Try.func19, Try.ntmps19
  go_wp2_with fail
  have hmk : (Instr.makeSlice 60 (.int .i64 M) (.int .i64 M)).run Try.prog w = _ := mk_bytes M (by omega) w
  rw [hmk]
  go_wp2_with fail
  have A0 : Ar (w.alloc (.cells (us M fun _ => 0).toArray 5)) w.heap.size 0 M (fun _ => 0) := Ar.new w M (fun _ => 0) 5
  have B0 : Below w.heap.size w (w.alloc (.cells (us M fun _ => 0).toArray 5)) := (Below.refl _ _).alloc (Nat.le_refl _) _
  generalize w.alloc (.cells (us M fun _ => 0).toArray 5) = w0 at A0 B0 ⊢
  have HA := hide A0
  have HB := hide B0
  clear A0 B0 hmk
  go_loopw [11] (fun iv wr => ∃ i : Nat, i ≤ M ∧ iv = .int .i64 i ∧ Ar wr w.heap.size 0 M (stp r (fun _ => 0) i) ∧ Below w.heap.size w wr) (fun iv _ => M - (intOf iv).toNat)
  case atStart => exact ⟨0, by omega, rfl, (unhide HA).stepNone, unhide HB⟩
  case round =>
    obtain ⟨i, hi, rfl, a1, b1⟩ := hrel
    have HA1 := hide a1
    have HB1 := hide b1
    by_cases hlt : i < M
    · have c0 := a1.c0 i hlt
      have f0 := a1.f0 i hlt
      obtain ⟨k, hk⟩ : ∃ k : Nat, k = M - 1 - i := ⟨_, rfl⟩
      have hkI : (M : Int) - 1 - (i : Int) = (k : Int) := by omega
      have hk8 : k < 8 := by omega
      have e2 := hide (unhide HE i)
      rw [← hk] at e2
      have eI := hide (nB_int n k)
      clear a1 b1 hk
      generalize stp r (fun _ => 0) i i = z at *
      have n1 : (0 : Int) ≤ (i : Int) ∧ (i : Int) < M := by omega
      go_wp2
      rw [← unhide eI]
      exact ⟨⟨i + 1, by omega, by go_num, (unhide HA1).step hlt (unhide e2), (unhide HB1).setCell (by simp) _⟩, by simp [intOf]; omega⟩
    · have e : i = M := by omega
      subst e
      have hst := ar_string (a1.stepEnd) (unhide HL) i
      clear a1 b1
      go_wp2
      go_ret
      exact ⟨rfl, unhide HB1⟩
end Go.Proofs.Ytomkoakkgoknjaa
namespace Go.Proofs.Ytomkoakkgoknjaa
open Go.ChangeShapes Go.WideShapes Go.ChangeAt Go.RowKit
set_option linter.unusedVariables false
set_option maxRecDepth 100000

/-- the key and the nonce that RFC 9001 tells, and a tag -/
def rtK : ByteArray := ⟨#[190, 12, 105, 11, 159, 102, 87, 90, 29, 118, 107, 84, 227, 104, 200, 78]⟩
def rtN : ByteArray := ⟨#[70, 21, 153, 211, 93, 99, 43, 242, 35, 152, 37, 187]⟩
def rtX (o p : ByteArray) : ByteArray := loW o.size 1 ++ o ++ p
theorem rtX_size (o p : ByteArray) : (rtX o p).size = 1 + o.size + p.size := by unfold rtX; rw [ByteArray.size_append, ByteArray.size_append, loW_size]
def rtW (o p : ByteArray) : ByteArray := seW rtK rtN (rtX o p) ⟨#[]⟩
theorem rtW_size (o p : ByteArray) : (rtW o p).size = 16 := by unfold rtW; rw [seW_size]; rfl

set_option maxHeartbeats 1000000 in
theorem implRT_ok (o p : ByteArray) (ho : o.size ≤ 20) (hp : p.size ≤ 1000) (w : World) :
    Calls Try.prog 10 #[.string o, .string p] w fun e w' => e = .returned (.tuple #[.string (rtW o p), .bool true]) ∧ Below w.heap.size w w' := by
  have HW := hide (within_one o 20 (by omega) (by omega))
  rw [decide_eq_true ho] at HW
  have HV := hide (within_one p 1000 (by omega) (by omega))
  rw [decide_eq_true hp] at HV
  have HL : Hid (∀ W, Calls Try.prog 19 #[.int .i64 o.size, .int .i64 1] W fun e w' => e = .returned (.string (loW o.size 1)) ∧ Below W.heap.size W w') := implLow o.size 1 (by omega) (by omega)
  have hx := rtX_size o p
  have HS : Hid (∀ W, Calls Try.prog 18 #[.string ⟨#[190, 12, 105, 11, 159, 102, 87, 90, 29, 118, 107, 84, 227, 104, 200, 78]⟩, .string ⟨#[70, 21, 153, 211, 93, 99, 43, 242, 35, 152, 37, 187]⟩, .string (rtX o p), .string ⟨#[]⟩] W fun e w' => e = .returned (.tuple #[.string (rtW o p), .bool true]) ∧ Below W.heap.size W w') := implST_ok rtK rtN (rtX o p) ⟨#[]⟩ ⟨rfl, rfl, by omega, by decide⟩
  have hls := loW_size o.size 1
  have ad1 := fun W : World => run_string_add_sum (P := Try.prog) (w := W) (loW o.size 1) o (by omega)
  have ad2 := fun W : World => run_string_add_sum (P := Try.prog) (w := W) (loW o.size 1 ++ o) p (by rw [ByteArray.size_append]; omega)
  have HE : Hid (loW o.size 1 ++ o ++ p = rtX o p) := rfl
  rw [unhide HE] at ad2
  generalize rtW o p = r at *
  generalize rtX o p = x at *
  generalize loW o.size 1 ++ o = y at *
  generalize loW o.size 1 = l at *
  clear HE hls hx
  go_enter Try.func10, Try.ntmps10
  go_wp2_with fail
  refine (unhide HW _ _ _ (by simp)).mono ?_
  rintro e w1 ⟨rfl, h9⟩
  rw [h9]
  clear h9 w1
  go_wp2_with fail
  refine (unhide HV _ _ _ (by simp)).mono ?_
  rintro e w1 ⟨rfl, h9⟩
  rw [h9]
  clear h9 w1
  have B0 := hide (((Below.refl w.heap.size w).alloc (Nat.le_refl _) (.cells #[.string o] 9)).alloc (by simp) (.cells #[.string p] 9))
  generalize (w.alloc (.cells #[.string o] 9)).alloc (.cells #[.string p] 9) = w1 at *
  go_wp2_with fail
  refine (unhide HL _).mono ?_
  rintro e w2 ⟨rfl, b2⟩
  have B2 := hide ((unhide B0).trans (b2.mono (unhide B0).size))
  clear b2 B0
  go_wp2_with fail
  refine (unhide HS _).mono ?_
  rintro e w3 ⟨rfl, b3⟩
  have B3 := hide ((unhide B2).trans (b3.mono (unhide B2).size))
  clear b3 B2
  go_wp2
  go_ret2
  exact ⟨rfl, unhide B3⟩
theorem implRT_no (o p : ByteArray) (h : ¬ (o.size ≤ 20 ∧ p.size ≤ 1000)) (l0 : o.size ≤ 1048576) (l1 : p.size ≤ 1048576) (w : World) :
    Calls Try.prog 10 #[.string o, .string p] w fun e w' => e = .returned (.tuple #[.string ⟨#[]⟩, .bool false]) ∧ Below w.heap.size w w' := by
  have HW := hide (within_one o 20 (by omega) l0)
  by_cases ho : o.size ≤ 20
  case neg =>
    rw [decide_eq_false ho] at HW
    go_enter Try.func10, Try.ntmps10
    go_wp2_with fail
    refine (unhide HW _ _ _ (by simp)).mono ?_
    rintro e w1 ⟨rfl, h9⟩
    rw [h9]
    clear h9 w1
    go_wp2
    go_ret2
    exact ⟨rfl, (Below.refl _ _).alloc (Nat.le_refl _) _⟩
  rw [decide_eq_true ho] at HW
  have HV := hide (within_one p 1000 (by omega) l1)
  rw [decide_eq_false (fun x => h ⟨ho, x⟩)] at HV
  go_enter Try.func10, Try.ntmps10
  go_wp2_with fail
  refine (unhide HW _ _ _ (by simp)).mono ?_
  rintro e w1 ⟨rfl, h9⟩
  rw [h9]
  clear h9 w1
  go_wp2_with fail
  refine (unhide HV _ _ _ (by simp)).mono ?_
  rintro e w1 ⟨rfl, h9⟩
  rw [h9]
  clear h9 w1
  go_wp2
  go_ret2
  exact ⟨rfl, ((Below.refl _ _).alloc (Nat.le_refl _) _).alloc (by simp) _⟩
theorem specId1 (o : ByteArray) (ho : o.size ≤ 1000) (w : World) :
    Calls Try.prog 29 #[.string o] w fun e w' => e = .returned (.string (loW o.size 1 ++ o)) ∧ Below w.heap.size w w' := by
  have HL : Hid (∀ W, Calls Try.prog 24 #[.int .i64 o.size, .int .i64 1] W fun e w' => e = .returned (.string (loW o.size 1)) ∧ Below W.heap.size W w') := specFx o.size 1 (by omega) (by omega)
  have hls := loW_size o.size 1
  have ad1 := fun W : World => run_string_add_sum (P := Try.prog) (w := W) (loW o.size 1) o (by omega)
  generalize loW o.size 1 ++ o = y at *
  generalize loW o.size 1 = l at *
  go_enter Try.func29, Try.ntmps29
  go_wp2_with fail
  refine (unhide HL _).mono ?_
  rintro e w2 ⟨rfl, b2⟩
  have B2 := hide b2
  clear b2
  go_wp2
  go_ret
  exact ⟨rfl, unhide B2⟩
set_option maxHeartbeats 1000000 in
theorem specTag10 (o p : ByteArray) (ho : o.size ≤ 20) (hp : p.size ≤ 1000) (w : World) :
    Calls Try.prog 20 #[.string o, .string p] w fun e w' => e = .returned (.string (rtW o p)) ∧ Below w.heap.size w w' := by
  have H1 : Hid (∀ W, Calls Try.prog 22 #[.string ⟨#[190, 12, 105, 11, 159, 102, 87, 90, 29, 118, 107, 84, 227, 104, 200, 78]⟩] W fun e w' => ∃ kb gk ok ck gt, e = .returned (.pointer (some ⟨kb, 0, none⟩)) ∧ SM w' kb gk ok ck gt rtK ∧ Below W.heap.size W w') := fun W => specKey5 rtK rfl W
  have HI := hide (specId1 o (by omega))
  have hx := rtX_size o p
  have H2 : Hid (∀ kb gk ok ck gt W, SM W kb gk ok ck gt rtK → Calls Try.prog 23 #[.pointer (some ⟨kb, 0, none⟩), .string ⟨#[70, 21, 153, 211, 93, 99, 43, 242, 35, 152, 37, 187]⟩, .string (rtX o p), .string ⟨#[]⟩] W fun e w' => e = .returned (.string (rtW o p)) ∧ Below W.heap.size W w') := fun kb gk ok ck gt W h => specSeal kb gk ok ck gt rtK rtN (rtX o p) ⟨#[]⟩ rfl (by omega) (by decide) W h
  have hls := loW_size o.size 1
  have ad2 := fun W : World => run_string_add_sum (P := Try.prog) (w := W) (loW o.size 1 ++ o) p (by rw [ByteArray.size_append]; omega)
  have HE : Hid (loW o.size 1 ++ o ++ p = rtX o p) := rfl
  rw [unhide HE] at ad2
  generalize rtW o p = r at *
  generalize rtX o p = x at *
  generalize loW o.size 1 ++ o = y at *
  generalize rtK = rk at *
  clear HE hls hx
  go_enter Try.func20, Try.ntmps20
  go_wp2_with fail
  refine (unhide H1 _).mono ?_
  rintro e w1 ⟨kb, gk, ok, ck, gt, rfl, m1, b1⟩
  have M1 := hide m1
  have B1 := hide b1
  clear m1 b1
  go_wp2_with fail
  refine (unhide HI _).mono ?_
  rintro e w2 ⟨rfl, b2⟩
  have M2 := hide ((unhide M1).keep b2)
  have B2 := hide ((unhide B1).trans (b2.mono (unhide B1).size))
  clear b2 B1 M1
  go_wp2_with fail
  refine (unhide H2 _ _ _ _ _ _ (unhide M2)).mono ?_
  rintro e w3 ⟨rfl, b3⟩
  have B3 := hide ((unhide B2).trans (b3.mono (unhide B2).size))
  clear b3 B2 M2
  go_wp2
  go_ret
  exact ⟨rfl, unhide B3⟩
theorem specRT_ok (o p : ByteArray) (ho : o.size ≤ 20) (hp : p.size ≤ 1000) (w : World) :
    Calls Try.prog 9 #[.string o, .string p] w fun e w' => e = .returned (.tuple #[.string (rtW o p), .bool true]) ∧ Below w.heap.size w w' := by
  have H := hide (specTag10 o p ho hp)
  generalize rtW o p = r at *
  have h1 : ¬ (20 : Int) < (o.size : Int) := by omega
  have h2 : ¬ (1000 : Int) < (p.size : Int) := by omega
  go_enter Try.func9, Try.ntmps9
  go_wp2_with fail
  refine (unhide H _).mono ?_
  rintro e w1 ⟨rfl, b1⟩
  have B1 := hide b1
  clear b1
  go_wp2
  go_ret2
  exact ⟨rfl, unhide B1⟩
theorem specRT_no (o p : ByteArray) (h : ¬ (o.size ≤ 20 ∧ p.size ≤ 1000)) (l0 : o.size ≤ 1048576) (l1 : p.size ≤ 1048576) (w : World) :
    Calls Try.prog 9 #[.string o, .string p] w fun e w' => e = .returned (.tuple #[.string ⟨#[]⟩, .bool false]) ∧ Below w.heap.size w w' := by
  by_cases ho : o.size ≤ 20
  · have h1 : ¬ (20 : Int) < (o.size : Int) := by omega
    have h2 : (1000 : Int) < (p.size : Int) := by omega
    go_enter Try.func9, Try.ntmps9
    go_wp2
    go_ret2
    exact ⟨rfl, Below.refl _ _⟩
  · have h1 : (20 : Int) < (o.size : Int) := by omega
    go_enter Try.func9, Try.ntmps9
    go_wp2
    go_ret2
    exact ⟨rfl, Below.refl _ _⟩
end Go.Proofs.Ytomkoakkgoknjaa
