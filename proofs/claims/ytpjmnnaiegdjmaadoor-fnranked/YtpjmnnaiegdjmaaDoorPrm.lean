/-
  Contracts: the model's primes.
-/
import Derived.Test.YtpjmnnaiegdjmaaDoorOww
namespace Go.Proofs.YtpjmnnaiegdjmaaDoor
open Go.ChangeShapes Go.WideShapes Go.ChangeAt Go.RowKit
set_option linter.unusedVariables false

/-- whether none of these parts p -/
def noPart (l : List Nat) (p : Nat) : Bool := l.all fun q => p % q != 0
/-- the primes below 2 + k -/
def prm : Nat → List Nat
  | 0 => []
  | k + 1 => if noPart (prm k) (2 + k) then prm k ++ [2 + k] else prm k
/-- the first 64 primes -/
def tabP : List Nat := [2, 3, 5, 7, 11, 13, 17, 19, 23, 29, 31, 37, 41, 43, 47, 53, 59, 61, 67, 71, 73, 79, 83, 89, 97, 101, 103, 107, 109, 113, 127, 131, 137, 139, 149, 151, 157, 163, 167, 173, 179, 181, 191, 193, 197, 199, 211, 223, 227, 229, 233, 239, 241, 251, 257, 263, 269, 271, 277, 281, 283, 293, 307, 311]
theorem prm_all : ∀ k, k < 311 → prm k = tabP.take (prm k).length ∧ (prm k).length ≤ 64 ∧ (∀ q ∈ prm k, 2 ≤ q ∧ q < 2 + k) ∧ (k < 310 → (prm k).length < 64) ∧ (k = 310 → (prm k).length = 64) := by decide +kernel
/-- the prime at a place -/
def P64 (i : Nat) : Nat := tabP.getD i 0
theorem prm_at (k : Nat) (hk : k < 311) (i : Nat) (hi : i < (prm k).length) : (prm k)[i]? = some (P64 i) := by
  have h := (prm_all k hk).1
  have h2 : (tabP.take (prm k).length)[i]? = tabP[i]? := by rw [List.getElem?_take, if_pos hi]
  rw [h, h2]
  have hl : i < tabP.length := Nat.lt_of_lt_of_le hi (prm_all k hk).2.1
  unfold P64
  rw [List.getElem?_eq_getElem hl, List.getD_eq_getElem?_getD, List.getElem?_eq_getElem hl]
  rfl
theorem P64_in (k : Nat) (hk : k < 311) (i : Nat) (hi : i < (prm k).length) : 2 ≤ P64 i ∧ P64 i < 2 + k :=
  (prm_all k hk).2.2.1 _ (List.mem_of_getElem? (prm_at k hk i hi))
theorem P64_new (k : Nat) (hk : k < 310) (h : noPart (prm k) (2 + k) = true) : P64 (prm k).length = 2 + k := by
  have e : prm (k + 1) = prm k ++ [2 + k] := by rw [prm, if_pos h]
  have h1 := prm_at (k + 1) (by omega) (prm k).length (by rw [e]; simp)
  rw [e] at h1
  simp at h1
  exact h1.symm
theorem noPart_step (l : List Nat) (i p x : Nat) (h : l[i]? = some x) : noPart (l.take (i + 1)) p = (noPart (l.take i) p && p % x != 0) := by
  unfold noPart
  rw [List.take_add_one, h]
  simp
theorem bne_cast (k x : Nat) : ((2 + (k : Int)) % (x : Int) != 0) = ((2 + k) % x != 0) := by
  rw [show (2 + (k : Int)) % (x : Int) = (((2 + k) % x : Nat) : Int) by rw [Int.natCast_emod]; rfl]
  exact Bool.eq_iff_iff.2 (by simp only [bne_iff_ne]; omega)
theorem new_i (w : World) (x : Nat) : Ai (w.alloc (.cells #[.int .i64 (x : Int)] 3)) w.heap.size 0 1 (fun _ => x) := by
  have h := Ai.new w 1 (fun _ => x) 3
  rw [ui_def] at h
  exact h
set_option maxRecDepth 100000 in
set_option maxHeartbeats 400000 in
theorem specPrimes (n : Nat) (hn : n ≤ 64) (w : World) :
    Calls Tryd.prog 78 #[.int .i64 n] w fun e w' => ∃ v, e = .returned v ∧ Oi w.heap.size w' v n P64 ∧ Below w.heap.size w w' := by
  obtain ⟨i0, hi, hz0, hz1, hz2⟩ := info_i64i
  go_enter Tryd.func78, Tryd.ntmps78
  go_wp2_with fail
  go_loopw [3, 4] (fun v pv wr => ∃ k : Nat, k < 311 ∧ (prm k).length ≤ n ∧ pv = .int .i64 (2 + (k : Int)) ∧ Oi w.heap.size wr v (prm k).length P64 ∧ Below w.heap.size w wr) (fun _ pv _ => 312 - (intOf pv).toNat)
  case atStart => exact ⟨0, by omega, by simp [prm], rfl, Oi.nil _ _ _, Below.refl _ _⟩
  case round =>
    obtain ⟨k, hk, hkn, rfl, ho, hb⟩ := hrel
    obtain ⟨a, cap, rfl, hop⟩ := ho.opens
    have HP := hide (prm_all k hk)
    have HA := hide (fun i hi => prm_at k hk i hi)
    have HI := hide (fun i hi => P64_in k hk i hi)
    have hwz := hb.size
    have HN := hide (fun hk h => P64_new k hk h)
    have HS := hide (fun i x h => noPart_step (prm k) i (2 + k) x h)
    have HE1 : Hid (prm (k + 1) = if noPart (prm k) (2 + k) = true then prm k ++ [2 + k] else prm k) := rfl
    have hl64 := (unhide HP).2.2.2.1
    have hl65 := (unhide HP).2.2.2.2
    generalize hL : prm k = L at *
    have HO := hide ho
    have HOP := hide hop
    have HB := hide hb
    clear ho hop hb hL
    by_cases hlt : L.length < n
    · have hk2 : k < 310 := by
        by_cases h9 : k < 310
        · exact h9
        · have := hl65 (by omega); omega
      go_wp2_with fail
      go_loopw [16, 5] (fun iv bv wx => ∃ i : Nat, i ≤ L.length ∧ iv = .int .i64 i ∧ bv = .bool (noPart (L.take i) (2 + k)) ∧ wx = wr) (fun iv _ _ => L.length - (intOf iv).toNat)
      case atStart => exact ⟨0, by omega, rfl, rfl, rfl⟩
      case round =>
        obtain ⟨i, hi1, rfl, rfl, rfl⟩ := hrel
        by_cases hli : i < L.length
        · obtain ⟨g, rfl, hg, hA⟩ := unhide HOP (by omega)
          have hc := hA.c0 i hli
          have hst := unhide HS i _ (unhide HA i hli)
          have hin := unhide HI i hli
          have HST := hide hst
          clear hst hA HA HI HS HOP HO HB HP
          generalize P64 i = x at *
          cases hb9 : noPart (L.take i) (2 + k) with
          | false =>
            rw [hb9] at HST
            go_wp2_with fail
            exact ⟨⟨i + 1, by omega, by go_num, by rw [unhide HST]; rfl, trivial⟩, by simp [intOf]; omega⟩
          | true =>
            rw [hb9] at HST
            go_wp2_with fail
            exact ⟨⟨i + 1, by omega, by go_num, by rw [unhide HST, bne_cast]; rfl, trivial⟩, by simp [intOf]; omega⟩
        · obtain rfl : i = L.length := by omega
          rw [List.take_length]
          cases hb9 : noPart L (2 + k) with
          | false =>
            rw [hb9] at HE1
            have HE2 : Hid (prm (k + 1) = L) := unhide HE1
            clear HE1 HP HA HI HS HOP
            go_wp2_with fail
            exact ⟨⟨k + 1, by omega, by rw [unhide HE2]; omega, by go_num, by rw [unhide HE2]; exact unhide HO, unhide HB⟩, by simp [intOf]; omega⟩
          | true =>
            rw [hb9] at HE1
            have HE2 : Hid (prm (k + 1) = L ++ [2 + k]) := unhide HE1
            have HN2 := hide (unhide HN hk2 hb9)
            have e2 : (((2 + k : Nat)) : Int) = 2 + (k : Int) := by omega
            have hnw := new_i wr (2 + k)
            rw [e2] at hnw
            have B1 := (Below.refl wr.heap.size wr).alloc (Nat.le_refl _) (.cells #[.int .i64 (2 + (k : Int))] 3)
            have HO3 := hide ((unhide HO).kept B1)
            have hz3 : (wr.alloc (.cells #[.int .i64 (2 + (k : Int))] 3)).heap.size = wr.heap.size + 1 := by simp
            have HB3 := hide ((unhide HB).trans (B1.mono hwz))
            have HBk := hide (fun (W : World) (hg : (wr.alloc (.cells #[.int .i64 (2 + (k : Int))] 3)).grownBy W (Value.slice a L.length cap).ownBlock) => Oi.below (unhide HO3) hg (by omega))
            have hnew : Hid (∀ j u, (ui 1 (fun _ => 2 + k))[j]? = some u → (wr.alloc (.cells #[.int .i64 (2 + (k : Int))] 3)).cell? ((⟨wr.heap.size, 0, none⟩ : Addr).add j) = some u) := fun j u hu => by rw [Addr.add_mid]; exact hnw.range j u hu
            have hone := hide (ui_oneL 1 (fun _ => 2 + k))
            clear HE1 HP HA HI HS HOP HN hnw B1 HO HB
            go_wp2_with (at_builtin; refine wpList_append_lies _ rfl _ _ 53 rfl w.heap.size 3 i0 (.int .i64 0) 1 8 Tryd.underlying53 hi hz0 hz1 hz2 rfl (by decide) _ _ _ rfl (unhide HO3) ⟨wr.heap.size, 0, none⟩ 1 1 (ui 1 (fun _ => 2 + k)) rfl ?c0 (unhide hnew) (unhide hone) (by omega) ?c3 ?c4 ?c5 (wr.heap.size + 1) ?c6 ?_)
            case c0 => rw [ui_length]
            case c3 => unfold maxLen; omega
            case c4 => omega
            case c5 => omega
            case c6 => exact hz3
            intro g cap' w' hown hgrow hat hlt'
            rw [show ui 1 (fun _ => 2 + k) = ui 1 (fun i => P64 (L.length + i)) from ui_congr fun i hi => by obtain rfl : i = 0 := (by omega); exact (unhide HN2).symm] at hown
            have R1 := hide (Oi.grow hown)
            have R2 := unhide HBk w' hgrow
            have R3 := hide ((unhide HB3).trans R2)
            clear hown hgrow hat R2 HO3 HBk HB3 hnew hone
            go_wp2
            exact ⟨⟨k + 1, by omega, by rw [unhide HE2]; simp; omega, by go_num, by rw [unhide HE2]; simp; exact unhide R1, unhide R3⟩, by simp [intOf]; omega⟩
    · obtain rfl : n = L.length := by omega
      clear HE1 HP HA HI HS HOP HN
      go_wp2
      go_ret
      exact ⟨_, rfl, unhide HO, unhide HB⟩
end Go.Proofs.YtpjmnnaiegdjmaaDoor
