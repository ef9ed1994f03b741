/-
  Contracts: words put behind a slice that the call owns.
-/
import Derived.Test.YtmajcpimahkpfaaDoorOwb
namespace Go.Proofs.YtmajcpimahkpfaaDoor
open Go.ChangeShapes Go.WideShapes Go.ChangeAt Go.RowKit
set_option linter.unusedVariables false

/-- the bytes of the first m words -/
def wds (V : Nat → Int) : Nat → List UInt8
  | 0 => []
  | m + 1 => wds V m ++ fx (V m) 4 4
theorem wds_length (V : Nat → Int) : ∀ m, (wds V m).length = 4 * m
  | 0 => rfl
  | m + 1 => by
    have h1 := wds_length V m
    simp only [wds, List.length_append, fx_length]; omega

theorem bs_fx4 (n : Int) (h0 : 0 ≤ n) (h1 : n ≤ 4294967295) : bs (fx n 4 4) = [.int .u8 (n / 16777216), .int .u8 (n / 65536 % 256), .int .u8 (n / 256 % 256), .int .u8 (n % 256)] := by
  have h0 : ((bt n 0).toNat : Int) = n % 256 := by have := bt_toNat n 0; simpa using this
  have h1 : ((bt n 1).toNat : Int) = n / 256 % 256 := bt_toNat n 1
  have h2 : ((bt n 2).toNat : Int) = n / 65536 % 256 := bt_toNat n 2
  have h3 : ((bt n 3).toNat : Int) = n / 16777216 % 256 := bt_toNat n 3
  have h4 : n / 16777216 % 256 = n / 16777216 := by omega
  show [Value.int .u8 ((bt n 3).toNat : Int), .int .u8 ((bt n 2).toNat : Int), .int .u8 ((bt n 1).toNat : Int), .int .u8 ((bt n 0).toNat : Int)] = _
  rw [h0, h1, h2, h3, h4]
theorem ow_news {base : Nat} {w' : World} {g cap m : Nat} {xs ys : List UInt8} (h : w'.ownsRow base 5 1 (.slice (some ⟨g, 0, none⟩) m cap) m (bs xs ++ bs ys)) (hm : m = xs.length + ys.length) : Ow base w' (.slice (some ⟨g, 0, none⟩) m cap) (xs ++ ys) := by
  unfold Ow
  rw [List.length_append, bs_append, ← hm]
  exact h

set_option maxHeartbeats 2000000 in
theorem appendWords_ow (v : Value) (xs : List UInt8) (g off m cap : Nat) (V : Nat → Int) (w : World) (base : Nat) (h : Ow base w v xs) (hbase : base ≤ w.heap.size) (hlen : xs.length ≤ 1048576) (hm : m ≤ 20)
    (hc : ∀ W u, Gr w W v u → ∀ i, i < m → W.cell? ⟨g, off + i, none⟩ = some (.int .i64 (V i))) (hN : ∀ i, i < m → 0 ≤ V i ∧ V i ≤ 4294967295) :
    Calls Tryd.prog 28 #[v, .slice (some ⟨g, off, none⟩) m cap] w fun e w' => ∃ v', e = .returned v' ∧ Ow base w' v' (xs ++ wds V m) ∧ Gr w w' v v' := by
  obtain ⟨i0, hi, hz0, hz1, hz2⟩ := info_parts Tryd.info5
  have HO := hide h
  have HC := hide hc
  have HN := hide hN
  clear h hc hN
  go_enter Tryd.func28, Tryd.ntmps28
  go_wp2
  go_loopw [0, 9] (fun u i wr => ∃ q : Nat, q ≤ m ∧ i = .int .i64 q ∧ Ow base wr u (xs ++ wds V q) ∧ Gr w wr v u) (fun _ i _ => m - (intOf i).toNat)
  case atStart => exact ⟨0, Nat.zero_le _, rfl, by simpa [wds] using unhide HO, Gr.refl _ _⟩
  case round =>
    obtain ⟨q, hq, rfl, how, hgr⟩ := hrel
    by_cases hlt : q < m
    · have hcell := unhide HC wr u0 hgr q hlt
      have hn := unhide HN q hlt
      obtain ⟨hn0, hn1⟩ := hn
      have hl := wds_length V q
      have hb := hgr.below (unhide HO) hbase
      have hsz := hb.size
      obtain ⟨a0, c0, e0⟩ := how.shape
      have hL : (xs ++ wds V q).length = xs.length + 4 * q := by rw [List.length_append, hl]
      rw [hL] at e0
      subst e0
      have how2 : wr.ownsRow base 5 1 (.slice a0 (xs.length + 4 * q) c0) (xs.length + 4 * q) (bs (xs ++ wds V q)) := by have := how; unfold Ow at this; rw [hL] at this; exact this
      have HL := hide hL
      clear hl hL how
      have hcl : g < wr.heap.size := World.block_lt_of_cell? wr _ hcell
      go_wp2_with (at_builtin; refine wpList_append_lies _ rfl _ _ 22 rfl base 5 i0 (.int .u8 0) 1 1 Tryd.underlying22 hi hz0 hz1 hz2 rfl (by decide) _ _ _ rfl (how2.alloc _) ⟨wr.heap.size, 0, none⟩ 4 4 [.int .u8 (V q / 16777216), .int .u8 (V q / 65536 % 256), .int .u8 (V q / 256 % 256), .int .u8 (V q % 256)] rfl rfl ?c1 ?c2 (by omega) ?c3 ?c4 ?c5 (wr.heap.size + 1) (by simp) ?_)
      case c1 =>
        intro j u hj
        match j, hj with
        | 0, hj => simp at hj; subst hj; simp [Addr.add]
        | 1, hj => simp at hj; subst hj; simp [Addr.add]
        | 2, hj => simp at hj; subst hj; simp [Addr.add]
        | 3, hj => simp at hj; subst hj; simp [Addr.add]
      case c2 => intro u hu; simp at hu; rcases hu with rfl | rfl | rfl | rfl <;> rfl
      case c3 => unfold maxLen; omega
      case c4 => omega
      case c5 => simp; omega
      intro g' cap' w1 hown' hgrow hat hlt'
      have R1 : Gr w w1 v (.slice (some ⟨g', 0, none⟩) (xs.length + 4 * q + 4) cap') := (hgr.alloc (.cells #[.int .u8 (V q / 16777216), .int .u8 (V q / 65536 % 256), .int .u8 (V q / 256 % 256), .int .u8 (V q % 256)] 5)).trans ⟨hgrow, by rcases hat with e | e; exact Or.inl e.symm; exact Or.inr ⟨g', rfl, by simp; omega⟩⟩
      have R2 : Ow base w1 (.slice (some ⟨g', 0, none⟩) (xs.length + 4 * q + 4) cap') (xs ++ wds V (q + 1)) := by
        rw [wds, ← List.append_assoc]
        rw [← bs_fx4 _ hn0 hn1] at hown'
        exact ow_news hown' (by rw [fx_length, unhide HL])
      clear hown' hgrow hat how2
      go_wp2
      exact ⟨⟨q + 1, by omega, by go_num, R2, R1⟩, by simp [intOf]; omega⟩
    · obtain rfl : q = m := by omega
      go_wp2
      go_ret
      exact ⟨_, rfl, how, hgr⟩
end Go.Proofs.YtmajcpimahkpfaaDoor
