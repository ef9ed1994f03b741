/-
  What is sealed: its two parts, and what is counted twice. Contracts: MintToken of both sides. A token that was minted, checked: what its key opens. Contracts: MintToken of the model. Contracts: a text with one bit turned, of any length.
-/
import Derived.Test.YtkpodgeinanceaaL5kX
import Derived.Test.YtkpodgeinanceaaMnt
import Derived.Test.YtkpodgeinanceaaE5w
import Derived.Test.YtkpodgeinanceaaL6f
import Derived.Test.YtkpodgeinanceaaCklX
import Derived.Test.YtkpodgeinanceaaGmu
import Derived.Test.YtkpodgeinanceaaArs
namespace Go.Proofs.Ytkpodgeinanceaa
open Go.ChangeShapes Go.WideShapes Go.ChangeAt Go.RowKit
set_option linter.unusedVariables false

/-- a text counted twice is itself -/
theorem cn_twice (key nonce t : ByteArray) : cnW key nonce (cnW key nonce t) = t := by
  have e : cnW key nonce (cnW key nonce t) = bq t.size (at8 t) := by
    show bq (cnW key nonce t).size (cnF key nonce (cnW key nonce t)) = _
    rw [cnW_size]
    refine bq_congr (fun i hi => ?_)
    unfold cnF
    rw [show at8 (cnW key nonce t) i = cnF key nonce t i from at8_bq _ _ i hi (cnF_lt key nonce t i)]
    unfold cnF
    rw [Nat.xor_assoc, Nat.xor_self, Nat.xor_zero]
  rw [e, bq_at8]
theorem se_head (key nonce b t : ByteArray) : (seW key nonce b t).extract 0 t.size = cnW key nonce t := by
  have hc := cnW_size key nonce t
  have hz : ((seW key nonce b t).extract 0 t.size).size = t.size := by rw [ByteArray.size_extract, seW_size]; omega
  rw [← bq_at8 ((seW key nonce b t).extract 0 t.size), hz, ← bq_at8 (cnW key nonce t), hc]
  refine bq_congr (fun i hi => ?_)
  rw [at8_extract _ 0 t.size i (by rw [seW_size]; omega) (by omega), Nat.zero_add]
  unfold seW
  rw [at8_append, hc, if_pos hi]
theorem se_tail (key nonce b t : ByteArray) : (seW key nonce b t).extract t.size (t.size + 16) = tgW key nonce b (cnW key nonce t) := by
  have hc := cnW_size key nonce t
  have ht := tgW_size key nonce b (cnW key nonce t)
  have hz : ((seW key nonce b t).extract t.size (t.size + 16)).size = 16 := by rw [ByteArray.size_extract, seW_size]; omega
  rw [← bq_at8 ((seW key nonce b t).extract t.size (t.size + 16)), hz, ← bq_at8 (tgW key nonce b (cnW key nonce t)), ht]
  refine bq_congr (fun i hi => ?_)
  rw [at8_extract _ t.size (t.size + 16) i (by rw [seW_size]; omega) (by omega)]
  show at8 (cnW key nonce t ++ tgW key nonce b (cnW key nonce t)) (t.size + i) = _
  rw [at8_append, hc, if_neg (by omega), show t.size + i - t.size = i by omega]
end Go.Proofs.Ytkpodgeinanceaa
namespace Go.Proofs.Ytkpodgeinanceaa
open Go.ChangeShapes Go.WideShapes Go.ChangeAt Go.RowKit
set_option linter.unusedVariables false
set_option maxRecDepth 100000

/-- a token -/
def mtW (k n a d : ByteArray) (t : Nat) (b : Bool) : ByteArray := mkW b ++ n ++ seW k n (mkW b ++ a) (loW t 8 ++ d)
def mtB (k n a d : Nat) (t : Int) : Prop := k = 16 ∧ n = 12 ∧ (1 ≤ a ∧ a ≤ 18) ∧ d ≤ 20 ∧ 0 ≤ t ∧ t ≤ 1000000000

set_option maxHeartbeats 1000000 in
theorem implMT_ok (k n a d : ByteArray) (t : Nat) (b : Bool) (h : mtB k.size n.size a.size d.size t) (w : World) :
    Calls Try.prog 12 #[.string k, .string n, .string a, mnV d t b] w fun e w' => e = .returned (.tuple #[.string (mtW k n a d t b), .bool true]) ∧ Below w.heap.size w w' := by
  obtain ⟨hk, hn, ha, hd, h0, h1⟩ := h
  have HA := hide (goodAd a (by omega))
  rw [decide_eq_true ha] at HA
  have HG := hide (goodMd d (t : Int) b (by omega))
  rw [decide_eq_true ⟨hd, h0, h1⟩] at HG
  have HM := hide (implMk b)
  have HL : Hid (∀ W, Calls Try.prog 33 #[.int .i64 t, .int .i64 8] W fun e w' => e = .returned (.string (loW t 8)) ∧ Below W.heap.size W w') := implLow t 8 (by omega) (by omega)
  have hbs := mkW_size b
  have hls := loW_size t 8
  have HS := hide (implST_ok k n (mkW b ++ a) (loW t 8 ++ d) ⟨hk, hn, by rw [ByteArray.size_append]; omega, by rw [ByteArray.size_append]; omega⟩)
  have ad1 := fun W : World => run_string_add_sum (P := Try.prog) (w := W) (mkW b) a (by omega)
  have ad2 := fun W : World => run_string_add_sum (P := Try.prog) (w := W) (loW t 8) d (by omega)
  have ad3 := fun W : World => run_string_add_sum (P := Try.prog) (w := W) (mkW b) n (by omega)
  have hz := seW_size k n (mkW b ++ a) (loW t 8 ++ d)
  have ad4 := fun W : World => run_string_add_sum (P := Try.prog) (w := W) (mkW b ++ n) (seW k n (mkW b ++ a) (loW t 8 ++ d)) (by rw [hz, ByteArray.size_append, ByteArray.size_append]; omega)
  have HE : Hid (mkW b ++ n ++ seW k n (mkW b ++ a) (loW t 8 ++ d) = mtW k n a d t b) := rfl
  rw [unhide HE] at ad4
  generalize mtW k n a d t b = r at *
  generalize seW k n (mkW b ++ a) (loW t 8 ++ d) = sw at *
  generalize mkW b ++ a = y at *
  generalize mkW b ++ n = z at *
  generalize loW t 8 ++ d = x at *
  generalize mkW b = m at *
  generalize loW t 8 = l at *
  clear hz HE hbs hls
  go_enter Try.func12, Try.ntmps12
  go_wp2_with fail
  refine (unhide HA _).mono ?_
  rintro e w1 ⟨rfl, b1⟩
  have D1 := hide b1
  have B1 : Hid (Below w.heap.size w w1) := ((Below.refl _ _).alloc (Nat.le_refl _) _).trans (b1.mono (by simp))
  obtain ⟨hc1, hf1⟩ := bcell b1
  have p1 : ∀ o, w1.cell? ⟨w.heap.size, o, none⟩ = _ := fun o => hc1 w.heap.size o (by simp)
  clear b1 hc1 hf1
  go_wp2_with fail
  refine (unhide HG _).mono ?_
  rintro e w2 ⟨rfl, b2⟩
  have D2 := hide ((unhide D1).trans (b2.mono (unhide D1).size))
  have B2 := hide ((unhide B1).trans (b2.mono (unhide B1).size))
  clear p1 D1 B1 b2
  obtain ⟨hc1, hf1⟩ := bcell (unhide D2)
  have p2 : ∀ o, w2.cell? ⟨w.heap.size, o, none⟩ = _ := fun o => hc1 w.heap.size o (by simp)
  clear hc1 hf1
  go_wp2_with fail
  refine (unhide HM _).mono ?_
  rintro e w3 ⟨rfl, h9⟩
  rw [h9]
  clear h9 w3
  have KQ : Hid (∀ V, Below w2.drew.heap.size w2.drew V → V.cell? ⟨w.heap.size, 0, none⟩ = some (.string d) ∧ V.cell? ⟨w.heap.size, 1, none⟩ = some (.int .i64 t)) := fun V hV => by
    have hV2 := (unhide D2).drew.trans (hV.mono (by have := (unhide D2).size; rw [World.size_drew]; exact this))
    obtain ⟨hc, _⟩ := bcell hV2
    exact ⟨by rw [hc w.heap.size 0 (by simp)]; simp, by rw [hc w.heap.size 1 (by simp)]; simp⟩
  have S0 := hide (unhide KQ _ (Below.refl _ _))
  go_wp2_with fail
  go_region_held3 (fun V => V.cell? ⟨w.heap.size, 0, none⟩ = some (.string d) ∧ V.cell? ⟨w.heap.size, 1, none⟩ = some (.int .i64 t)) (first | exact unhide S0 | exact unhide KQ _ b5 | exact unhide KQ _ (b5.trans (b6.mono b5.size))) (first
    | (go_at_call 33; with_reducible refine (unhide HL _).mono ?_; rintro e w5 ⟨rfl, b5⟩)
    | (go_at_call 32; with_reducible refine (unhide HS _).mono ?_; rintro e w6 ⟨rfl, b6⟩))
  have B6 := hide ((unhide B2).drew.trans ((b5.trans (b6.mono b5.size)).mono (by have := (unhide B2).size; rw [World.size_drew]; exact this)))
  clear b5 b6 KQ S0 p2
  go_wp2
  go_ret2
  exact ⟨rfl, unhide B6⟩
set_option maxHeartbeats 1000000 in
theorem implMT_no (k n a d : ByteArray) (t : Int) (b : Bool) (h : ¬ mtB k.size n.size a.size d.size t) (l0 : k.size ≤ 1048576) (l1 : n.size ≤ 1048576) (l2 : a.size ≤ 1048576) (l3 : d.size ≤ 1048576) (w : World) :
    Calls Try.prog 12 #[.string k, .string n, .string a, mnV d t b] w fun e w' => e = .returned (.tuple #[.string ⟨#[]⟩, .bool false]) ∧ Below w.heap.size w w' := by
  have HA := hide (goodAd a l2)
  by_cases ha : 1 ≤ a.size ∧ a.size ≤ 18
  case neg =>
    rw [decide_eq_false ha] at HA
    go_enter Try.func12, Try.ntmps12
    go_wp2_with fail
    refine (unhide HA _).mono ?_
    rintro e w1 ⟨rfl, b1⟩
    go_wp2
    go_ret2
    exact ⟨rfl, ((Below.refl _ _).alloc (Nat.le_refl _) _).trans (b1.mono (by simp))⟩
  rw [decide_eq_true ha] at HA
  have HG := hide (goodMd d t b l3)
  by_cases hg : d.size ≤ 20 ∧ 0 ≤ t ∧ t ≤ 1000000000
  case neg =>
    rw [decide_eq_false hg] at HG
    clear hg h
    go_enter Try.func12, Try.ntmps12
    go_wp2_with fail
    refine (unhide HA _).mono ?_
    rintro e w1 ⟨rfl, b1⟩
    have B1 : Hid (Below w.heap.size w w1) := ((Below.refl _ _).alloc (Nat.le_refl _) _).trans (b1.mono (by simp))
    obtain ⟨hc1, hf1⟩ := bcell b1
    have p1 : ∀ o, w1.cell? ⟨w.heap.size, o, none⟩ = _ := fun o => hc1 w.heap.size o (by simp)
    clear b1 hc1 hf1
    go_wp2_with fail
    refine (unhide HG _).mono ?_
    rintro e w2 ⟨rfl, b2⟩
    go_wp2
    go_ret2
    exact ⟨rfl, (unhide B1).trans (b2.mono (unhide B1).size)⟩
  rw [decide_eq_true hg] at HG
  obtain ⟨hd, ht⟩ := hg
  obtain ⟨m, rfl⟩ : ∃ m : Nat, t = (m : Int) := ⟨t.toNat, by omega⟩
  have hkn : ¬ (k.size = 16 ∧ n.size = 12) := fun x => h ⟨x.1, x.2, ha, hd, ht.1, ht.2⟩
  have HM := hide (implMk b)
  have HL : Hid (∀ W, Calls Try.prog 33 #[.int .i64 m, .int .i64 8] W fun e w' => e = .returned (.string (loW m 8)) ∧ Below W.heap.size W w') := implLow m 8 (by omega) (by omega)
  have hbs := mkW_size b
  have hls := loW_size m 8
  have HS := hide (implST_no k n (mkW b ++ a) (loW m 8 ++ d) (fun x => hkn ⟨x.1, x.2.1⟩) l0 l1 (by rw [ByteArray.size_append]; omega) (by rw [ByteArray.size_append]; omega))
  have ad1 := fun W : World => run_string_add_sum (P := Try.prog) (w := W) (mkW b) a (by omega)
  have ad2 := fun W : World => run_string_add_sum (P := Try.prog) (w := W) (loW m 8) d (by omega)
  generalize mkW b ++ a = y at *
  generalize loW m 8 ++ d = x at *
  generalize mkW b = mm at *
  generalize loW m 8 = l at *
  clear hbs hls hkn h
  go_enter Try.func12, Try.ntmps12
  go_wp2_with fail
  refine (unhide HA _).mono ?_
  rintro e w1 ⟨rfl, b1⟩
  have D1 := hide b1
  have B1 : Hid (Below w.heap.size w w1) := ((Below.refl _ _).alloc (Nat.le_refl _) _).trans (b1.mono (by simp))
  obtain ⟨hc1, hf1⟩ := bcell b1
  have p1 : ∀ o, w1.cell? ⟨w.heap.size, o, none⟩ = _ := fun o => hc1 w.heap.size o (by simp)
  clear b1 hc1 hf1
  go_wp2_with fail
  refine (unhide HG _).mono ?_
  rintro e w2 ⟨rfl, b2⟩
  have D2 := hide ((unhide D1).trans (b2.mono (unhide D1).size))
  have B2 := hide ((unhide B1).trans (b2.mono (unhide B1).size))
  clear p1 D1 B1 b2
  obtain ⟨hc1, hf1⟩ := bcell (unhide D2)
  have p2 : ∀ o, w2.cell? ⟨w.heap.size, o, none⟩ = _ := fun o => hc1 w.heap.size o (by simp)
  clear hc1 hf1
  go_wp2_with fail
  refine (unhide HM _).mono ?_
  rintro e w3 ⟨rfl, h9⟩
  rw [h9]
  clear h9 w3
  have KQ : Hid (∀ V, Below w2.drew.heap.size w2.drew V → V.cell? ⟨w.heap.size, 0, none⟩ = some (.string d) ∧ V.cell? ⟨w.heap.size, 1, none⟩ = some (.int .i64 m)) := fun V hV => by
    have hV2 := (unhide D2).drew.trans (hV.mono (by have := (unhide D2).size; rw [World.size_drew]; exact this))
    obtain ⟨hc, _⟩ := bcell hV2
    exact ⟨by rw [hc w.heap.size 0 (by simp)]; simp, by rw [hc w.heap.size 1 (by simp)]; simp⟩
  have S0 := hide (unhide KQ _ (Below.refl _ _))
  go_wp2_with fail
  go_region_held3 (fun V => V.cell? ⟨w.heap.size, 0, none⟩ = some (.string d) ∧ V.cell? ⟨w.heap.size, 1, none⟩ = some (.int .i64 m)) (first | exact unhide S0 | exact unhide KQ _ b5 | exact unhide KQ _ (b5.trans (b6.mono b5.size))) (first
    | (go_at_call 33; with_reducible refine (unhide HL _).mono ?_; rintro e w5 ⟨rfl, b5⟩)
    | (go_at_call 32; with_reducible refine (unhide HS _).mono ?_; rintro e w6 ⟨rfl, b6⟩))
  have B6 := hide ((unhide B2).drew.trans ((b5.trans (b6.mono b5.size)).mono (by have := (unhide B2).size; rw [World.size_drew]; exact this)))
  clear b5 b6 KQ S0 p2
  go_wp2
  go_ret2
  exact ⟨rfl, unhide B6⟩
end Go.Proofs.Ytkpodgeinanceaa
namespace Go.Proofs.Ytkpodgeinanceaa
open Go.ChangeShapes Go.WideShapes Go.ChangeAt Go.RowKit
set_option linter.unusedVariables false

theorem nb_lo8 (m : Nat) (h : m < 18446744073709551616) : nbW (loW m 8) 8 = m := by
  have h0 : ∀ i, i < 8 → at8 (loW m 8) i = nB m (8 - 1 - i) := fun i hi => at8_bq 8 _ i hi (by unfold nB; omega)
  simp only [nbW]
  rw [h0 0 (by omega), h0 1 (by omega), h0 2 (by omega), h0 3 (by omega), h0 4 (by omega), h0 5 (by omega), h0 6 (by omega), h0 7 (by omega)]
  unfold nB
  simp only [Nat.reducePow, Nat.reduceSub]
  omega
section
variable (k n a d : ByteArray) (t : Nat) (b : Bool)
theorem mt_size (hn : n.size = 12) : (mtW k n a d t b).size = 37 + d.size := by
  unfold mtW
  rw [ByteArray.size_append, ByteArray.size_append, mkW_size, seW_size, ByteArray.size_append, loW_size, hn]; omega
theorem mt_head (hn : n.size = 12) : (mtW k n a d t b).extract 0 1 = mkW b := by
  have h1 := mkW_size b
  unfold mtW
  rw [ByteArray.append_assoc, ByteArray.extract_append_eq_left h1.symm]
theorem mt_no (hn : n.size = 12) : noC (mtW k n a d t b) = n := by
  have h1 := mkW_size b
  have hs : (mkW b ++ n).size = 13 := by rw [ByteArray.size_append, h1, hn]
  unfold noC mtW
  rw [ByteArray.extract_append, hs, show (1 : Nat) - 13 = 0 from rfl, ByteArray.extract_append_eq_right h1.symm (by rw [h1, hn])]
  apply ByteArray.ext; simp
theorem mt_se (hn : n.size = 12) : seC (mtW k n a d t b) = seW k n (mkW b ++ a) (loW t 8 ++ d) := by
  have h1 := mkW_size b
  have hs : (mkW b ++ n).size = 13 := by rw [ByteArray.size_append, h1, hn]
  unfold seC
  rw [mt_size k n a d t b hn]
  unfold mtW
  exact ByteArray.extract_append_eq_right hs.symm (by rw [hs, seW_size, ByteArray.size_append, loW_size]; omega)
theorem mt_be (hn : n.size = 12) : beC (mtW k n a d t b) a = mkW b ++ a := by
  unfold beC
  rw [mt_head k n a d t b hn]
theorem lo_d (hn : n.size = 12) : (mtW k n a d t b).size - 29 = (loW t 8 ++ d).size := by
  rw [mt_size k n a d t b hn, ByteArray.size_append, loW_size]; omega
theorem mt_op (hn : n.size = 12) : opK k (mtW k n a d t b) a := by
  unfold opK
  rw [mt_no k n a d t b hn, mt_se k n a d t b hn, mt_be k n a d t b hn, lo_d k n a d t b hn, se_tail, se_head]
theorem mt_te (hn : n.size = 12) : teC k (mtW k n a d t b) = loW t 8 ++ d := by
  unfold teC
  rw [mt_no k n a d t b hn, mt_se k n a d t b hn, lo_d k n a d t b hn, se_head, cn_twice]
theorem mt_ti (hn : n.size = 12) (ht : t ≤ 1000000000) : tiC k (mtW k n a d t b) = t := by
  unfold tiC
  rw [mt_te k n a d t b hn, ByteArray.extract_append_eq_left (loW_size t 8).symm, nb_lo8 t (by omega), IntKind.wrap_i64]
  omega
theorem mt_id (hn : n.size = 12) : idC k (mtW k n a d t b) = d := by
  unfold idC
  rw [mt_te k n a d t b hn]
  exact ByteArray.extract_append_eq_right (loW_size t 8).symm (by rw [ByteArray.size_append])
theorem mt_at (hn : n.size = 12) : at8 (mtW k n a d t b) 0 = if b then 1 else 0 := by
  have h1 := mkW_size b
  unfold mtW
  rw [ByteArray.append_assoc, at8_append, h1, if_pos (by omega)]
  cases b <;> rfl
theorem mt_ts (hn : n.size = 12) (hd : d.size ≤ 20) : tsB (mtW k n a d t b) = true := by
  refine decide_eq_true ⟨?_, ?_, ?_⟩
  · rw [mt_size k n a d t b hn]; omega
  · rw [mt_size k n a d t b hn]; omega
  · rw [mt_at k n a d t b hn]; split <;> omega
end
/-- one key, its own: what it tells -/
theorem ck_right (F : Nat → ByteArray) (m i : Nat) (k n a d : ByteArray) (t : Nat) (b : Bool) (now life : Int) (h : mtB k.size n.size a.size d.size t) (hc : cbP F m a.size now life) (hi : i < m) (hF : F i = k) (hj : ∀ j, j < i → ¬ opK (F j) (mtW k n a d t b) a) (h1 : (t : Int) ≤ now) (h2 : now - t ≤ life) : ckW F m a (mtW k n a d t b) now life d t b 0 := by
  obtain ⟨_, hn, _, hd, _, ht⟩ := h
  refine Or.inl ⟨hc, ?_⟩
  unfold ckR
  rw [if_neg (by rw [mt_ts k n a d t b hn hd]; decide)]
  refine Or.inr ⟨i, hi, hj, by rw [hF]; exact mt_op k n a d t b hn, Or.inr ⟨?_, ?_, ?_, ?_, rfl⟩⟩
  · rw [hF, mt_ti k n a d t b hn (by omega)]; exact ⟨by omega, h1, h2⟩
  · rw [hF, mt_id k n a d t b hn]
  · rw [hF, mt_ti k n a d t b hn (by omega)]
  · rw [mt_at k n a d t b hn]; cases b <;> rfl
theorem ck_time (k n a d : ByteArray) (t : Nat) (b : Bool) (now life : Int) (F : Nat → ByteArray) (hF : F 0 = k) (h : mtB k.size n.size a.size d.size t) (hc : cbP F 1 a.size now life) (h1 : ¬ ((t : Int) ≤ now ∧ now - t ≤ life)) : ckW F 1 a (mtW k n a d t b) now life ⟨#[]⟩ 0 false 4 := by
  obtain ⟨_, hn, _, hd, _, ht⟩ := h
  refine Or.inl ⟨hc, ?_⟩
  unfold ckR
  rw [if_neg (by rw [mt_ts k n a d t b hn hd]; decide)]
  refine Or.inr ⟨0, by omega, fun j hj => by omega, by rw [hF]; exact mt_op k n a d t b hn, Or.inl ⟨?_, rfl, rfl, rfl, rfl⟩⟩
  rw [hF, mt_ti k n a d t b hn (by omega)]; exact fun x => h1 ⟨x.2.1, x.2.2⟩
/-- a key that does not open is told -/
theorem ck_wrong (F : Nat → ByteArray) (a tk : ByteArray) (now life : Int) (d : ByteArray) (t : Int) (b : Bool) (h : ckW F 1 a tk now life d t b 3) : ¬ opK (F 0) tk a := fun ho => by
  rcases h with ⟨_, h⟩ | ⟨_, _, _, _, h⟩
  · unfold ckR at h
    split at h
    · exact absurd h.2.2.2 (by decide)
    · rcases h with ⟨h, _⟩ | ⟨_, _, _, _, ⟨_, _, _, _, h⟩ | ⟨_, _, _, _, h⟩⟩
      · exact h 0 (by omega) ho
      · exact absurd h (by decide)
      · exact absurd h (by decide)
  · exact absurd h (by decide)
end Go.Proofs.Ytkpodgeinanceaa
namespace Go.Proofs.Ytkpodgeinanceaa
open Go.ChangeShapes Go.WideShapes Go.ChangeAt Go.RowKit
set_option linter.unusedVariables false
set_option maxRecDepth 100000

set_option maxHeartbeats 2000000 in
theorem specMint (k n a d : ByteArray) (t : Nat) (b : Bool) (h : mtB k.size n.size a.size d.size t) (w : World) :
    Calls Try.prog 35 #[.string k, .string n, .string a, mnV d t b] w fun e w' => e = .returned (.string (mtW k n a d t b)) ∧ Below w.heap.size w w' := by
  obtain ⟨hk, hn, ha, hd, h0, h1⟩ := h
  have HL : Hid (∀ W, Calls Try.prog 55 #[.int .i64 t, .int .i64 8] W fun e w' => e = .returned (.string (loW t 8)) ∧ Below W.heap.size W w') := specFx t 8 (by omega) (by omega)
  have H1 := hide (fun W => specKey5 k hk W)
  have hbs := mkW_size b
  have hls := loW_size t 8
  have H2 := hide (fun kb gk ok ck gt W (h : SM W kb gk ok ck gt k) => specSeal kb gk ok ck gt k n (mkW b ++ a) (loW t 8 ++ d) hn (by rw [ByteArray.size_append]; omega) (by rw [ByteArray.size_append]; omega) W h)
  have ad1 := fun W : World => run_string_add_sum (P := Try.prog) (w := W) (mkW b) a (by omega)
  have ad2 := fun W : World => run_string_add_sum (P := Try.prog) (w := W) (loW t 8) d (by omega)
  have ad3 := fun W : World => run_string_add_sum (P := Try.prog) (w := W) (mkW b) n (by omega)
  have hz := seW_size k n (mkW b ++ a) (loW t 8 ++ d)
  have ad4 := fun W : World => run_string_add_sum (P := Try.prog) (w := W) (mkW b ++ n) (seW k n (mkW b ++ a) (loW t 8 ++ d)) (by rw [hz, ByteArray.size_append, ByteArray.size_append]; omega)
  have HE : Hid (mkW b ++ n ++ seW k n (mkW b ++ a) (loW t 8 ++ d) = mtW k n a d t b) := rfl
  rw [unhide HE] at ad4
  generalize mtW k n a d t b = r at *
  generalize seW k n (mkW b ++ a) (loW t 8 ++ d) = sw at *
  generalize mkW b ++ a = y at *
  generalize mkW b ++ n = z at *
  generalize loW t 8 ++ d = x at *
  generalize loW t 8 = l at *
  clear hz HE hbs hls
  have KQ : Hid (∀ V, Below (w.alloc (.cells #[.string d, .int .i64 t, .bool b] 25)).drew.heap.size (w.alloc (.cells #[.string d, .int .i64 t, .bool b] 25)).drew V → V.cell? ⟨w.heap.size, 0, none⟩ = some (.string d) ∧ V.cell? ⟨w.heap.size, 1, none⟩ = some (.int .i64 t)) := fun V hV => by
    obtain ⟨hc, _⟩ := bcell hV
    exact ⟨by rw [hc w.heap.size 0 (by simp)]; simp, by rw [hc w.heap.size 1 (by simp)]; simp⟩
  have S0 := hide (unhide KQ _ (Below.refl _ _))
  have A0 := hide (((Below.refl w.heap.size w).alloc (Nat.le_refl _) (.cells #[.string d, .int .i64 t, .bool b] 25)).drew)
  cases b <;>
  · unfold mkW at ad1 ad3
    simp only [if_true, if_false, Bool.false_eq_true] at ad1 ad3
    go_enter Try.func35, Try.ntmps35
    go_wp2_with fail
    go_region_held3 (fun V => V.cell? ⟨w.heap.size, 0, none⟩ = some (.string d) ∧ V.cell? ⟨w.heap.size, 1, none⟩ = some (.int .i64 t)) (first | exact unhide S0 | exact unhide KQ _ b4 | exact unhide KQ _ b5 | exact unhide KQ _ (b4.trans (b5.mono b4.size)) | exact unhide KQ _ (b5.trans (b4.mono b5.size)) | exact unhide KQ _ ((b4.trans (b5.mono b4.size)).trans (b6.mono (Nat.le_trans b4.size b5.size))) | exact unhide KQ _ ((b5.trans (b4.mono b5.size)).trans (b6.mono (Nat.le_trans b5.size b4.size)))) (first
      | (go_at_call 36; with_reducible refine (unhide H1 _).mono ?_; rintro e w4 ⟨kb, gk, ok, ck, gt, rfl, m4, b4⟩)
      | (go_at_call 55; with_reducible refine (unhide HL _).mono ?_; rintro e w5 ⟨rfl, b5⟩)
      | (go_at_call 54; refine (unhide H2 _ _ _ _ _ _ (by first | exact m4 | exact m4.keep b5)).mono ?_; rintro e w6 ⟨rfl, b6⟩))
    all_goals
      have B6 : Hid (Below w.heap.size w w6) := by
        first
          | exact (unhide A0).trans (((b4.trans (b5.mono b4.size)).trans (b6.mono (Nat.le_trans b4.size b5.size))).mono (by simp))
          | exact (unhide A0).trans (((b5.trans (b4.mono b5.size)).trans (b6.mono (Nat.le_trans b5.size b4.size))).mono (by simp))
      clear b4 b5 b6 m4
      go_wp2
      go_ret
      exact ⟨rfl, unhide B6⟩
set_option maxHeartbeats 1000000 in
theorem specMT_ok (k n a d : ByteArray) (t : Nat) (b : Bool) (h : mtB k.size n.size a.size d.size t) (w : World) :
    Calls Try.prog 13 #[.string k, .string n, .string a, mnV d t b] w fun e w' => e = .returned (.tuple #[.string (mtW k n a d t b), .bool true]) ∧ Below w.heap.size w w' := by
  have HM := hide (specMint k n a d t b h)
  obtain ⟨hk, hn, ha, hd, h0, h1⟩ := h
  have HA := hide (specAd a)
  rw [decide_eq_true ha] at HA
  have HD := hide (specMd d t b (by omega))
  rw [decide_eq_true ⟨hd, h0, h1⟩] at HD
  generalize mtW k n a d t b = r at *
  go_enter Try.func13, Try.ntmps13
  go_wp2_with fail
  refine (unhide HA _).mono ?_
  rintro e w1 ⟨rfl, h9⟩
  rw [h9]
  clear h9 w1
  go_wp2_with fail
  refine (unhide HD _).mono ?_
  rintro e w1 ⟨rfl, b1⟩
  have B1 : Hid (Below w.heap.size w w1) := ((Below.refl _ _).alloc (Nat.le_refl _) _).trans (b1.mono (by simp))
  obtain ⟨hc1, hf1⟩ := bcell b1
  have p1 : ∀ o, w1.cell? ⟨w.heap.size, o, none⟩ = _ := fun o => hc1 w.heap.size o (by simp)
  clear b1 hc1 hf1
  go_wp2_with fail
  refine (unhide HM _).mono ?_
  rintro e w2 ⟨rfl, b2⟩
  have B2 := hide ((unhide B1).trans (b2.mono (unhide B1).size))
  clear b2 B1 p1
  go_wp2
  go_ret2
  exact ⟨rfl, unhide B2⟩
set_option maxHeartbeats 1000000 in
theorem specMT_no (k n a d : ByteArray) (t : Int) (b : Bool) (h : ¬ mtB k.size n.size a.size d.size t) (l0 : k.size ≤ 1048576) (l1 : n.size ≤ 1048576) (l2 : a.size ≤ 1048576) (l3 : d.size ≤ 1048576) (w : World) :
    Calls Try.prog 13 #[.string k, .string n, .string a, mnV d t b] w fun e w' => e = .returned (.tuple #[.string ⟨#[]⟩, .bool false]) ∧ Below w.heap.size w w' := by
  by_cases hk : k.size = 16
  case neg =>
    have h9 : ((k.size : Int) != 16) = true := by simp; omega
    go_enter Try.func13, Try.ntmps13
    go_wp2
    go_ret2
    exact ⟨rfl, (Below.refl _ _).alloc (Nat.le_refl _) _⟩
  by_cases hn : n.size = 12
  case neg =>
    have h9 : ((n.size : Int) != 12) = true := by simp; omega
    go_enter Try.func13, Try.ntmps13
    go_wp2
    go_ret2
    exact ⟨rfl, (Below.refl _ _).alloc (Nat.le_refl _) _⟩
  have HA := hide (specAd a)
  by_cases ha : 1 ≤ a.size ∧ a.size ≤ 18
  case neg =>
    rw [decide_eq_false ha] at HA
    go_enter Try.func13, Try.ntmps13
    go_wp2_with fail
    refine (unhide HA _).mono ?_
    rintro e w1 ⟨rfl, h9⟩
    rw [h9]
    clear h9 w1
    go_wp2
    go_ret2
    exact ⟨rfl, (Below.refl _ _).alloc (Nat.le_refl _) _⟩
  rw [decide_eq_true ha] at HA
  have HD := hide (specMd d t b l3)
  rw [decide_eq_false (fun x => h ⟨hk, hn, ha, x.1, x.2.1, x.2.2⟩)] at HD
  go_enter Try.func13, Try.ntmps13
  go_wp2_with fail
  refine (unhide HA _).mono ?_
  rintro e w1 ⟨rfl, h9⟩
  rw [h9]
  clear h9 w1
  go_wp2_with fail
  refine (unhide HD _).mono ?_
  rintro e w1 ⟨rfl, b1⟩
  have B1 : Hid (Below w.heap.size w w1) := ((Below.refl _ _).alloc (Nat.le_refl _) _).trans (b1.mono (by simp))
  clear b1
  go_wp2
  go_ret2
  exact ⟨rfl, unhide B1⟩
end Go.Proofs.Ytkpodgeinanceaa
namespace Go.Proofs.Ytkpodgeinanceaa
open Go.ChangeShapes Go.WideShapes Go.ChangeAt Go.RowKit
set_option linter.unusedVariables false

theorem turn_none : ∀ x : Fin 256, ∀ j : Fin 8, (x : Nat) ^^^ 2 ^ (j : Nat) ≠ (x : Nat) := by decide +kernel
theorem pow_8 (j : Nat) (h : j < 8) : (2 : Int) ^ j % 256 = ((2 ^ j : Nat) : Int) ∧ 2 ^ j < 256 := by
  have e : j = 0 ∨ j = 1 ∨ j = 2 ∨ j = 3 ∨ j = 4 ∨ j = 5 ∨ j = 6 ∨ j = 7 := by omega
  rcases e with rfl | rfl | rfl | rfl | rfl | rfl | rfl | rfl <;> exact ⟨by decide, by decide⟩
/-- one bit turned -/
def tuB (f : Nat → Nat) (q d i : Nat) : Nat := if i = q then f q ^^^ d else f i
theorem tuB_lt (f : Nat → Nat) (hf : ∀ i, f i < 256) (q d : Nat) (hd : d < 256) (i : Nat) : tuB f q d i < 256 := by
  unfold tuB
  split
  · exact xor_lt _ _ (hf q) hd
  · exact hf i
/-- a text with the byte q xored with d -/
def tuW (s : ByteArray) (q d : Nat) : ByteArray := bq s.size (tuB (at8 s) q d)
theorem tuW_size (s : ByteArray) (q d : Nat) : (tuW s q d).size = s.size := bq_size _ _
theorem tuW_at (s : ByteArray) (q d : Nat) (hd : d < 256) (i : Nat) (hi : i < s.size) : at8 (tuW s q d) i = tuB (at8 s) q d i := at8_bq _ _ i hi (tuB_lt _ (at8_lt s) q d hd i)
set_option maxRecDepth 100000 in
set_option maxHeartbeats 1000000 in
theorem turnedN (s : ByteArray) (hs : 0 < s.size) (hsm : s.size ≤ 10000) (r : Nat) (hr : r < 1000003) (w : World) :
    Calls Try.prog 16 #[.string s, .int .i64 r] w fun e w' => ∃ q d : Nat, q < s.size ∧ 0 < d ∧ d < 256 ∧ e = .returned (.string (tuW s q d)) ∧ Below w.heap.size w w' := by
  obtain ⟨n, hn⟩ : ∃ n : Nat, s.size = n := ⟨_, rfl⟩
  rw [hn] at hs hsm
  obtain ⟨k, hk⟩ : ∃ k : Nat, k = r % (8 * n) := ⟨_, rfl⟩
  have hkl : k < 8 * n := by rw [hk]; exact Nat.mod_lt _ (by omega)
  have hkI : Int.tmod (r : Int) (8 * (n : Int)) = (k : Int) := by
    rw [Int.tmod_eq_emod_of_nonneg (by omega), hk]
    simp
  have hkE : (r : Int) % (8 * (n : Int)) = (k : Int) := by rw [hk]; simp
  have h8n : ¬ (8 * (n : Int) = 0) := by omega
  have hq : k / 8 < n := by omega
  have hj : k % 8 < 8 := by omega
  go_enter Try.func16, Try.ntmps16
  go_wp2_with fail
  obtain ⟨cap, W, hcv, hbW, hcW, hsz⟩ := conv_ar w s
  rw [hcv, hn]
  rw [hn] at hcW
  have c0 := hcW.c0 (k / 8) hq
  have f0 := hcW.f0 (k / 8) hq
  have e1 := xorI (at8 s (k / 8)) (2 ^ (k % 8)) (at8_lt s _) (pow_8 _ hj).2
  rw [← (pow_8 _ hj).1] at e1
  have A1 := hcW.put0 (g := tuB (at8 s) (k / 8) (2 ^ (k % 8))) (x := at8 s (k / 8) ^^^ 2 ^ (k % 8)) hq (by unfold tuB; rw [if_pos rfl]) (fun i _ hne => by unfold tuB; rw [if_neg hne])
  have B1 := hide (hbW.setCell (p := ⟨w.heap.size, k / 8, none⟩) (Nat.le_refl _) (.int .u8 ((at8 s (k / 8) ^^^ 2 ^ (k % 8) : Nat) : Int)))
  have hst := hide (ar_string A1 (fun i _ => tuB_lt _ (at8_lt s) _ _ (pow_8 _ hj).2 i) cap)
  have E1 := hide e1
  have HK := hide (And.intro hk hn)
  clear hcv hcW hbW hsz A1 e1 hk
  go_wp2_with fail
  rw [unhide E1, unhide hst]
  go_wp2
  go_ret
  exact ⟨k / 8, 2 ^ (k % 8), by rw [(unhide HK).2]; exact hq, Nat.two_pow_pos _, (pow_8 _ hj).2, by unfold tuW; rw [(unhide HK).2]; rfl, unhide B1⟩
end Go.Proofs.Ytkpodgeinanceaa
