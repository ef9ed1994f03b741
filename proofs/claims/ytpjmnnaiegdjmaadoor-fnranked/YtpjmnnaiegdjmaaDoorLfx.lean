/-
  Contracts: the model's number in so many bytes; texts put together.
-/
import Derived.Test.YtpjmnnaiegdjmaaDoorSfi
namespace Go.Proofs.YtpjmnnaiegdjmaaDoor
open Go.ChangeShapes Go.WideShapes Go.ChangeAt Go.RowKit
set_option linter.unusedVariables false

theorem bq_append (a b : Nat) (f : Nat → Nat) : bq a f ++ bq b (fun i => f (a + i)) = bq (a + b) f := by
  apply ByteArray.ext
  apply Array.toList_inj.1
  show ((bq a f) ++ (bq b fun i => f (a + i))).data.toList = _
  rw [ByteArray.data_append]
  simp only [bq, Array.toList_append, List.toList_toArray]
  rw [List.range_add, List.map_append, List.map_map]
  rfl
theorem byW_hi (v k : Nat) (hv : v < 4294967296) (hk : 4 ≤ k) : byW v k = 0 := by
  unfold byW
  rw [Nat.div_eq_of_lt (Nat.lt_of_lt_of_le hv (Nat.pow_le_pow_right (n := 256) (by omega) hk))]
theorem byI (n k : Nat) : ((byW n k : Nat) : Int) = (n : Int) / 2 ^ (8 * k) % 256 := by
  unfold byW
  rw [show (256 : Nat) ^ k = 2 ^ (8 * k) by rw [Nat.pow_mul]]
  simp
set_option maxRecDepth 100000 in
set_option maxHeartbeats 1000000 in
theorem specFixed (n M : Nat) (hn : n < 4611686018427387904) (hM : M ≤ 8) (w : World) :
    Calls Tryd.prog 76 #[.int .i64 n, .int .i64 M] w fun e w' => e = .returned (.string (bq M (fun i => byW n (M - 1 - i)))) ∧ Below w.heap.size w w' := by
  go_enter Tryd.func76, Tryd.ntmps76
  go_wp2_with fail
  go_loopw [5, 6] (fun v kv wr => ∃ i : Nat, i ≤ M ∧ kv = .int .i64 ((M : Int) - 1 - (i : Int)) ∧ Sv w.heap.size wr v i (fun i => byW n (M - 1 - i)) ∧ Below w.heap.size w wr) (fun _ kv _ => (intOf kv + 1).toNat)
  case atStart => exact ⟨0, by omega, by go_num, Or.inl ⟨rfl, rfl⟩, Below.refl _ _⟩
  case round =>
    obtain ⟨i, him, rfl, hs, hb⟩ := hrel
    by_cases hlt : i < M
    · obtain ⟨k, hk⟩ : ∃ k, M - 1 - i = k := ⟨_, rfl⟩
      have hki : (M : Int) - 1 - (i : Int) = (k : Int) := by omega
      rw [hki]
      have hk8 : k < 8 := by omega
      have hwz := hb.size
      have al := (Below.refl wr.heap.size wr).alloc (Nat.le_refl _) (.cells #[.int .u8 ((n : Int) / 2 ^ (8 * k) % 256)] 5)
      have eby := byI n k
      obtain ⟨v', w', hrun, hs', hb', _⟩ := (hs.kept al).pushs (by rw [World.size_alloc]; omega) ⟨wr.heap.size, 0, none⟩ 1 1 (by omega) (fun j u hu => by
        rw [Addr.add_mid, Nat.zero_add]
        have hj : j < 1 := by
          have := (List.getElem?_eq_some_iff.1 hu).1
          rwa [us_length] at this
        obtain rfl : j = 0 := by omega
        simp only [us_def, List.getElem?_map, List.getElem?_range hj, Option.map_some, Option.some.injEq] at hu
        subst hu
        rw [Nat.add_zero, hk, eby]
        simp) (by omega) 36
      have RUN := hide hrun
      have HS' := hide hs'
      have HB' := hide ((hb.trans (al.mono (by omega))).trans hb')
      have HK := hide hki
      clear hrun hs' hb' hs hb al eby hk hki
      go_wp2_with (at_builtin; refine wpList_append_run _ rfl _ _ 36 rfl _ _ rfl rfl (unhide RUN) ?_)
      go_wp2
      have hki := unhide HK
      exact ⟨⟨i + 1, by omega, by first | go_num | (congr 1; omega), unhide HS', unhide HB'⟩, by simp [intOf]⟩
    · obtain rfl : i = M := by omega
      have Q2 := hide hb
      by_cases h0 : i = 0
      · subst h0
        rcases hs with ⟨_, rfl⟩ | ⟨g, o, cap, rfl, _, hsg⟩
        · have hst := run_convert_bytes_nil (P := Tryd.prog) wr 36 5 Tryd.underlying36 Tryd.underlying5 0 0 9 Tryd.underlying9
          clear hb
          go_wp2
          go_ret
          exact ⟨rfl, unhide Q2⟩
        · have hst := ar_string hsg.ar (fun i hi => by omega) cap
          clear hb hsg
          go_wp2
          go_ret
          exact ⟨rfl, unhide Q2⟩
      · have hst := hs.string (by omega) (fun j _ => byW_lt _ _)
        clear hb hs
        go_wp2
        go_ret
        exact ⟨rfl, unhide Q2⟩
end Go.Proofs.YtpjmnnaiegdjmaaDoor
