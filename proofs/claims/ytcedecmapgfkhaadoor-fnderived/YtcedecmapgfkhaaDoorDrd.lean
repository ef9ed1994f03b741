/-
  Contracts: secrets, infos, numbers and ids that the model draws; a number of bytes.
-/
import Derived.Test.YtcedecmapgfkhaaDoorDrh
namespace Go.Proofs.YtcedecmapgfkhaaDoor
open Go.ChangeShapes Go.WideShapes Go.ChangeAt Go.RowKit
set_option linter.unusedVariables false

set_option maxHeartbeats 1000000 in
theorem of_any (cb : Nat) (a : Option Addr) (N cap P l m c : Nat) (p : ByteArray → Prop) (w : World) (hN : N ≤ 1048576) (hP : P ≤ 900000) (h0 : 1 < m) (h1 : m ≤ 60000) (hl : l < w.heap.size) (hne : l ≠ cb)
    (hx : ∀ i, i < m → ∃ x : ByteArray, p x ∧ w.cell? ⟨l, i, none⟩ = some (.string x)) (h : Cu w cb a N cap P) :
    Calls Tryd.prog 42 #[.pointer (some ⟨cb, 0, none⟩), .slice (some ⟨l, 0, none⟩) m c] w fun e w' => ∃ r : ByteArray, e = .returned (.string r) ∧ p r ∧ Cu w' cb a N cap (P + 2) ∧ Kx cb w w' := by
  have HU := hide h
  have HX := hide hx
  clear h hx
  go_enter Tryd.func42, Tryd.ntmps42
  go_wp2_with fail
  refine (pick_any cb a N cap P m _ hN hP (by omega) (by omega) (unhide HU)).mono ?_
  rintro e w1 ⟨r, rfl, hr0, hr1, u1, k1⟩
  obtain ⟨i, rfl⟩ := Int.eq_ofNat_of_zero_le hr0
  obtain ⟨x, hp, hx⟩ := unhide HX i (by omega)
  have hx1 := (k1.cell (p := ⟨l, i, none⟩) hl hne).trans hx
  have HPx := hide hp
  clear hp hx
  go_wp2
  go_ret
  exact ⟨x, rfl, unhide HPx, u1, k1⟩
theorem lit_texts (w : World) (l : List ByteArray) (t : TypeId) (p : ByteArray → Prop) (h : ∀ x ∈ l, p x) : ∀ i, i < l.length → ∃ x, p x ∧ (w.alloc (.cells (l.map Value.string).toArray t)).cell? ⟨w.heap.size, i, none⟩ = some (.string x) := by
  intro i hi
  exact ⟨l[i], h _ (List.getElem_mem hi), by simp [hi]⟩
set_option maxRecDepth 100000 in
set_option maxHeartbeats 1000000 in
theorem drawExpand_any (a : Option Addr) (N cap : Nat) (w : World) (hN : N ≤ 1048576) (h : Cd w a N) :
    Calls Tryd.prog 17 #[.slice a N cap] w fun e w' => ∃ (s t : ByteArray) (n : Int), e = .returned (.tuple #[.string s, .string t, .int .i64 n]) ∧ s.size ≤ 120 ∧ t.size ≤ 4 ∧ -1 ≤ n ∧ n ≤ 256 ∧ Below w.heap.size w w' := by
  have U0 := hide (cu_first cap 52 h)
  clear h
  go_enter Tryd.func17, Tryd.ntmps17
  go_wp2_with fail
  refine (pick_any w.heap.size a N cap 0 80 _ hN (by omega) (by omega) (by omega) (unhide U0)).mono ?_
  rintro e w1 ⟨n, rfl, hn0, hn1, u1, k1⟩
  have U1 := hide u1
  have K1 := hide k1
  clear u1 k1 U0
  go_wp2_with fail
  refine (one_any w.heap.size a N cap (0 + 2) 12 _ hN (by omega) (by omega) (by omega) (unhide U1)).mono ?_
  rintro e w2 ⟨rb, rfl, u2, k2⟩
  have U2 := hide u2
  have K2 := hide ((unhide K1).trans k2)
  clear u2 k2 U1 K1
  cases rb with
  | false =>
    go_wp2_with fail
    refine (hashed_any w.heap.size a N cap (0 + 2 + 2) _ hN (by omega) (unhide U2)).mono ?_
    rintro e wa ⟨s, rfl, hs, ua, ka⟩
    have UA := hide ua
    have KA := hide ((unhide K2).trans ka)
    clear ua ka U2 K2
    have hne : wa.heap.size ≠ w.heap.size := by have := (unhide UA).lt; omega
    have HX := hide (lit_texts wa [⟨#[]⟩, ⟨#[105, 110, 102, 111]⟩, ⟨#[97]⟩] 9 (fun x => x.size ≤ 4) (by decide))
    have UB := hide ((unhide UA).alloc (.cells #[.string ⟨#[]⟩, .string ⟨#[105, 110, 102, 111]⟩, .string ⟨#[97]⟩] 9))
    have KB := hide ((unhide KA).alloc (.cells #[.string ⟨#[]⟩, .string ⟨#[105, 110, 102, 111]⟩, .string ⟨#[97]⟩] 9))
    clear UA KA
    go_wp2_with fail
    refine (of_any w.heap.size a N cap (0 + 2 + 2 + 300) wa.heap.size 3 3 (fun x => x.size ≤ 4) _ hN (by omega) (by omega) (by omega) (by simp) hne (unhide HX) (unhide UB)).mono ?_
    rintro e wb ⟨t, rfl, htz, ub, kb⟩
    have KC := hide ((unhide KB).trans kb)
    clear ub kb UB KB HX
    go_wp2
    go_ret3
    exact ⟨s, t, n, rfl, hs, htz, by omega, by omega, (unhide KC).draw⟩
  | true =>
    have hne0 : w2.heap.size ≠ w.heap.size := by have := (unhide U2).lt; omega
    have HX0 := hide (lit_cells w2 [-1, 0, 32, 33, 255, 256] 3 (fun x => -1 ≤ x ∧ x ≤ 256) (by decide))
    have U3 := hide ((unhide U2).alloc (.cells #[.int .i64 (-1), .int .i64 0, .int .i64 32, .int .i64 33, .int .i64 255, .int .i64 256] 3))
    have K3 := hide ((unhide K2).alloc (.cells #[.int .i64 (-1), .int .i64 0, .int .i64 32, .int .i64 33, .int .i64 255, .int .i64 256] 3))
    clear U2 K2
    go_wp2_with fail
    refine (among_any w.heap.size a N cap (0 + 2 + 2) w2.heap.size 6 6 (fun x => -1 ≤ x ∧ x ≤ 256) _ hN (by omega) (by omega) (by omega) (by simp) hne0 (unhide HX0) (unhide U3)).mono ?_
    rintro e w4 ⟨m, rfl, ⟨hm0, hm1⟩, u4, k4⟩
    have U4 := hide u4
    have K4 := hide ((unhide K3).trans k4)
    clear u4 k4 U3 K3 HX0
    go_wp2_with fail
    refine (hashed_any w.heap.size a N cap (0 + 2 + 2 + 2) _ hN (by omega) (unhide U4)).mono ?_
    rintro e wa ⟨s, rfl, hs, ua, ka⟩
    have UA := hide ua
    have KA := hide ((unhide K4).trans ka)
    clear ua ka U4 K4
    have hne : wa.heap.size ≠ w.heap.size := by have := (unhide UA).lt; omega
    have HX := hide (lit_texts wa [⟨#[]⟩, ⟨#[105, 110, 102, 111]⟩, ⟨#[97]⟩] 9 (fun x => x.size ≤ 4) (by decide))
    have UB := hide ((unhide UA).alloc (.cells #[.string ⟨#[]⟩, .string ⟨#[105, 110, 102, 111]⟩, .string ⟨#[97]⟩] 9))
    have KB := hide ((unhide KA).alloc (.cells #[.string ⟨#[]⟩, .string ⟨#[105, 110, 102, 111]⟩, .string ⟨#[97]⟩] 9))
    clear UA KA
    go_wp2_with fail
    refine (of_any w.heap.size a N cap (0 + 2 + 2 + 2 + 300) wa.heap.size 3 3 (fun x => x.size ≤ 4) _ hN (by omega) (by omega) (by omega) (by simp) hne (unhide HX) (unhide UB)).mono ?_
    rintro e wb ⟨t, rfl, htz, ub, kb⟩
    have KC := hide ((unhide KB).trans kb)
    clear ub kb UB KB HX
    go_wp2
    go_ret3
    exact ⟨s, t, m, rfl, hs, htz, by omega, by omega, (unhide KC).draw⟩
set_option maxRecDepth 100000 in
set_option maxHeartbeats 1000000 in
theorem id_any (cb : Nat) (a : Option Addr) (N cap P : Nat) (w : World) (hN : N ≤ 1048576) (hP : P ≤ 400000) (h : Cu w cb a N cap P) :
    Calls Tryd.prog 46 #[.pointer (some ⟨cb, 0, none⟩)] w fun e w' => ∃ t : ByteArray, e = .returned (.string t) ∧ t.size ≤ 21 ∧ Cu w' cb a N cap (P + 60) ∧ Kx cb w w' := by
  have HU := hide h
  clear h
  go_enter Tryd.func46, Tryd.ntmps46
  go_wp2_with fail
  refine (pick_any cb a N cap P 10 _ hN (by omega) (by omega) (by omega) (unhide HU)).mono ?_
  rintro e w1 ⟨r, rfl, hr0, hr1, u1, k1⟩
  obtain ⟨n, rfl⟩ := Int.eq_ofNat_of_zero_le hr0
  have U1 := hide u1
  have K1 := hide k1
  clear u1 k1 HU
  go_wp2_with fail
  refine (one_any cb a N cap (P + 2) 12 _ hN (by omega) (by omega) (by omega) (unhide U1)).mono ?_
  rintro e w2 ⟨rb, rfl, u2, k2⟩
  have U2 := hide u2
  have K2 := hide ((unhide K1).trans k2)
  clear u2 k2 U1 K1
  cases rb with
  | false =>
    go_wp2_with fail
    refine (sizedBytes_any cb a N cap (P + 2 + 2) n _ hN (by omega) (by omega) (unhide U2)).mono ?_
    rintro e w3 ⟨f, rfl, hf, hA, u3, k3⟩
    have hst := ar_string hA (fun i _ => hf i) n
    have U3 := hide (u3.mono (Q := P + 60) (by omega))
    have K3 := hide ((unhide K2).trans k3)
    have hsz := bq_le n 21 f (by omega)
    clear u3 k3 hA hf
    generalize bq n f = t at *
    go_wp2
    go_ret
    exact ⟨t, rfl, hsz, unhide U3, unhide K3⟩
  | true =>
    have hne : w2.heap.size ≠ cb := by have := (unhide U2).lt; omega
    have hx := lit_cells w2 [20, 21, 0] 3 (fun x => 0 ≤ x ∧ x ≤ 21) (by decide)
    have UA := hide ((unhide U2).alloc (.cells #[.int .i64 20, .int .i64 21, .int .i64 0] 3))
    have KA := hide ((unhide K2).alloc (.cells #[.int .i64 20, .int .i64 21, .int .i64 0] 3))
    have HX := hide hx
    clear hx U2 K2
    go_wp2_with fail
    refine (among_any cb a N cap (P + 2 + 2) w2.heap.size 3 3 (fun x => 0 ≤ x ∧ x ≤ 21) _ hN (by omega) (by omega) (by omega) (by simp) hne (unhide HX) (unhide UA)).mono ?_
    rintro e w3 ⟨r, rfl, ⟨h0, h1⟩, u3, k3⟩
    obtain ⟨m, rfl⟩ := Int.eq_ofNat_of_zero_le h0
    have U3 := hide u3
    have K3 := hide ((unhide KA).trans k3)
    clear u3 k3 UA KA HX
    go_wp2_with fail
    refine (sizedBytes_any cb a N cap (P + 2 + 2 + 2) m _ hN (by omega) (by omega) (unhide U3)).mono ?_
    rintro e w4 ⟨f, rfl, hf, hA, u4, k4⟩
    have hst := ar_string hA (fun i _ => hf i) m
    have U4 := hide (u4.mono (Q := P + 60) (by omega))
    have K4 := hide ((unhide K3).trans k4)
    have hsz := bq_le m 21 f (by omega)
    clear u4 k4 hA hf
    generalize bq m f = t at *
    go_wp2
    go_ret
    exact ⟨t, rfl, hsz, unhide U4, unhide K4⟩
theorem drawInitial_any (a : Option Addr) (N cap : Nat) (w : World) (hN : N ≤ 1048576) (h : Cd w a N) :
    Calls Tryd.prog 21 #[.slice a N cap] w fun e w' => ∃ t : ByteArray, e = .returned (.string t) ∧ t.size ≤ 21 ∧ Below w.heap.size w w' := by
  have U0 := hide (cu_first cap 52 h)
  clear h
  go_enter Tryd.func21, Tryd.ntmps21
  go_wp2_with fail
  refine (id_any w.heap.size a N cap 0 _ hN (by omega) (unhide U0)).mono ?_
  rintro e w1 ⟨t, rfl, ht, u1, k1⟩
  have K1 := hide k1
  clear u1 k1 U0
  go_wp2
  go_ret
  exact ⟨t, rfl, ht, (unhide K1).draw⟩
set_option maxRecDepth 100000 in
set_option maxHeartbeats 1000000 in
theorem numberOf_any (a : Option Addr) (N cap : Nat) (w : World) (hN : N ≤ 1048576) (h : Cd w a N) :
    Calls Tryd.prog 20 #[.slice a N cap] w fun e w' => ∃ r : Nat, e = .returned (.int .i64 r) ∧ r < 1000003 ∧ Below w.heap.size w w' := by
  have HC := hide h
  clear h
  go_enter Tryd.func20, Tryd.ntmps20
  go_wp2_with fail
  go_loopw [3, 8] (fun nv iv wr => ∃ k r : Nat, k ≤ N ∧ iv = .int .i64 k ∧ nv = .int .i64 r ∧ r < 1000003 ∧ wr = w) (fun _ iv _ => N - (intOf iv).toNat)
  case atStart => exact ⟨0, 0, by omega, rfl, rfl, by omega, rfl⟩
  case round =>
    obtain ⟨k, r, hk, rfl, rfl, hr, hww⟩ := hrel
    obtain rfl := hww.symm
    by_cases hlt : k < N
    · rcases unhide HC with h0 | ⟨b, off, rfl, hl, hx⟩
      · omega
      · obtain ⟨x, hx0, hx1⟩ := hx k hlt
        clear hx HC
        go_wp2
        exact ⟨⟨k + 1, (31 * r + x) % 1000003, by omega, by go_num, by congr 1, Nat.mod_lt _ (by omega), trivial⟩, by simp [intOf]; omega⟩
    · obtain rfl : k = N := by omega
      clear HC
      go_wp2
      go_ret
      exact ⟨r, rfl, hr, Below.refl _ _⟩
end Go.Proofs.YtcedecmapgfkhaaDoor
