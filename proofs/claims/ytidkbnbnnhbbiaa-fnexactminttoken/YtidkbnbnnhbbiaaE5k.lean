/-
  Contracts: the program's key that seals.
-/
import Derived.Test.YtidkbnbnnhbbiaaE5h
import Derived.Test.YtidkbnbnnhbbiaaE5f
import Derived.Test.YtidkbnbnnhbbiaaAct
import Derived.Test.YtidkbnbnnhbbiaaWtn
namespace Go.Proofs.Ytidkbnbnnhbbiaa
open Go.ChangeShapes Go.WideShapes Go.ChangeAt Go.RowKit
set_option linter.unusedVariables false

/-- the bytes of the block of noughts by a key -/
def hkF (key : ByteArray) : Nat → Nat := fw (rk (at8 key)) (fun _ => 0) 10
theorem hkF_lt (key : ByteArray) (i : Nat) : hkF key i < 256 := fw_lt (rk (at8 key)) _ (fun n i => rk_lt (at8 key) (at8_lt key) n i) (fun _ => by omega) 10 i
/-- what its hashes are multiplied by -/
def hkH (key : ByteArray) : Nat := nbF (hkF key) 8
def hkL (key : ByteArray) : Nat := nbF (fun i => hkF key (8 + i)) 8
theorem hkH_lt (key : ByteArray) : hkH key < 18446744073709551616 := nbF_lt _ (hkF_lt key) 8
theorem hkL_lt (key : ByteArray) : hkL key < 18446744073709551616 := nbF_lt _ (fun i => hkF_lt key _) 8
/-- a key that seals lies in a block -/
structure SK (w : World) (kb cb : Nat) (key nonce : ByteArray) : Prop where
  c0 : w.cell? ⟨kb, 0, none⟩ = some (.pointer (some ⟨cb, 0, none⟩))
  c1 : w.cell? ⟨kb, 1, none⟩ = some (.int .u64 (hkH key : Nat))
  c2 : w.cell? ⟨kb, 2, none⟩ = some (.int .u64 (hkL key : Nat))
  st : Ar w kb 3 16 (at8 nonce)
  ci : Ar w cb 0 432 (ck (at8 key) 10)
theorem SK.below {w w' : World} {B kb cb : Nat} {key nonce : ByteArray} (h : SK w kb cb key nonce) (hb : Below B w w') (h1 : kb < B) (h2 : cb < B) : SK w' kb cb key nonce :=
  ⟨by rw [hb.cell (p := ⟨kb, 0, none⟩) h1]; exact h.c0, by rw [hb.cell (p := ⟨kb, 1, none⟩) h1]; exact h.c1, by rw [hb.cell (p := ⟨kb, 2, none⟩) h1]; exact h.c2, h.st.below hb h1, h.ci.below hb h2⟩
theorem SK.keep {w w' : World} {kb cb : Nat} {key nonce : ByteArray} (h : SK w kb cb key nonce) (hb : Below w.heap.size w w') : SK w' kb cb key nonce := h.below hb h.st.lt h.ci.lt
theorem sk_new (w : World) (cb x y : Nat) (t : TypeId) : (w.alloc (.cells #[.pointer (some ⟨cb, 0, none⟩), .int .u64 (x : Nat), .int .u64 (y : Nat), .int .u8 0, .int .u8 0, .int .u8 0, .int .u8 0, .int .u8 0, .int .u8 0, .int .u8 0, .int .u8 0, .int .u8 0, .int .u8 0, .int .u8 0, .int .u8 0, .int .u8 0, .int .u8 0, .int .u8 0, .int .u8 0] t)).cell? ⟨w.heap.size, 0, none⟩ = some (.pointer (some ⟨cb, 0, none⟩)) ∧ (w.alloc (.cells #[.pointer (some ⟨cb, 0, none⟩), .int .u64 (x : Nat), .int .u64 (y : Nat), .int .u8 0, .int .u8 0, .int .u8 0, .int .u8 0, .int .u8 0, .int .u8 0, .int .u8 0, .int .u8 0, .int .u8 0, .int .u8 0, .int .u8 0, .int .u8 0, .int .u8 0, .int .u8 0, .int .u8 0, .int .u8 0] t)).cell? ⟨w.heap.size, 1, none⟩ = some (.int .u64 (x : Nat)) ∧ (w.alloc (.cells #[.pointer (some ⟨cb, 0, none⟩), .int .u64 (x : Nat), .int .u64 (y : Nat), .int .u8 0, .int .u8 0, .int .u8 0, .int .u8 0, .int .u8 0, .int .u8 0, .int .u8 0, .int .u8 0, .int .u8 0, .int .u8 0, .int .u8 0, .int .u8 0, .int .u8 0, .int .u8 0, .int .u8 0, .int .u8 0] t)).cell? ⟨w.heap.size, 2, none⟩ = some (.int .u64 (y : Nat)) ∧ Ar (w.alloc (.cells #[.pointer (some ⟨cb, 0, none⟩), .int .u64 (x : Nat), .int .u64 (y : Nat), .int .u8 0, .int .u8 0, .int .u8 0, .int .u8 0, .int .u8 0, .int .u8 0, .int .u8 0, .int .u8 0, .int .u8 0, .int .u8 0, .int .u8 0, .int .u8 0, .int .u8 0, .int .u8 0, .int .u8 0, .int .u8 0] t)) w.heap.size 3 16 (fun _ => 0) := by
  refine ⟨by simp, by simp, by simp, fun i hi => ?_, fun i hi => by simp, by simp⟩
  have e : i = 0 ∨ i = 1 ∨ i = 2 ∨ i = 3 ∨ i = 4 ∨ i = 5 ∨ i = 6 ∨ i = 7 ∨ i = 8 ∨ i = 9 ∨ i = 10 ∨ i = 11 ∨ i = 12 ∨ i = 13 ∨ i = 14 ∨ i = 15 := by omega
  rcases e with rfl | rfl | rfl | rfl | rfl | rfl | rfl | rfl | rfl | rfl | rfl | rfl | rfl | rfl | rfl | rfl <;> simp
set_option maxRecDepth 100000 in
set_option maxHeartbeats 1000000 in
theorem newSeal_ok (key nonce : ByteArray) (hk : key.size = 16) (hn : nonce.size = 12) (w : World) :
    Calls Try.prog 25 #[.string key, .string nonce] w fun e w' => ∃ kb cb, w.heap.size ≤ kb ∧ w.heap.size ≤ cb ∧ e = .returned (.tuple #[.pointer (some ⟨kb, 0, none⟩), .bool true]) ∧ SK w' kb cb key nonce ∧ Below w.heap.size w w' := by
  have H1 := hide (fun W => newCipher_ok key hk W)
  go_enter Try.func25, Try.ntmps25
  go_wp2_with fail
  refine (unhide H1 _).mono ?_
  rintro e w1 ⟨cb, hcb, rfl, hC, b1⟩
  have C1 := hide hC
  have B1 := hide b1
  clear hC b1
  have ez : (us 16 fun _ => 0).toArray = #[.int .u8 0, .int .u8 0, .int .u8 0, .int .u8 0, .int .u8 0, .int .u8 0, .int .u8 0, .int .u8 0, .int .u8 0, .int .u8 0, .int .u8 0, .int .u8 0, .int .u8 0, .int .u8 0, .int .u8 0, .int .u8 0] := by rw [us_def]; rfl
  have hF := implForward cb (at8 key) (fun _ => 0) (at8_lt key) (fun _ => by omega) w1 (unhide C1)
  rw [ez] at hF
  have HF := hide hF
  clear hF ez
  have HL := hide (hkF_lt key)
  have HW : Hid (∀ cap b W, Ar W b 0 16 (fw (rk (at8 key)) (fun _ => 0) 10) → Calls Try.prog 36 #[.slice (some ⟨b, 0, none⟩) 16 cap] W fun e w' => e = .returned (.agg #[.int .u64 (hkH key : Nat), .int .u64 (hkL key : Nat)]) ∧ Below W.heap.size W w') := fun cap b W hA => implElementOf b 0 16 cap (hkF key) (hkF_lt key) (by omega) (by omega) W hA
  generalize fw (rk (at8 key)) (fun _ => 0) 10 = r at *
  go_wp2_with fail
  refine (unhide HF).mono ?_
  rintro e w2 ⟨rfl, b2⟩
  have C2 := hide ((unhide C1).below b2 (unhide C1).lt)
  have B2 := hide ((unhide B1).trans (b2.mono (unhide B1).size))
  have hlr : (us 16 r).length = 16 := us_length _ _
  clear b2 C1 B1
  go_wp2_with fail
  rw [(z16_new w2 54).cellsPut]
  obtain ⟨n1, n2, n3⟩ := fr16 w2 r
  generalize (w2.alloc (.cells #[.int .u8 0, .int .u8 0, .int .u8 0, .int .u8 0, .int .u8 0, .int .u8 0, .int .u8 0, .int .u8 0, .int .u8 0, .int .u8 0, .int .u8 0, .int .u8 0, .int .u8 0, .int .u8 0, .int .u8 0, .int .u8 0] 54)).setCells w2.heap.size 0 (us 16 r) = W3 at n1 n2 n3 ⊢
  have C3 := hide ((unhide C2).below n2 (unhide C2).lt)
  have B3 := hide ((unhide B2).trans (n2.mono (unhide B2).size))
  have A3 := hide n1
  clear n1 n2 n3 hlr C2 B2
  go_wp2_with fail
  refine (unhide HW _ _ _ (unhide A3)).mono ?_
  rintro e w4 ⟨rfl, b4⟩
  have C4 := hide ((unhide C3).below b4 (unhide C3).lt)
  have B4 := hide ((unhide B3).trans (b4.mono (unhide B3).size))
  clear b4 C3 B3 A3
  go_wp2_with fail
  obtain ⟨d0, d1, d2, d3⟩ := sk_new w4 cb (hkH key) (hkL key) 56
  have C5 := hide ((unhide C4).alloc (.cells #[.pointer (some ⟨cb, 0, none⟩), .int .u64 (hkH key : Nat), .int .u64 (hkL key : Nat), .int .u8 0, .int .u8 0, .int .u8 0, .int .u8 0, .int .u8 0, .int .u8 0, .int .u8 0, .int .u8 0, .int .u8 0, .int .u8 0, .int .u8 0, .int .u8 0, .int .u8 0, .int .u8 0, .int .u8 0, .int .u8 0] 56))
  have B5 := hide ((unhide B4).alloc (unhide B4).size (.cells #[.pointer (some ⟨cb, 0, none⟩), .int .u64 (hkH key : Nat), .int .u64 (hkL key : Nat), .int .u8 0, .int .u8 0, .int .u8 0, .int .u8 0, .int .u8 0, .int .u8 0, .int .u8 0, .int .u8 0, .int .u8 0, .int .u8 0, .int .u8 0, .int .u8 0, .int .u8 0, .int .u8 0, .int .u8 0, .int .u8 0] 56))
  generalize w4.alloc (.cells #[.pointer (some ⟨cb, 0, none⟩), .int .u64 (hkH key : Nat), .int .u64 (hkL key : Nat), .int .u8 0, .int .u8 0, .int .u8 0, .int .u8 0, .int .u8 0, .int .u8 0, .int .u8 0, .int .u8 0, .int .u8 0, .int .u8 0, .int .u8 0, .int .u8 0, .int .u8 0, .int .u8 0, .int .u8 0, .int .u8 0] 56) = W5 at d0 d1 d2 d3 C5 B5 ⊢
  rw [Go.run_copy_string W5 59 9 3 5 w4.heap.size 3 16 16 nonce Try.underlying59 size_u8 (by omega) (fun j hj => by rw [d3.c j (by omega)]; rfl) (fun j hj => d3.fz j (by omega)), us_at8, hn]
  have hkc : w.heap.size ≤ w4.heap.size := (unhide B4).size
  have hcl : cb < w4.heap.size := (unhide C4).lt
  have S6 : SK (W5.setCells w4.heap.size 3 (us 12 (at8 nonce))) w4.heap.size cb key nonce := by
    refine ⟨?_, ?_, ?_, ?_, ?_⟩
    · rw [World.cell?_setCells_out w4.heap.size _ 3 W5 _ (fun _ h => by simp at h ⊢)]; exact d0
    · rw [World.cell?_setCells_out w4.heap.size _ 3 W5 _ (fun _ h => by simp at h ⊢)]; exact d1
    · rw [World.cell?_setCells_out w4.heap.size _ 3 W5 _ (fun _ h => by simp at h ⊢)]; exact d2
    · exact d3.putPart (p := 0) (m := 12) (g := at8 nonce) (by omega) (fun i hi => by rw [Nat.zero_add]) (fun i hi hne => by unfold at8; rw [dif_neg (by omega)])
    · exact (unhide C5).others (Or.inl (by omega))
  have B6 := Go.Proofs.Ytidkbnbnnhbbiaa.below_setCells (b := w4.heap.size) hkc (us 12 (at8 nonce)) 3 _ (unhide B5)
  generalize W5.setCells w4.heap.size 3 (us 12 (at8 nonce)) = W6 at S6 B6 ⊢
  have HS := hide S6
  have HB := hide B6
  clear S6 B6 d0 d1 d2 d3 B4 B5 C4 C5
  generalize w4.heap.size = kb at *
  go_wp2
  go_ret2
  exact ⟨kb, cb, hkc, hcb, rfl, unhide HS, unhide HB⟩
set_option maxRecDepth 100000 in
set_option maxHeartbeats 1000000 in
theorem newSeal_no (key nonce : ByteArray) (h : ¬ (key.size = 16 ∧ nonce.size = 12)) (hl : key.size ≤ 1048576) (hl2 : nonce.size ≤ 1048576) (w : World) :
    Calls Try.prog 25 #[.string key, .string nonce] w fun e w' => e = .returned (.tuple #[.pointer none, .bool false]) ∧ Below w.heap.size w w' := by
  by_cases hk : key.size = 16
  · have H1 := hide (fun W => newCipher_ok key hk W)
    have h1 : ((nonce.size : Int) != 12) = true := by simp; omega
    go_enter Try.func25, Try.ntmps25
    go_wp2_with fail
    refine (unhide H1 _).mono ?_
    rintro e w1 ⟨cb, hcb, rfl, hC, b1⟩
    have B1 := hide b1
    clear hC b1
    go_wp2
    go_ret2
    exact ⟨rfl, unhide B1⟩
  · have H1 := hide (fun W => newCipher_no key hk hl W)
    go_enter Try.func25, Try.ntmps25
    go_wp2_with fail
    refine (unhide H1 _).mono ?_
    rintro e w1 ⟨rfl, b1⟩
    have B1 := hide b1
    clear b1
    go_wp2
    go_ret2
    exact ⟨rfl, unhide B1⟩
end Go.Proofs.Ytidkbnbnnhbbiaa
