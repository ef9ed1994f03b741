/-
  Contracts: the model's bytes of one frame, a ping.
-/
import Derived.Test.YtiefmgljdibnnaaL6f
namespace Go.Proofs.Ytiefmgljdibnnaa
open Go.ChangeShapes Go.WideShapes Go.ChangeAt Go.RowKit
set_option linter.unusedVariables false
set_option maxRecDepth 100000

theorem var_small (n : Nat) (hn : n < 64) (w : World) :
    Calls Try.prog 40 #[.int .i64 n] w fun e w' => e = .returned (.string (loW n 1)) ∧ Below w.heap.size w w' := by
  have HZ : Hid (∀ W : World, Calls Try.prog 41 #[.int .i64 n] W fun e w' => e = .returned (.int .i64 1) ∧ w' = W) := fun W => by
    go_enter Try.func41, Try.ntmps41
    go_wp2
    go_ret
    exact ⟨rfl, rfl⟩
  have HF := hide (specFx n 1 (by omega) (by omega))
  go_enter Try.func40, Try.ntmps40
  go_wp2_with fail
  refine (unhide HZ _).mono ?_
  rintro e w1 ⟨rfl, e1⟩
  rw [e1]
  clear e1 w1
  go_wp2_with fail
  refine (unhide HF _).mono ?_
  rintro e w1 ⟨rfl, b1⟩
  have B1 := hide b1
  clear b1
  go_wp2
  go_ret
  exact ⟨rfl, unhide B1⟩
theorem nil_add (t : ByteArray) : (⟨#[]⟩ : ByteArray) ++ t = t := by
  apply ByteArray.ext
  simp [ByteArray.data_append]
/-- a ping -/
def png : Value := .agg #[.int .i64 1, .int .i64 0, .int .i64 0, .int .i64 0, .bool false, .string ⟨#[]⟩, .slice none 0 0]
set_option maxHeartbeats 1000000 in
theorem good_ping (w : World) :
    Calls Try.prog 35 #[png] w fun e w' => e = .returned (.bool true) ∧ Below w.heap.size w w' := by
  have HS : Hid (∀ W : World, Calls Try.prog 37 #[.int .i64 1] W fun e w' => e = .returned (.tuple #[.int .i64 0, .int .i64 0, .int .i64 0]) ∧ w' = W) := fun W => by
    go_enter Try.func37, Try.ntmps37
    go_wp2
    go_ret3
    exact ⟨rfl, rfl⟩
  have HI : Hid (∀ W : World, Calls Try.prog 20 #[.int .i64 0, .int .i64 0, .int .i64 0] W fun e w' => e = .returned (.bool true) ∧ w' = W) := inB 0 0 0
  have HI2 := hide (inB 0 0 4611686018427387903)
  have HK : Hid (∀ W : World, Calls Try.prog 38 #[.int .i64 0] W fun e w' => e = .returned (.bool true) ∧ w' = W) := fun W => by
    go_enter Try.func38, Try.ntmps38
    go_wp2_with (go_at_call 20; refine (unhide HI2 _).mono ?_; rintro e w' ⟨rfl, rfl⟩)
    go_ret
    exact ⟨rfl, rfl⟩
  unfold png
  go_enter Try.func35, Try.ntmps35
  go_wp2_with (first | (go_at_call 37; refine (unhide HS _).mono ?_; rintro e w' ⟨rfl, rfl⟩) | (go_at_call 38; refine (unhide HK _).mono ?_; rintro e w' ⟨rfl, rfl⟩) | (go_at_call 20; refine (unhide HI _).mono ?_; rintro e w' ⟨rfl, rfl⟩))
  go_ret
  exact ⟨rfl, (Below.refl _ _).alloc (Nat.le_refl _) _⟩
set_option maxHeartbeats 1000000 in
theorem bytes_ping (w : World) :
    Calls Try.prog 36 #[png] w fun e w' => e = .returned (.string (loW 1 1)) ∧ Below w.heap.size w w' := by
  have H1 : Hid (∀ W : World, Calls Try.prog 40 #[.int .i64 1] W fun e w' => e = .returned (.string (loW 1 1)) ∧ Below W.heap.size W w') := var_small 1 (by omega)
  have H0 : Hid (∀ W : World, Calls Try.prog 40 #[.int .i64 0] W fun e w' => e = .returned (.string (loW 0 1)) ∧ Below W.heap.size W w') := var_small 0 (by omega)
  have hz := loW_size 0 1
  generalize loW 1 1 = t1 at *
  generalize loW 0 1 = t0 at *
  unfold png
  have b0 := (Below.refl w.heap.size w).alloc (Nat.le_refl _) (.cells #[.int .i64 1, .int .i64 0, .int .i64 0, .int .i64 0, .bool false, .string ⟨#[]⟩, .slice none 0 0] 59)
  have B0 := hide b0
  clear b0
  go_enter Try.func36, Try.ntmps36
  go_wp2_with fail
  have c0 : (w.alloc (.cells #[.int .i64 1, .int .i64 0, .int .i64 0, .int .i64 0, .bool false, .string ⟨#[]⟩, .slice none 0 0] 59)).cell? ⟨w.heap.size, 0, none⟩ = some (.int .i64 1) := by simp
  have c5 : (w.alloc (.cells #[.int .i64 1, .int .i64 0, .int .i64 0, .int .i64 0, .bool false, .string ⟨#[]⟩, .slice none 0 0] 59)).cell? ⟨w.heap.size, 5, none⟩ = some (.string ⟨#[]⟩) := by simp
  have hlt : w.heap.size < (w.alloc (.cells #[.int .i64 1, .int .i64 0, .int .i64 0, .int .i64 0, .bool false, .string ⟨#[]⟩, .slice none 0 0] 59)).heap.size := by simp
  generalize w.alloc (.cells #[.int .i64 1, .int .i64 0, .int .i64 0, .int .i64 0, .bool false, .string ⟨#[]⟩, .slice none 0 0] 59) = W0 at *
  refine (unhide H1 _).mono ?_
  rintro e w1 ⟨rfl, b1⟩
  obtain ⟨hc, hf⟩ := bcell b1
  have d0 := (hc _ 0 hlt).trans c0
  have d5 := (hc _ 5 hlt).trans c5
  have hlt1 := Nat.lt_of_lt_of_le hlt b1.size
  have B1 := hide ((unhide B0).trans (b1.mono (unhide B0).size))
  clear b1 hc hf c0 c5 hlt B0
  go_wp2_with fail
  have hcur : Below w1.heap.size w1 w1.drew := (Below.refl _ _).drew
  go_region_with (go_at_call 40; refine (unhide H0 _).mono ?_; rintro e wA ⟨rfl, hbA⟩; have hcur := hcur.trans (hbA.mono hcur.size); have dA5 := (hcur.cell (p := ⟨w.heap.size, 5, none⟩) hlt1).trans d5; have dA0 := (hcur.cell (p := ⟨w.heap.size, 0, none⟩) hlt1).trans d0)
  all_goals
    have B2 := hide ((unhide B1).trans (hcur.mono (unhide B1).size))
    go_wp2
    go_ret
    exact ⟨rfl, unhide B2⟩
set_option maxHeartbeats 1000000 in
theorem frames_ping (w : World) (g c : Nat) (hg : g < w.heap.size) (c0 : w.cell? ⟨g, 0, none⟩ = some (.int .i64 1)) (c1 : w.cell? ⟨g, 1, none⟩ = some (.int .i64 0)) (c2 : w.cell? ⟨g, 2, none⟩ = some (.int .i64 0)) (c3 : w.cell? ⟨g, 3, none⟩ = some (.int .i64 0)) (c4 : w.cell? ⟨g, 4, none⟩ = some (.bool false)) (c5 : w.cell? ⟨g, 5, none⟩ = some (.string ⟨#[]⟩)) (c6 : w.cell? ⟨g, 6, none⟩ = some (.slice none 0 0)) :
    Calls Try.prog 32 #[.slice (some ⟨g, 0, none⟩) 1 c] w fun e w' => e = .returned (.tuple #[.string (loW 1 1), .bool true]) ∧ Below w.heap.size w w' := by
  have HG := hide good_ping
  have HB := hide bytes_ping
  have hz := loW_size 1 1
  generalize loW 1 1 = t1 at *
  go_enter Try.func32, Try.ntmps32
  go_wp2_with fail
  refine wp_loop_rounds 2 ?_
  rw [rounds_succ]
  go_wp2_with fail
  have e0 : (w.alloc (.cells #[.int .i64 1, .int .i64 0, .int .i64 0, .int .i64 0, .bool false, .string ⟨#[]⟩, .slice none 0 0] 59)).cell? ⟨w.heap.size, 0, none⟩ = some (.int .i64 1) := by simp
  have e1 : (w.alloc (.cells #[.int .i64 1, .int .i64 0, .int .i64 0, .int .i64 0, .bool false, .string ⟨#[]⟩, .slice none 0 0] 59)).cell? ⟨w.heap.size, 1, none⟩ = some (.int .i64 0) := by simp
  have e2 : (w.alloc (.cells #[.int .i64 1, .int .i64 0, .int .i64 0, .int .i64 0, .bool false, .string ⟨#[]⟩, .slice none 0 0] 59)).cell? ⟨w.heap.size, 2, none⟩ = some (.int .i64 0) := by simp
  have e3 : (w.alloc (.cells #[.int .i64 1, .int .i64 0, .int .i64 0, .int .i64 0, .bool false, .string ⟨#[]⟩, .slice none 0 0] 59)).cell? ⟨w.heap.size, 3, none⟩ = some (.int .i64 0) := by simp
  have e4 : (w.alloc (.cells #[.int .i64 1, .int .i64 0, .int .i64 0, .int .i64 0, .bool false, .string ⟨#[]⟩, .slice none 0 0] 59)).cell? ⟨w.heap.size, 4, none⟩ = some (.bool false) := by simp
  have e5 : (w.alloc (.cells #[.int .i64 1, .int .i64 0, .int .i64 0, .int .i64 0, .bool false, .string ⟨#[]⟩, .slice none 0 0] 59)).cell? ⟨w.heap.size, 5, none⟩ = some (.string ⟨#[]⟩) := by simp
  have e6 : (w.alloc (.cells #[.int .i64 1, .int .i64 0, .int .i64 0, .int .i64 0, .bool false, .string ⟨#[]⟩, .slice none 0 0] 59)).cell? ⟨w.heap.size, 6, none⟩ = some (.slice none 0 0) := by simp
  have b0 := (Below.refl w.heap.size w).alloc (Nat.le_refl _) (.cells #[.int .i64 1, .int .i64 0, .int .i64 0, .int .i64 0, .bool false, .string ⟨#[]⟩, .slice none 0 0] 59)
  have hlt : w.heap.size < (w.alloc (.cells #[.int .i64 1, .int .i64 0, .int .i64 0, .int .i64 0, .bool false, .string ⟨#[]⟩, .slice none 0 0] 59)).heap.size := by simp
  clear c0 c1 c2 c3 c4 c5 c6 hg
  generalize w.alloc (.cells #[.int .i64 1, .int .i64 0, .int .i64 0, .int .i64 0, .bool false, .string ⟨#[]⟩, .slice none 0 0] 59) = W0 at *
  refine (unhide HG _).mono ?_
  rintro e w1 ⟨rfl, b1⟩
  obtain ⟨hc, hf⟩ := bcell b1
  have d0 := (hc _ 0 hlt).trans e0
  have d1 := (hc _ 1 hlt).trans e1
  have d2 := (hc _ 2 hlt).trans e2
  have d3 := (hc _ 3 hlt).trans e3
  have d4 := (hc _ 4 hlt).trans e4
  have d5 := (hc _ 5 hlt).trans e5
  have d6 := (hc _ 6 hlt).trans e6
  have B1 := hide (b0.trans (b1.mono b0.size))
  clear b1 hc hf b0 hlt e0 e1 e2 e3 e4 e5 e6
  go_wp2_with fail
  refine (unhide HB _).mono ?_
  rintro e w2 ⟨rfl, b2⟩
  have B2 := hide ((unhide B1).trans (b2.mono (unhide B1).size))
  clear b2 B1 d0 d1 d2 d3 d4 d5 d6
  go_wp2_with fail
  rw [rounds_succ]
  go_wp2
  go_ret2
  rw [nil_add]
  exact ⟨rfl, unhide B2⟩
end Go.Proofs.Ytiefmgljdibnnaa
