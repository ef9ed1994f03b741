/-
  Rows of texts: read, copied by the laws, weighed, held against each other, marked.
-/
import Derived.Test.YtgieglpjkjncfabRcs
import Derived.Test.YtgieglpjkjncfabStx
import Derived.Deep.QuietTactic
import Derived.Deep.RegionWith
import Derived.BigQuiet
namespace Go.Proofs.Ytgieglpjkjncfab.Rc
open Go.ChangeShapes Go.WideShapes Go.ChangeAt Go.RowKit Go.Deep
set_option linter.unusedVariables false
set_option maxRecDepth 100000

abbrev TextD := ByteArray
/-- how it lies in cells -/
def textK : Kd TextD := ⟨fun D => [.string D], 1, ⟨#[]⟩, fun _ => rfl, by decide, fun x u hu => by
  simp at hu
  subst hu
  rfl⟩
theorem text_c0 (L : List TextD) (k : Nat) : cl textK L k = .string (gt textK L k) := by
  have h := cl_at textK L k 0 (by decide)
  rw [show k * textK.m + 0 = k from Nat.mul_one k] at h
  exact h
theorem text_lt {L : List TextD} {k : Nat} (hk : k < L.length) : k < L.length * textK.m := by show k < L.length * 1; omega
theorem text_r0 {w : World} {b o k : Nat} {L : List TextD} (h : ∀ q, q < L.length * textK.m → w.cell? ⟨b, o + q, none⟩ = some (cl textK L q)) (hk : k < L.length) : w.cell? ⟨b, o + k, none⟩ = some (.string (gt textK L k)) := by
  have h1 := h k (text_lt hk)
  rw [text_c0] at h1
  exact h1
theorem Try.infoText : (Try.prog.info? 9).map (fun i => (i.zero, i.size, i.bytes)) = some (some (.string ⟨#[]⟩), 1, 16) := by kernel_rfl
set_option maxHeartbeats 1000000 in
theorem toTextS_any (a : Option Addr) (cap : Nat) (L : List TextD) (w : World) (hN : L.length ≤ 1048576) (h : Rd textK w a L) :
    Calls Try.prog 6 #[.slice a L.length cap] w fun e w' => ∃ g, e = .returned (.slice (some ⟨g, 0, none⟩) L.length L.length) ∧ Ri textK w.heap.size w'.heap.size w' (some ⟨g, 0, none⟩) L ∧ Below w.heap.size w w' := by
  obtain ⟨i0, hi, hz0, hz1, hz2⟩ := info_parts Try.infoText
  obtain ⟨w1, hmk, hown, hgr⟩ := run_make_full (P := Try.prog) w w.heap.size 22 9 i0 _ 1 Try.underlying22 hi hz0 hz1 .i64 .i64 L.length (by rw [hz2]; omega) (by unfold maxLen; omega) (Nat.le_refl _)
  have HM : Hid (Mk textK w w1 L 0) := by
    refine ⟨(Below.refl _ _).grown hgr (Nat.le_refl _) (fun k hk => by cases hk), (hown.lt w.heap.size rfl).2, fun j hj => by omega, fun o ho => ?_, fun o => hown.frozenAt o⟩
    change o < L.length * 1 at ho
    rw [hown.cellAt o (by omega)]; simp [madeCells]; omega
  clear hown hgr hi hz0 hz1 hz2
  have HR := hide h
  clear h
  go_enter Try.func6, Try.ntmps6
  go_wp2
  go_loopw [4] (fun i wr => ∃ k : Nat, k ≤ L.length ∧ i = .int .i64 k ∧ Mk textK w wr L k) (fun i _ => L.length - (intOf i).toNat)
  case atStart => exact ⟨0, Nat.zero_le _, rfl, unhide HM⟩
  case round =>
    obtain ⟨k, hk, rfl, hmr⟩ := hrel
    by_cases hlt : k < L.length
    · rcases (unhide HR).below hmr.bel with h0 | ⟨b, off, rfl, _, hel⟩
      · rw [h0] at hlt; exact absurd hlt (Nat.not_lt_zero _)
      have c0 := text_r0 hel hlt
      clear hel HM
      have hm2 := hmr
      obtain ⟨v0, e0⟩ := Option.isSome_iff_exists.1 (hm2.rm k (text_lt hlt))
      have f0 := hm2.fz k
      have hs2 := hm2.lt
      have M0 := hide hm2
      have M1 := hide ((unhide M0).step (text_lt hlt) (.string (gt textK L k)) (text_c0 L k))
      clear hm2 hmr
      go_wp2
      exact ⟨⟨k + 1, by omega, by go_num, unhide M1⟩, by simp [intOf]; omega⟩
    · obtain rfl : k = L.length := by omega
      have HA := hide hmr
      clear hmr
      go_wp2
      go_ret
      exact ⟨_, rfl, Mk.ri (by show Mk textK w wr L (L.length * 1); rw [Nat.mul_one]; exact unhide HA), (unhide HA).bel⟩
set_option maxHeartbeats 1000000 in
theorem eqTextS_same (a a' : Option Addr) (cap cap' : Nat) (L : List TextD) (w : World) (hN : L.length ≤ 1048576) (h : Rd textK w a L) (h' : Rd textK w a' L) :
    Calls Try.prog 9 #[.slice a L.length cap, .slice a' L.length cap'] w fun e w' => e = .returned (.bool true) ∧ Below w.heap.size w w' := by
  have HR := hide h
  have HR' := hide h'
  clear h h'
  go_enter Try.func9, Try.ntmps9
  go_wp2
  go_loopw [5] (fun i wr => ∃ k : Nat, k ≤ L.length ∧ i = .int .i64 k ∧ Below w.heap.size w wr) (fun i _ => L.length - (intOf i).toNat)
  case atStart => exact ⟨0, Nat.zero_le _, rfl, Below.refl _ _⟩
  case round =>
    obtain ⟨k, hk, rfl, hbel⟩ := hrel
    by_cases hlt : k < L.length
    · rcases (unhide HR).below hbel with h0 | ⟨b, o, rfl, _, hel⟩
      · rw [h0] at hlt; exact absurd hlt (Nat.not_lt_zero _)
      rcases (unhide HR').below hbel with h0 | ⟨b', o', rfl, _, hel'⟩
      · rw [h0] at hlt; exact absurd hlt (Nat.not_lt_zero _)
      have c0 := text_r0 hel hlt
      have d0 := text_r0 hel' hlt
      clear hel hel'
      generalize gt textK L k = t at *
      have hnk : (k : Int) < (L.length : Int) := by omega
      have hk0 : (0 : Int) ≤ (k : Int) := by omega
      go_wp2_with fail
      go_quiet (fail)
      all_goals
        go_wp2
        exact ⟨⟨k + 1, by omega, by go_num, below_drewN hbel _⟩, by simp [intOf]; omega⟩
    · go_wp2
      go_ret
      exact ⟨rfl, hbel⟩

/-- what the texts of a row weigh -/
def textT (D : TextD) : Nat := D.size
def textW (L : List TextD) : Nat := (L.map textT).sum
theorem textW_take {L : List TextD} {k : Nat} (h : k < L.length) : textW (L.take (k + 1)) = textW (L.take k) + textT (gt textK L k) := by
  have e : L.take (k + 1) = L.take k ++ [gt textK L k] := by rw [gt_of textK L k h]; exact (List.take_append_getElem h).symm
  unfold textW
  rw [e, List.map_append, List.sum_append]
  simp
theorem textW_mem {L : List TextD} {x : TextD} (h : x ∈ L) : textT x ≤ textW L := by
  induction L with
  | nil => cases h
  | cons y L ih =>
    unfold textW at *
    rw [List.map_cons, List.sum_cons]
    rcases List.mem_cons.1 h with rfl | h
    · omega
    · have := ih h
      omega
/-- what is left of a weight -/
def szPText (left n : Nat) (e : Ending) : Prop := e = .returned (.int .i64 (-1)) ∨ ∃ r : Nat, e = .returned (.int .i64 r) ∧ r + n ≤ left
set_option maxHeartbeats 2000000 in
theorem szTextS_any (a : Option Addr) (cap left : Nat) (L : List TextD) (w : World) (hn : L.length ≤ maxLen) (hz : ∀ i, i < L.length → (gt textK L i).size ≤ maxLen) (hl : left ≤ 1048576) (h : Rd textK w a L) :
    Calls Try.prog 4 #[.slice a L.length cap, .int .i64 left] w fun e w' => szPText left (L.length + textW L) e ∧ Below w.heap.size w w' := by
  unfold maxLen at hn hz
  have e1 : IntKind.i64.wrap ((left : Int) - (L.length : Int)) = (left : Int) - (L.length : Int) := by rw [IntKind.wrap_i64]; omega
  by_cases h0 : L.length ≤ left
  · have e2 : ¬ (left : Int) - (L.length : Int) < 0 := by omega
    have HR := hide h
    have HZ := hide hz
    have e3 : (left : Int) - (L.length : Int) = ((left - L.length : Nat) : Int) := by omega
    have S0 := hide (show (left - L.length) + (L.length + textW (L.take 0)) ≤ left by show (left - L.length) + (L.length + 0) ≤ left; omega)
    have hln : L.length ≤ 1048576 := by omega
    clear h hz
    obtain ⟨l0, hl0⟩ : ∃ l0 : Nat, l0 = left - L.length := ⟨_, rfl⟩
    rw [← hl0] at S0 e3
    rw [e3] at e2
    replace e1 : IntKind.i64.wrap ((left : Int) - (L.length : Int)) = (l0 : Int) := by rw [e1]; exact e3
    have hl1 : l0 ≤ left := by omega
    clear e3 hl0
    go_enter Try.func4, Try.ntmps4
    go_wp2
    go_loopw [1, 5] (fun lv iv wr => ∃ (k r : Nat), k ≤ L.length ∧ iv = .int .i64 k ∧ lv = .int .i64 r ∧ r ≤ left ∧ Hid (r + (L.length + textW (L.take k)) ≤ left) ∧ Hid (Below w.heap.size w wr)) (fun _ iv _ => L.length - (intOf iv).toNat)
    case atStart => exact ⟨0, l0, Nat.zero_le _, rfl, rfl, hl1, S0, Below.refl _ _⟩
    case round =>
      obtain ⟨k, r, hk, rfl, rfl, hr, hs, hB⟩ := hrel
      clear S0
      by_cases hlt : k < L.length
      · rcases (unhide HR).below (unhide hB) with h9 | ⟨b, o, rfl, _, hel⟩
        · rw [h9] at hlt; exact absurd hlt (Nat.not_lt_zero _)
        have c0 := text_r0 hel hlt
        have zz := unhide HZ k hlt
        have hW := hide (textW_take hlt)
        unfold textT at hW
        have hnk : (k : Int) < (L.length : Int) := by omega
        have hk0 : (0 : Int) ≤ (k : Int) := by omega
        clear hel
        generalize gt textK L k = t at *
        have w1 : IntKind.i64.wrap ((r : Int) - (t.size : Int)) = (r : Int) - (t.size : Int) := by rw [IntKind.wrap_i64]; omega
        by_cases h1 : (r : Int) - (t.size : Int) < 0
        · go_wp2
          go_ret
          exact ⟨Or.inl rfl, unhide hB⟩
        · have HS2 : Hid ((r - t.size) + (L.length + textW (L.take (k + 1))) ≤ left) := by have h1 := unhide hs; show _ ≤ _; rw [unhide hW]; omega
          have e4 : (r : Int) - (t.size : Int) = ((r - t.size : Nat) : Int) := by omega
          obtain ⟨r2, hr2⟩ : ∃ r2, r - t.size = r2 := ⟨_, rfl⟩
          rw [hr2] at HS2 e4
          have hr3 : r2 ≤ left := by omega
          replace w1 : IntKind.i64.wrap ((r : Int) - (t.size : Int)) = (r2 : Int) := by rw [w1]; exact e4
          rw [e4] at h1
          clear e4 hr2 hs hW zz
          go_wp2
          exact ⟨⟨k + 1, r2, by omega, by go_num, rfl, hr3, HS2, hB⟩, by simp [intOf]; omega⟩
      · obtain rfl : k = L.length := by omega
        rw [List.take_length] at hs
        go_wp2
        go_ret
        exact ⟨Or.inr ⟨r, rfl, unhide hs⟩, unhide hB⟩
  · have e2 : (left : Int) - (L.length : Int) < 0 := by omega
    clear h hz
    go_enter Try.func4, Try.ntmps4
    go_wp2
    go_ret
    exact ⟨Or.inl rfl, Below.refl _ _⟩
/-- the marks of a row, from k0 on -/
def textM (k0 o : Nat) : Value := .string (mtT (k0 + o))
set_option maxHeartbeats 4000000 in
theorem markTextS_any (lb ls : Nat) (a : Option Addr) (cap : Nat) (L : List TextD) (k0 : Nat) (w : World) (hn : L.length ≤ 1048576) (hk1 : 1 ≤ k0) (hk0 : k0 ≤ 100000000) (h : Ri textK lb ls w a L) :
    Calls Try.prog 10 #[.slice a L.length cap, .int .i64 k0] w fun e w' => e = .returned (.int .i64 ((k0 + L.length : Nat) : Int)) ∧ Rm lb ls w' a (L.length * 1) (textM k0) ∧ Kq (fun q => lb ≤ q ∧ q < ls) w w' := by
  rcases h with rfl | ⟨g, rfl, hg, h⟩
  · go_enter Try.func10, Try.ntmps10
    go_wp2
    refine wp_loop_rounds 1 ?_
    rw [rounds_succ]
    go_wp2
    go_ret
    exact ⟨by simp, Or.inl (by simp), Kq.refl _ _⟩
  have H0 : Hid (Rg w g (L.length * 1) (up 0 (textM k0) (cl textK L))) := Rg.up0 h
  clear h
  go_enter Try.func10, Try.ntmps10
  go_wp2
  go_loopw [1, 5] (fun kv iv wr => ∃ i : Nat, i ≤ L.length ∧ iv = .int .i64 i ∧ kv = .int .i64 ((k0 + i : Nat) : Int) ∧ Hid (Rg wr g (L.length * 1) (up i (textM k0) (cl textK L))) ∧ Hid (Kq (fun q => lb ≤ q ∧ q < ls) w wr)) (fun _ iv _ => L.length - (intOf iv).toNat)
  case atStart => exact ⟨0, Nat.zero_le _, rfl, by simp, by simpa using H0, Kq.refl _ _⟩
  case round =>
    obtain ⟨i, hi, rfl, rfl, hG, hK⟩ := hrel
    clear H0
    by_cases hlt : i < L.length
    · have hnk : (i : Int) < (L.length : Int) := by omega
      obtain ⟨kk, hkk⟩ : ∃ kk : Nat, kk = k0 + i := ⟨_, rfl⟩
      have hkb : kk ≤ 200000000 := by omega
      have T1 := hide (markText_any kk (by omega) (by omega))
      have E1 := hide (show textM k0 i = .string (mtT kk) by rw [hkk]; rfl)
      generalize mtT kk = t1 at *
      rw [← hkk]
      have HKK := hide hkk
      clear hkk
      have G0 := hG
      have K0 := hK
      clear hG hK
      go_wp2_with fail
      refine (unhide T1 _).mono ?_
      rintro e v1 ⟨rfl, b1⟩
      have G1 := hide ((unhide G0).below b1)
      have K1 := hide ((unhide K0).trans (Kq.of b1))
      clear b1 G0 K0
      have c1 := (unhide G1).c i (by omega)
      have f1 := (unhide G1).fz i
      have hgl := (unhide G1).lt
      have G2 := hide ((unhide G1).mark (c := i) (by omega) (.string t1) (unhide E1))
      have K2 := hide ((unhide K1).set (g := g) (i := i) (u := .string t1) hg)
      go_wp2
      exact ⟨⟨i + 1, by omega, by go_num, by have := unhide HKK; go_num, G2, K2⟩, by simp [intOf]; omega⟩
    · obtain rfl : i = L.length := by omega
      have F := hide (And.intro (show Rg wr g (L.length * 1) (textM k0) by have h9 := unhide hG; rw [Nat.mul_one] at h9 ⊢; exact h9.all) (unhide hK))
      clear hG hK
      go_wp2
      go_ret
      exact ⟨rfl, Or.inr ⟨g, rfl, hg, (unhide F).1⟩, (unhide F).2⟩
end Go.Proofs.Ytgieglpjkjncfab.Rc
