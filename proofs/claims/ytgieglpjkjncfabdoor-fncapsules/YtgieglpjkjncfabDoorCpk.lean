/-
  Contracts: KnownCapsules of both sides.
-/
import Derived.Test.YtgieglpjkjncfabDoorCpg
import Derived.Test.YtgieglpjkjncfabDoorCrs
import Derived.Deep.RegionLaw
import Derived.Deep.RegionHeld
namespace Go.Proofs.YtgieglpjkjncfabDoor.Rc
open Go.ChangeShapes Go.WideShapes Go.ChangeAt Go.RowKit Go.Deep
set_option linter.unusedVariables false
set_option maxRecDepth 100000

def isK (D : CapsuleD) : Bool := decide (D.f0 = 0) || decide (D.f0 = 1)
def knF (L : List CapsuleD) : List CapsuleD := L.filter isK
/-- those of the two kinds told -/
def knC (L : List CapsuleD) : List CapsuleD := if gdL L = true then knF L else []
theorem knF_len (L : List CapsuleD) : (knF L).length ≤ L.length := List.length_filter_le _ _
theorem knF_yes {L : List CapsuleD} {k : Nat} (hk : k < L.length) (h : isK (gt capsuleK L k) = true) : knF (L.take (k + 1)) = knF (L.take k) ++ [gt capsuleK L k] := by
  have e : L.take (k + 1) = L.take k ++ [gt capsuleK L k] := by rw [gt_of capsuleK L k hk]; exact (List.take_append_getElem hk).symm
  unfold knF
  rw [e, List.filter_append]
  simp [h]
theorem knF_no {L : List CapsuleD} {k : Nat} (hk : k < L.length) (h : isK (gt capsuleK L k) = false) : knF (L.take (k + 1)) = knF (L.take k) := by
  have e : L.take (k + 1) = L.take k ++ [gt capsuleK L k] := by rw [gt_of capsuleK L k hk]; exact (List.take_append_getElem hk).symm
  unfold knF
  rw [e, List.filter_append]
  simp [h]
/-- what KnownCapsules answers -/
def KcP (base : Nat) (L : List CapsuleD) (b : Bool) (e : Ending) (w' : World) : Prop := ∃ (a : Option Addr) (c : Nat), e = .returned (.tuple #[.slice a L.length c, .bool b]) ∧ Ro capsuleK 30 base w' (.slice a L.length c) L
theorem KcP.no (base : Nat) (w' : World) : KcP base [] false (.returned (.tuple #[.slice none 0 0, .bool false])) w' := ⟨none, 0, rfl, Ro.nil _ _ _ _⟩
set_option maxHeartbeats 8000000 in
theorem implKC (L : List CapsuleD) (a : Option Addr) (c : Nat) (w : World) (hm : L.length ≤ 1048576) (ho : ∀ i, i < L.length → (gt capsuleK L i).f1.size ≤ 1048576) (h : Rd capsuleK w a L) :
    Calls Tryd.prog 9 #[.slice a L.length c] w fun e w' => KcP w.heap.size (knC L) (gdL L) e w' ∧ Below w.heap.size w w' := by
  have HG := hide (implGC L a c w hm ho h)
  have HR := hide h
  have HOK := hide ho
  clear h ho
  unfold knC
  cases hg : gdL L with
  | false =>
    rw [hg] at HG
    rw [if_neg (by decide)]
    go_enter Tryd.func9, Tryd.ntmps9
    go_wp2_with fail
    refine (unhide HG).mono ?_
    rintro e w1 ⟨rfl, b1⟩
    go_wp2_with fail
    refine bodyPost_ret (v := .tuple #[.slice none 0 0, .bool false]) (by simp [results, Tryd.results9, go_sem]) rfl ?_
    exact ⟨KcP.no _ _, b1⟩
  | true =>
    rw [hg] at HG
    rw [if_pos rfl]
    clear hg
    go_enter Tryd.func9, Tryd.ntmps9
    go_wp2_with fail
    refine (unhide HG).mono ?_
    rintro e w1 ⟨rfl, b1⟩
    have B1 := hide b1
    clear b1 HG
    go_wp2_with fail
    go_loopw [4, 12] (fun v iv wr => ∃ k : Nat, k ≤ L.length ∧ iv = .int .i64 k ∧ Hid (Ro capsuleK 30 w.heap.size wr v (knF (L.take k))) ∧ Hid (Below w.heap.size w wr)) (fun _ iv _ => L.length - (intOf iv).toNat)
    case atStart => exact ⟨0, Nat.zero_le _, rfl, Ro.nil _ _ _ _, B1⟩
    case round =>
      obtain ⟨k, hk, rfl, hR, hB⟩ := hrel
      clear B1
      by_cases hlt : k < L.length
      · rcases (unhide HR).below (unhide hB) with h0 | ⟨b, o, rfl, _, hel⟩
        · rw [h0] at hlt; exact absurd hlt (Nat.not_lt_zero _)
        have x0 := capsule_r0 hel hlt
        have x1 := capsule_r1 hel hlt
        have hfl : (knF (L.take k)).length ≤ k := by have := knF_len (L.take k); rw [List.length_take] at this; omega
        have HY := hide (fun q => knF_yes hlt q)
        have HN := hide (fun q => knF_no hlt q)
        have HE := hide (fun W => clone_text (gt capsuleK L k).f1 W (unhide HOK k hlt))
        clear hel
        obtain ⟨M, hM⟩ : ∃ M, knF (L.take k) = M := ⟨_, rfl⟩
        rw [hM] at hR hfl HY HN
        clear hM
        obtain ⟨a2, c2, rfl⟩ := (unhide hR).opens
        generalize gt capsuleK L k = D at *
        obtain ⟨nm, vl⟩ := D
        dsimp only at x0 x1 HE
        obtain ⟨V, hV⟩ : ∃ V, V = wr.alloc (.cells #[.int .i64 nm, .string vl] 30) := ⟨_, rfl⟩
        have hBV : Below w.heap.size w V := by rw [hV]; exact (unhide hB).alloc (unhide hB).size _
        have hRV : Ro capsuleK 30 w.heap.size V (.slice a2 M.length c2) M := by rw [hV]; exact (unhide hR).below ((Below.refl _ _).alloc (Nat.le_refl _) _)
        have hbx : Bx V wr.heap.size [.int .i64 nm, .string vl] := by rw [hV]; exact Bx.new wr _ _
        have y0 := hbx.cv
        have yl := hbx.lt
        have HBV := hide hBV
        have HRV := hide hRV
        have HBX := hide hbx
        have HVV := hide hV
        clear hV hBV hbx hRV
        go_upto_region 7 with fail
        rw [← unhide HVV]
        clear HVV x0 x1
        have HPU := hide (fun (w2 : World) (b2 : Below V.heap.size V w2) => pushCapsule w2 w.heap.size (.slice a2 M.length c2) M ⟨nm, vl⟩ ((unhide HRV).below b2) (by omega) (Nat.le_trans (unhide HBV).size b2.size))
        by_cases hkn : nm = 0 ∨ nm = 1
        · have HS := hide (unhide HY (by show (decide (nm = 0) || decide (nm = 1)) = true; rcases hkn with h0 | h0 <;> simp [h0]))
          have HFIN := hide (fun (v3 : Value) (w2 w3 : World) (b2 : Below V.heap.size V w2) (o3 : Ro capsuleK 30 w.heap.size w3 v3 (M ++ [⟨nm, vl⟩])) (b3 : Below w.heap.size w2 w3) => show Hid (Ro capsuleK 30 w.heap.size w3 v3 (knF (L.take (k + 1)))) ∧ Hid (Below w.heap.size w w3) from ⟨by show Ro _ _ _ _ _ _; rw [unhide HS]; exact o3, ((unhide HBV).trans (b2.mono (unhide HBV).size)).trans b3⟩)
          clear HS HRV hR hB HY HN
          have hcs : ((nm == 0) = true) ∨ ((nm == 0) = false ∧ (nm == 1) = true) := by
            by_cases h0 : nm = 0
            · exact Or.inl (beq_iff_eq.2 h0)
            · exact Or.inr ⟨beq_eq_false_iff_ne.2 h0, beq_iff_eq.2 (hkn.resolve_left h0)⟩
          clear hkn
          rcases hcs with e0 | ⟨e0, e1⟩
          all_goals
            go_upto_region 8 with fail
            go_region_law (first | (go_simp; go_at_call 23; (with_reducible refine (unhide HE _).mono ?_); rintro e w2 ⟨rfl, b2⟩; obtain ⟨v3, w3, r3, o3, b3, kp3⟩ := unhide HPU w2 ((below_drewN (Below.refl V.heap.size V) 1).trans b2); have RUN := hide r3; have HF2 := unhide HFIN v3 w2 w3 ((below_drewN (Below.refl V.heap.size V) 1).trans b2) o3 b3; have hbx2 := (unhide HBX).below ((below_drewN (Below.refl V.heap.size V) 1).trans b2); have q0 := hbx2.cv; have ql := hbx2.lt; clear r3 o3 b3 kp3 hbx2 b2) | (refine stp_app rfl _ _ 23 rfl _ _ _ _ (by simp [Act.eval]) (by simp [Act.eval]) (unhide RUN) ?_))
            all_goals
              obtain ⟨HO, HB3⟩ := HF2
              go_wp2
              exact ⟨⟨k + 1, by omega, by go_num, HO, HB3⟩, by simp [intOf]; omega⟩
        · have h0 : ¬ nm = 0 := fun z => hkn (Or.inl z)
          have h1 : ¬ nm = 1 := fun z => hkn (Or.inr z)
          have HS := hide (unhide HN (by show (decide (nm = 0) || decide (nm = 1)) = false; rw [decide_eq_false h0, decide_eq_false h1]; rfl))
          have h0b : (nm == 0) = false := beq_eq_false_iff_ne.2 h0
          have h1b : (nm == 1) = false := beq_eq_false_iff_ne.2 h1
          have HO : Hid (Ro capsuleK 30 w.heap.size V (.slice a2 M.length c2) (knF (L.take (k + 1)))) := by show Ro _ _ _ _ _ _; rw [unhide HS]; exact unhide HRV
          clear HS HRV hR hB HY HN HPU hkn h0 h1
          go_wp2_with fail
          exact ⟨⟨k + 1, by omega, by go_num, HO, HBV⟩, by simp [intOf]; omega⟩
      · obtain rfl : k = L.length := by omega
        rw [List.take_length] at hR
        obtain ⟨a2, c2, rfl⟩ := (unhide hR).opens
        go_wp2_with fail
        refine bodyPost_ret (v := .tuple #[.slice a2 (knF L).length c2, .bool true]) (by simp [results, Tryd.results9, go_sem]) rfl ?_
        exact ⟨⟨a2, c2, rfl, unhide hR⟩, unhide hB⟩
end Go.Proofs.YtgieglpjkjncfabDoor.Rc
