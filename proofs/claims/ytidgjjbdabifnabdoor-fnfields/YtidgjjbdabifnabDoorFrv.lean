/-
  Contract of the program: ReadFields.
-/
import Derived.Test.YtidgjjbdabifnabDoorFrw
import Derived.Test.YtidgjjbdabifnabDoorFsw
import Derived.Test.YtidgjjbdabifnabDoorFsv
namespace Go.Proofs.YtidgjjbdabifnabDoor.Rc
open Go.ChangeShapes Go.WideShapes Go.ChangeAt Go.RowKit Go.Deep
set_option linter.unusedVariables false
set_option maxRecDepth 100000

theorem sT_sz : ∀ k, k < 16 → (gt fieldK sT k).f0.size ≤ 100 ∧ (gt fieldK sT k).f1.size ≤ 100 := by decide
theorem tkX_sz {l : List UInt8} {b q : Nat} {t : ByteArray} (h : tkX l b = some (t, q)) : t.size ≤ l.length := by
  unfold tkX at h
  cases hk : tkP l b with
  | none => rw [hk] at h; cases h
  | some x =>
    obtain ⟨n, hh, k⟩ := x
    rw [hk] at h
    dsimp only at h
    split at h
    · cases h
    · injection h with h
      injection h with h1 h2
      subst h1
      show ((l.drop k).take n).toArray.size ≤ _
      rw [List.size_toArray, List.length_take, List.length_drop]
      omega
/-- texts that are not too long -/
def okT (D : FieldD) : Prop := D.f0.size ≤ 1048576 ∧ D.f1.size ≤ 1048576
theorem stI_sz {l : List UInt8} {D : FieldD} {n : Nat} (hl : l.length ≤ 1048576) (h : stI l = some (D, n)) : okT D := by
  cases l with
  | nil => cases h
  | cons c r =>
    unfold stI at h
    dsimp only at h
    split at h
    · cases hk : tkP (c :: r) 6 with
      | none => rw [hk] at h; cases h
      | some x =>
        obtain ⟨k, hh, m⟩ := x
        rw [hk] at h
        dsimp only at h
        split at h
        · cases h
        · injection h with h
          injection h with h1 h2
          subst h1
          have := sT_sz k (by omega)
          exact ⟨by omega, by omega⟩
    · split at h
      · cases hk : tkP (c :: r) 4 with
        | none => rw [hk] at h; cases h
        | some x =>
          obtain ⟨k, hh, m⟩ := x
          rw [hk] at h
          dsimp only at h
          split at h
          · cases h
          · cases hx : tkX ((c :: r).drop m) 7 with
            | none => rw [hx] at h; cases h
            | some y =>
              obtain ⟨v, q⟩ := y
              rw [hx] at h
              injection h with h
              injection h with h1 h2
              subst h1
              have := sT_sz k (by omega)
              have h5 := tkX_sz hx
              rw [List.length_drop] at h5
              exact ⟨by show (gt fieldK sT k).f0.size ≤ _; omega, by show v.size ≤ _; omega⟩
      · cases hk : tkX (c :: r) 3 with
        | none => rw [hk] at h; cases h
        | some x =>
          obtain ⟨t, m⟩ := x
          rw [hk] at h
          dsimp only at h
          cases hx : tkX ((c :: r).drop m) 7 with
          | none => rw [hx] at h; cases h
          | some y =>
            obtain ⟨v, q⟩ := y
            rw [hx] at h
            injection h with h
            injection h with h1 h2
            subst h1
            have h4 := tkX_sz hk
            have h5 := tkX_sz hx
            rw [List.length_drop] at h5
            exact ⟨by show t.size ≤ _; omega, by show v.size ≤ _; omega⟩
theorem rlI_sz : ∀ (f : Nat) (l : List UInt8) (out L : List FieldD), l.length ≤ 1048576 → (∀ D ∈ out, okT D) → rlI f l out = some L → L.length ≤ out.length + f ∧ ∀ D ∈ L, okT D
  | f, [], out, L, _, ho, h => by
    have e : rlI f [] out = some out := by cases f <;> rfl
    rw [e] at h
    injection h with h
    subst h
    exact ⟨by omega, ho⟩
  | 0, c :: l, out, L, _, _, h => by cases h
  | f + 1, c :: l, out, L, hl, ho, h => by
    unfold rlI at h
    cases hs : stI (c :: l) with
    | none => rw [hs] at h; cases h
    | some x =>
      obtain ⟨D, n⟩ := x
      rw [hs] at h
      have h2 := rlI_sz f _ _ L (by rw [List.length_drop]; omega) (by
        intro E hE
        rcases List.mem_append.1 hE with hE | hE
        · exact ho E hE
        · rw [List.mem_singleton.1 hE]
          exact stI_sz hl hs) h
      rw [List.length_append, List.length_singleton] at h2
      exact ⟨by omega, h2.2⟩
theorem ro_rix {α : Type} {K : Kd α} {e : TypeId} {base : Nat} {w : World} {a : Option Addr} {n c : Nat} {L : List α} (h : Ro K e base w (.slice a n c) L) : Ri K base w.heap.size w a L ∧ n = L.length := by
  obtain ⟨a', c', hv, _, ri⟩ := h.form
  injection hv with h1 h2 h3
  subst h1 h2 h3
  exact ⟨ri, rfl⟩
/-- what ReadFields answers -/
def RfP (base : Nat) (o : Option (List FieldD)) (e : Ending) (w' : World) : Prop := ∃ (a : Option Addr) (c : Nat), e = .returned (.tuple #[.slice a (o.getD []).length c, .bool o.isSome]) ∧ Ro fieldK 33 base w' (.slice a (o.getD []).length c) (o.getD [])
theorem RfP.no (base : Nat) (w' : World) : RfP base none (.returned (.tuple #[.slice none 0 0, .bool false])) w' := ⟨none, 0, rfl, Ro.nil _ _ _ _⟩
set_option maxHeartbeats 8000000 in
theorem implRF (s : ByteArray) (w : World) (hs : s.size ≤ 1048576) (hS : Sf w) :
    Calls Tryd.prog 6 #[.string s] w fun e w' => RfP w.heap.size (rdI s.data.toList) e w' ∧ Below w.heap.size w w' := by
  have HF := hide (implFT s w hs hS)
  have HS := hide hS
  have hl : (s.data.toList.drop 2).length ≤ 1048576 := by
    rw [List.length_drop, Array.length_toList]
    have : s.data.size = s.size := rfl
    omega
  cases ho : rlI 30 (s.data.toList.drop 2) [] with
  | none =>
    have HR : Hid (rdI s.data.toList = none) := by
      show _ = _
      unfold rdI
      rw [ho]
      rfl
    rw [ho] at HF
    clear ho hl hS
    go_enter Tryd.func6, Tryd.ntmps6
    go_wp2_with fail
    refine (unhide HF).mono ?_
    rintro e w1 ⟨⟨a, n, c, out, rfl, _, _⟩, B⟩
    have HB := hide B
    clear B HF
    go_wp2_with fail
    refine bodyPost_ret (v := .tuple #[.slice none 0 0, .bool false]) (by simp [results, Tryd.results6, go_sem]) rfl ?_
    rw [unhide HR]
    exact ⟨RfP.no _ _, unhide HB⟩
  | some L =>
    have hsz := rlI_sz 30 _ [] L hl (fun D hD => by cases hD) ho
    rw [ho] at HF
    have HO := hide (show ∀ i, i < L.length → (gt fieldK L i).f0.size ≤ 1048576 ∧ (gt fieldK L i).f1.size ≤ 1048576 from fun i hi => hsz.2 _ (gt_mem fieldK L i hi))
    have hL : L.length ≤ 30 := by have := hsz.1; simp only [List.length_nil] at this; omega
    have HX := hide (fun a c W (b : Below w.heap.size w W) (h : Rd fieldK W a L) => implFB L a c W ((unhide HS).below b) (by omega) (unhide HO) h)
    clear hsz hS
    by_cases hg : gdF L = true
    · have HFB : Hid (fbR L = fbT L) := by show _ = _; unfold fbR; rw [if_pos hg]
      by_cases he : fbT L = s
      · have HR : Hid (rdI s.data.toList = some L) := by
          show _ = _
          unfold rdI
          rw [ho]
          unfold chk
          dsimp only
          rw [if_pos ⟨hg, by rw [← he]; rfl⟩]
        clear ho hl
        rw [hg, unhide HFB, he] at HX
        go_enter Tryd.func6, Tryd.ntmps6
        go_wp2_with fail
        refine (unhide HF).mono ?_
        rintro e w1 ⟨⟨a, n, c, out, rfl, R, E⟩, B⟩
        obtain rfl := E L rfl
        have HB := hide B
        have hn := (ro_rix R).2
        subst hn
        have HRo := hide R
        clear B HF R E
        go_wp2_with fail
        refine (unhide HX _ _ _ (unhide HB) (ro_rix (unhide HRo)).1.rd).mono ?_
        rintro e w2 ⟨rfl, b2⟩
        have HB2 := hide ((unhide HB).trans (b2.mono (unhide HB).size))
        have HR2 := hide ((unhide HRo).below b2)
        clear b2 HB HRo
        go_wp2_with fail
        refine bodyPost_ret (v := .tuple #[.slice a out.length c, .bool true]) (by simp [results, Tryd.results6, go_sem]) rfl ?_
        rw [unhide HR]
        exact ⟨⟨a, c, rfl, unhide HR2⟩, unhide HB2⟩
      · have HR : Hid (rdI s.data.toList = none) := by
          show _ = _
          unfold rdI
          rw [ho]
          unfold chk
          dsimp only
          rw [if_neg (fun h => he (by unfold fbT; rw [h.2]))]
        have hq : ((fbT L).toList == s.toList) = false := by rw [tlI]; exact decide_eq_false he
        clear ho hl
        rw [hg, unhide HFB] at HX
        go_enter Tryd.func6, Tryd.ntmps6
        go_wp2_with fail
        refine (unhide HF).mono ?_
        rintro e w1 ⟨⟨a, n, c, out, rfl, R, E⟩, B⟩
        obtain rfl := E L rfl
        have HB := hide B
        have hn := (ro_rix R).2
        subst hn
        have HRo := hide R
        clear B HF R E
        go_wp2_with fail
        refine (unhide HX _ _ _ (unhide HB) (ro_rix (unhide HRo)).1.rd).mono ?_
        rintro e w2 ⟨rfl, b2⟩
        have HB2 := hide ((unhide HB).trans (b2.mono (unhide HB).size))
        clear b2 HB HRo
        go_wp2_with fail
        refine bodyPost_ret (v := .tuple #[.slice none 0 0, .bool false]) (by simp [results, Tryd.results6, go_sem]) rfl ?_
        rw [unhide HR]
        exact ⟨RfP.no _ _, unhide HB2⟩
    · have hgf : gdF L = false := by cases h : gdF L with | true => exact absurd h hg | false => rfl
      have HR : Hid (rdI s.data.toList = none) := by
        show _ = _
        unfold rdI
        rw [ho]
        unfold chk
        dsimp only
        rw [if_neg (fun h => hg h.1)]
      clear ho hl
      rw [hgf] at HX
      go_enter Tryd.func6, Tryd.ntmps6
      go_wp2_with fail
      refine (unhide HF).mono ?_
      rintro e w1 ⟨⟨a, n, c, out, rfl, R, E⟩, B⟩
      obtain rfl := E L rfl
      have HB := hide B
      have hn := (ro_rix R).2
      subst hn
      have HRo := hide R
      clear B HF R E
      go_wp2_with fail
      refine (unhide HX _ _ _ (unhide HB) (ro_rix (unhide HRo)).1.rd).mono ?_
      rintro e w2 ⟨rfl, b2⟩
      have HB2 := hide ((unhide HB).trans (b2.mono (unhide HB).size))
      clear b2 HB HRo
      go_wp2_with fail
      refine bodyPost_ret (v := .tuple #[.slice none 0 0, .bool false]) (by simp [results, Tryd.results6, go_sem]) rfl ?_
      rw [unhide HR]
      exact ⟨RfP.no _ _, unhide HB2⟩
end Go.Proofs.YtidgjjbdabifnabDoor.Rc
