/-
  Contract: VersionAnswer, as the model makes it.
-/
import Derived.Test.YtbabipaipbjlbaaWrp
import Derived.Test.YtbabipaipbjlbaaGhqX
import Derived.Laws.OwnMore
import Derived.Deep.RegionLaw
namespace Go.Proofs.Ytbabipaipbjlbaa
open Go.ChangeShapes Go.WideShapes Go.ChangeAt Go.RowKit
set_option linter.unusedVariables false

/-- there is an answer -/
def va (f bi ve : Int) (d s t p n : Nat) (V : Nat → Int) (m : Nat) (U : Nat → Int) : Bool := decide (gh f bi ve d s t p n V = true ∧ f = 0 ∧ gv 1 m U = true ∧ has U m ve = false)
/-- the zero header -/
abbrev h0 : Value := hv 0 0 0 ⟨#[]⟩ ⟨#[]⟩ ⟨#[]⟩ ⟨#[]⟩ none 0 0
/-- what is answered: the zero header, or one with its versions in a row of its own -/
def Va (r : Bool) (d s : ByteArray) (m : Nat) (U : Nat → Int) (w : World) (e : Ending) (w' : World) : Prop :=
  ((r = false ∧ e = .returned (.tuple #[h0, .bool false])) ∨ (r = true ∧ 1 ≤ m ∧ m ≤ 20 ∧ ∃ g3 cap3, e = .returned (.tuple #[hv 4 0 0 s d ⟨#[]⟩ ⟨#[]⟩ (some ⟨g3, 0, none⟩) m cap3, .bool true]) ∧ Iw w' w.heap.size g3 m U)) ∧ Below w.heap.size w w'
theorem news_ir {w : World} {g off m : Nat} {U : Nat → Int} (h : Ir w g off m U) : ∀ j u, ((ls U m).map (Value.int .i64))[j]? = some u → w.cell? ((⟨g, off, none⟩ : Addr).add j) = some u := fun j u hu => by
  have hl := ls_length U m
  have hj : j < m := by
    rcases Nat.lt_or_ge j m with h' | h'
    · exact h'
    · rw [List.getElem?_eq_none (by simp [hl]; omega)] at hu; cases hu
  have ad : (⟨g, off, none⟩ : Addr).add j = ⟨g, off + j, none⟩ := by unfold Addr.add; split <;> simp_all
  rw [ad, h.cv j hj]
  simp [ls, hj] at hu
  rw [hu]

set_option maxRecDepth 100000 in
set_option maxHeartbeats 4000000 in
theorem specVA_any (f bi ve : Int) (d s t p : ByteArray) (ra : Option Addr) (n cap g2 off2 m cap2 : Nat) (V U : Nat → Int) (w : World) (hd : d.size ≤ 1048576) (hs : s.size ≤ 1048576) (ht : t.size ≤ 1048576) (hp : p.size ≤ 1048576) (hn : n ≤ 1048576) (hm : m ≤ 1048576) (hR : Ia w ra n cap V) (hU : Ir w g2 off2 m U) :
    Calls Try.prog 21 #[hv f bi ve d s t p ra n cap, .slice (some ⟨g2, off2, none⟩) m cap2] w (Va (va f bi ve d.size s.size t.size p.size n V m U) d s m U w) := by
  have HG := hide (fun W (hr : Ia W ra n cap V) => specGood_ra f bi ve d s t p ra n cap V W hd hs ht hp hn hr)
  have no : ∀ {q : Prop}, (gh f bi ve d.size s.size t.size p.size n V = true ∧ f = 0 ∧ gv 1 m U = true ∧ has U m ve = false → q) → ¬ q → Hid (va f bi ve d.size s.size t.size p.size n V m U = false) := fun h1 h2 => decide_eq_false (fun z => h2 (h1 z))
  have HR := hide hR
  have HU := hide hU
  clear hR hU
  go_enter Try.func21, Try.ntmps21
  go_wp2_with fail
  refine (unhide HG _ ((unhide HR).below (((Below.refl _ _).alloc (Nat.le_refl _) _).alloc (by simp) _))).mono ?_
  rintro e w1 ⟨rfl, hb1⟩
  obtain ⟨hc1, hf1⟩ := bcell hb1
  have B1 : Below w.heap.size w w1 := (((Below.refl _ _).alloc (Nat.le_refl _) _).alloc (by simp) _).trans (hb1.mono (by simp; omega))
  have U1 := hide ((unhide HU).below B1)
  have hz1 : w.heap.size + 1 < w1.heap.size := by have := hb1.size; simp at this; omega
  clear HG HR
  cases hg : gh f bi ve d.size s.size t.size p.size n V with
  | false =>
    have HF := no (fun z => z.1) (by rw [hg]; decide)
    clear no hg
    go_wp2
    refine bodyPost_ret (v := .tuple #[h0, .bool false]) (by simp [results, Try.results21, go_sem, hc1]) rfl ⟨Or.inl ⟨unhide HF, rfl⟩, ?_⟩
    iterate 8 refine Below.setCell ?_ (by simp) _
    exact B1
  | true =>
    by_cases z : f = 0
    case neg =>
      have HF := no (fun z => z.2.1) z
      have hz : (f != 0) = true := bne_iff_ne.2 z
      clear no hg z
      go_wp2
      refine bodyPost_ret (v := .tuple #[h0, .bool false]) (by simp [results, Try.results21, go_sem, hc1]) rfl ⟨Or.inl ⟨unhide HF, rfl⟩, ?_⟩
      iterate 8 refine Below.setCell ?_ (by simp) _
      exact B1
    subst z
    by_cases mm : 1 ≤ m ∧ m ≤ 20
    case neg =>
      have HF := no (fun z => z.2.2.1) (fun z => mm ⟨(of_decide_eq_true z).1, (of_decide_eq_true z).2.1⟩)
      have HI := hide (fun W => in_no (m : Int) 1 20 W (by omega))
      clear no hg mm
      go_wp2_with (go_at_call 34; with_reducible refine (unhide HI _).mono ?_; rintro e w' ⟨rfl, rfl⟩)
      refine bodyPost_ret (v := .tuple #[h0, .bool false]) (by simp [results, Try.results21, go_sem, hc1]) rfl ⟨Or.inl ⟨unhide HF, rfl⟩, ?_⟩
      iterate 8 refine Below.setCell ?_ (by simp) _
      exact B1
    have HI := hide (fun W => in_yes (m : Int) 1 20 W (by omega) (by omega))
    have HH := hide (fun W (hr : Ir W g2 off2 m U) => l1Has_any g2 off2 m cap2 U ve W hm hr)
    cases hh : has U m ve with
    | true =>
      have HF := no (fun z => z.2.2.2) (by rw [hh]; decide)
      rw [hh] at HH
      clear no hg mm hh
      go_wp2_with (first | (go_at_call 34; with_reducible refine (unhide HI _).mono ?_; rintro e w' ⟨rfl, rfl⟩) | (go_at_call 51; refine (unhide HH _ (unhide U1)).mono ?_; rintro e w' ⟨rfl, rfl⟩))
      refine bodyPost_ret (v := .tuple #[h0, .bool false]) (by simp [results, Try.results21, go_sem, hc1]) rfl ⟨Or.inl ⟨unhide HF, rfl⟩, ?_⟩
      iterate 8 refine Below.setCell ?_ (by simp) _
      exact B1
    | false =>
      rw [hh] at HH
      have HN := hide (fun (hx : gv 1 m U = false) => no (fun z => z.2.2.1) (by rw [hx]; decide))
      have HY : Hid (gv 1 m U = true → va 0 bi ve d.size s.size t.size p.size n V m U = true) := fun hx => decide_eq_true ⟨hg, rfl, hx, hh⟩
      obtain ⟨m1, m2⟩ := mm
      clear no hg hh
      go_wp2_with (first | (go_at_call 34; with_reducible refine (unhide HI _).mono ?_; rintro e w' ⟨rfl, rfl⟩) | (go_at_call 51; refine (unhide HH _ (unhide U1)).mono ?_; rintro e w' ⟨rfl, rfl⟩))
      go_loopw [31] (fun i wr => ∃ k : Nat, k ≤ m ∧ i = .int .i64 k ∧ (∀ j, j < k → okW 1 (U j) = true) ∧ wr = w') (fun i _ => m - (intOf i).toNat)
      case atStart => exact ⟨0, Nat.zero_le _, rfl, fun j hj => by omega, rfl⟩
      case round =>
        obtain ⟨k, hk, rfl, hok, rfl⟩ := hrel
        by_cases hlt : k < m
        · have hcf := (unhide U1).cv k hlt
          have HO := hide hok
          clear hok
          cases hw : okW 1 (U k) with
          | true =>
            have hw' := of_decide_eq_true hw
            have HK := hide (fun W => in_yes (U k) 1 4294967295 W hw'.1 hw'.2)
            have HW := hide hw
            clear hw hw'
            go_wp2_with (go_at_call 34; with_reducible refine (unhide HK _).mono ?_; rintro e w' ⟨rfl, rfl⟩)
            exact ⟨⟨k + 1, by omega, by go_num, upto_succW (unhide HO) (unhide HW), by first | trivial | rfl⟩, by simp [intOf]; omega⟩
          | false =>
            have hw' := of_decide_eq_false hw
            have HK := hide (fun W => in_no (U k) 1 4294967295 W hw')
            have HF := unhide HN (decide_eq_false (fun q => by have := allW_no hlt hw; rw [this] at q; exact absurd q.2.2 (by decide)))
            clear hw hw'
            go_wp2_with (go_at_call 34; with_reducible refine (unhide HK _).mono ?_; rintro e w' ⟨rfl, rfl⟩)
            refine bodyPost_ret (v := .tuple #[h0, .bool false]) (by simp [results, Try.results21, go_sem, hc1]) rfl ⟨Or.inl ⟨unhide HF, rfl⟩, ?_⟩
            iterate 8 refine Below.setCell ?_ (by simp) _
            exact B1
        · obtain rfl : k = m := by omega
          have HF := unhide HY (decide_eq_true ⟨m1, m2, allW_yes hok⟩)
          clear hok HN
          obtain ⟨i0, hi, hz0, hz1', hz2⟩ := infoI_parts
          have OW : Hid (((wr.alloc (.cells #[] 3)).drew).ownsRow wr.heap.size 3 1 (.slice (some ⟨wr.heap.size, 0, none⟩) 0 0) 0 []) := World.ownsRow_lit (base := wr.heap.size) (e := 3) (size := 1) wr #[] 0 (Nat.le_refl _) (by unfold maxLen; omega) rfl
          have NW := hide (news_ir ((unhide U1).below (((Below.refl _ wr).alloc (Nat.le_refl _) (.cells #[] 3)).drew)))
          have hl := ls_length U k
          have DG := hide (fun (w3 : World) (hg3 : ((wr.alloc (.cells #[] 3)).drew).grownBy w3 (some wr.heap.size)) => (show Below wr.heap.size wr w3 from (((Below.refl _ wr).alloc (Nat.le_refl _) (.cells #[] 3)).drew).grown hg3 (by simp) (fun q hq => by simp at hq; omega)))
          have D1 := hide hb1
          have e3 : wr.cell? ⟨w.heap.size, 3, none⟩ = some (.string d) := by rw [hc1 _ _ (by simp; omega)]; simp
          have e4 : wr.cell? ⟨w.heap.size, 4, none⟩ = some (.string s) := by rw [hc1 _ _ (by simp; omega)]; simp
          have a3 : ∀ o, (wr.alloc o).cell? ⟨w.heap.size, 3, none⟩ = some (.string d) := fun o => (((Below.refl _ wr).alloc (Nat.le_refl _) o).cell (p := ⟨w.heap.size, 3, none⟩) (by show w.heap.size < _; omega)).trans e3
          have a4 : ∀ o, (wr.alloc o).cell? ⟨w.heap.size, 4, none⟩ = some (.string s) := fun o => (((Below.refl _ wr).alloc (Nat.le_refl _) o).cell (p := ⟨w.heap.size, 4, none⟩) (by show w.heap.size < _; omega)).trans e4
          clear e3 e4
          go_wp2_with fail
          go_region_law (refine step_append_lies _ rfl _ _ 47 rfl wr.heap.size 3 i0 (.int .i64 0) 1 8 Try.underlying47 hi hz0 hz1' hz2 rfl (by decide) _ _ _ rfl (unhide OW) ⟨g2, off2, none⟩ k cap2 ((ls U k).map (Value.int .i64)) rfl (by simp [hl]) (unhide NW) (by intro u hu; simp at hu; obtain ⟨_, _, rfl⟩ := hu; rfl) (by omega) (by unfold maxLen; omega) (by omega) (by simp) _ rfl ?_; intro g3 cap3 w3 ho3 hg3 hat3 hlt3; have B3 := unhide DG w3 hg3; obtain ⟨hc3, hf3⟩ := bcell ((unhide D1).trans (B3.mono (unhide D1).size)))
          all_goals
            have I30 : Iw w3 wr.heap.size g3 k U := by
              obtain ⟨gg, cc, e, _, hI⟩ := Iw.of_own (w := w3) (base := wr.heap.size) (n := k) (V := U) (by simpa using ho3) m1 (unhide U1).bv
              simp at e
              rw [← e.1] at hI
              exact hI
            have I3 : Iw w3 w.heap.size g3 k U := ⟨Nat.le_trans B1.size I30.ge, I30.lt, I30.cv, I30.bv, I30.fz⟩
            have ge3 : w.heap.size + 1 < g3 := Nat.lt_of_lt_of_le hz1 I30.ge
            clear I30
            have Z3 : Below w.heap.size w w3 := B1.trans (B3.mono B1.size)
            have HI3 := hide I3
            have HZ3 := hide Z3
            clear I3 Z3 ho3 hg3 hat3 hlt3 OW NW DG D1 U1 B3 HU a3 a4 hc1 hf1 B1 hb1
            go_wp2
            refine bodyPost_ret (v := .tuple #[hv 4 0 0 s d ⟨#[]⟩ ⟨#[]⟩ (some ⟨g3, 0, none⟩) k cap3, .bool true]) (by simp [results, Try.results21, go_sem, hc3]) rfl ⟨Or.inr ⟨HF, m1, m2, g3, cap3, rfl, ?_⟩, ?_⟩
            · iterate 8 refine Iw.setOther ?_ (by simp; omega)
              exact unhide HI3
            · iterate 8 refine Below.setCell ?_ (by simp) _
              exact unhide HZ3
set_option maxHeartbeats 1000000 in
theorem specVA_nil (f bi ve : Int) (d s t p : ByteArray) (ra rb : Option Addr) (n cap cap2 : Nat) (V U : Nat → Int) (w : World) (hd : d.size ≤ 1048576) (hs : s.size ≤ 1048576) (ht : t.size ≤ 1048576) (hp : p.size ≤ 1048576) (hn : n ≤ 1048576) (hR : Ia w ra n cap V) :
    Calls Try.prog 21 #[hv f bi ve d s t p ra n cap, .slice rb 0 cap2] w (Va (va f bi ve d.size s.size t.size p.size n V 0 U) d s 0 U w) := by
  have HG := hide (fun W (hr : Ia W ra n cap V) => specGood_ra f bi ve d s t p ra n cap V W hd hs ht hp hn hr)
  have HF : Hid (va f bi ve d.size s.size t.size p.size n V 0 U = false) := decide_eq_false (fun z => by have := of_decide_eq_true z.2.2.1; omega)
  have HR := hide hR
  clear hR
  have HI := hide (fun W => in_no (0 : Int) 1 20 W (by omega))
  go_enter Try.func21, Try.ntmps21
  go_wp2_with fail
  refine (unhide HG _ ((unhide HR).below (((Below.refl _ _).alloc (Nat.le_refl _) _).alloc (by simp) _))).mono ?_
  rintro e w1 ⟨rfl, hb1⟩
  obtain ⟨hc1, hf1⟩ := bcell hb1
  have B1 : Below w.heap.size w w1 := (((Below.refl _ _).alloc (Nat.le_refl _) _).alloc (by simp) _).trans (hb1.mono (by simp; omega))
  have hz1 : w.heap.size + 1 < w1.heap.size := by have := hb1.size; simp at this; omega
  clear HG HR
  cases hg : gh f bi ve d.size s.size t.size p.size n V with
  | false =>
    clear hg
    go_wp2
    refine bodyPost_ret (v := .tuple #[h0, .bool false]) (by simp [results, Try.results21, go_sem, hc1]) rfl ⟨Or.inl ⟨unhide HF, rfl⟩, ?_⟩
    iterate 8 refine Below.setCell ?_ (by simp) _
    exact B1
  | true =>
    by_cases z : f = 0
    case neg =>
      have hz : (f != 0) = true := bne_iff_ne.2 z
      clear hg z
      go_wp2
      refine bodyPost_ret (v := .tuple #[h0, .bool false]) (by simp [results, Try.results21, go_sem, hc1]) rfl ⟨Or.inl ⟨unhide HF, rfl⟩, ?_⟩
      iterate 8 refine Below.setCell ?_ (by simp) _
      exact B1
    subst z
    clear hg
    go_wp2_with (go_at_call 34; with_reducible refine (unhide HI _).mono ?_; rintro e w' ⟨rfl, rfl⟩)
    refine bodyPost_ret (v := .tuple #[h0, .bool false]) (by simp [results, Try.results21, go_sem, hc1]) rfl ⟨Or.inl ⟨unhide HF, rfl⟩, ?_⟩
    iterate 8 refine Below.setCell ?_ (by simp) _
    exact B1
end Go.Proofs.Ytbabipaipbjlbaa
