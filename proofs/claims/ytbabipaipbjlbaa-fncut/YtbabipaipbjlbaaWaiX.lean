/-
  Contract: VersionAnswer, as the program makes it. Contracts: two headers held against each other.
-/
import Derived.Test.YtbabipaipbjlbaaWas
import Derived.Test.YtbabipaipbjlbaaGhx
import Derived.Test.YtbabipaipbjlbaaPrdX
namespace Go.Proofs.Ytbabipaipbjlbaa
open Go.ChangeShapes Go.WideShapes Go.ChangeAt Go.RowKit
set_option linter.unusedVariables false

set_option maxRecDepth 100000 in
set_option maxHeartbeats 4000000 in
theorem implVA_any (f bi ve : Int) (d s t p : ByteArray) (ra : Option Addr) (n cap g2 off2 m cap2 : Nat) (V U : Nat → Int) (w : World) (hd : d.size ≤ 1048576) (hs : s.size ≤ 1048576) (ht : t.size ≤ 1048576) (hp : p.size ≤ 1048576) (hn : n ≤ 1048576) (hm : m ≤ 1048576) (hR : Ia w ra n cap V) (hU : Ir w g2 off2 m U) :
    Calls Try.prog 20 #[hv f bi ve d s t p ra n cap, .slice (some ⟨g2, off2, none⟩) m cap2] w (Va (va f bi ve d.size s.size t.size p.size n V m U) d s m U w) := by
  have HG := hide (fun W (hr : Ia W ra n cap V) => implGood_any f bi ve d s t p ra n cap V W hd hs ht hp hn hr)
  have no : ∀ {q : Prop}, (gh f bi ve d.size s.size t.size p.size n V = true ∧ f = 0 ∧ gv 1 m U = true ∧ has U m ve = false → q) → ¬ q → Hid (va f bi ve d.size s.size t.size p.size n V m U = false) := fun h1 h2 => decide_eq_false (fun z => h2 (h1 z))
  have HR := hide hR
  have HU := hide hU
  have A0 : Hid (∀ o1 o2, Below w.heap.size w ((w.alloc o1).alloc o2)) := fun o1 o2 => ((Below.refl _ _).alloc (Nat.le_refl _) _).alloc (by simp) _
  clear hR hU
  by_cases z : f = 0
  case neg =>
    have HF := no (fun z => z.2.1) z
    have hz : (f != 0) = true := bne_iff_ne.2 z
    clear no z
    go_enter Try.func20, Try.ntmps20
    go_wp2
    refine bodyPost_ret (v := .tuple #[h0, .bool false]) (by simp [results, Try.results20, go_sem]) rfl ⟨Or.inl ⟨unhide HF, rfl⟩, ?_⟩
    exact unhide A0 _ _
  subst z
  go_enter Try.func20, Try.ntmps20
  go_wp2_with fail
  refine (unhide HG _ ((unhide HR).below (((Below.refl _ _).alloc (Nat.le_refl _) _).alloc (by simp) _))).mono ?_
  rintro e w1 ⟨rfl, hb1⟩
  obtain ⟨hc1, hf1⟩ := bcell hb1
  have B1 : Below w.heap.size w w1 := (unhide A0 _ _).trans (hb1.mono (by simp; omega))
  have U1 := hide ((unhide HU).below B1)
  have hz1 : w.heap.size + 1 < w1.heap.size := by have := hb1.size; simp at this; omega
  clear HG HR
  cases hg : gh 0 bi ve d.size s.size t.size p.size n V with
  | false =>
    have HF := no (fun z => z.1) (by rw [hg]; decide)
    clear no hg
    go_wp2
    refine bodyPost_ret (v := .tuple #[h0, .bool false]) (by simp [results, Try.results20, go_sem, hc1]) rfl ⟨Or.inl ⟨unhide HF, rfl⟩, ?_⟩
    iterate 8 refine Below.setCell ?_ (by simp) _
    exact B1
  | true =>
    have HV := hide (fun W (hr : Ir W g2 off2 m U) => goodVersions_any 1 (some ⟨g2, off2, none⟩) m cap2 U W (Or.inr ⟨g2, off2, rfl, hr⟩) hm (Or.inr rfl))
    have HC := hide (fun W (hr : Ir W g2 off2 m U) => contains_any g2 off2 m cap2 U ve W hm hr)
    cases hv1 : gv 1 m U with
    | false =>
      have HF := no (fun z => z.2.2.1) (by rw [hv1]; decide)
      rw [hv1] at HV
      clear no hg hv1
      go_wp2_with (go_at_call 46; refine (unhide HV _ (unhide U1)).mono ?_; rintro e w' ⟨rfl, rfl⟩)
      refine bodyPost_ret (v := .tuple #[h0, .bool false]) (by simp [results, Try.results20, go_sem, hc1]) rfl ⟨Or.inl ⟨unhide HF, rfl⟩, ?_⟩
      iterate 8 refine Below.setCell ?_ (by simp) _
      exact B1
    | true =>
      rw [hv1] at HV
      obtain ⟨m1, m2, _⟩ := of_decide_eq_true hv1
      cases hh : has U m ve with
      | true =>
        have HF := no (fun z => z.2.2.2) (by rw [hh]; decide)
        rw [hh] at HC
        clear no hg hv1 hh
        go_wp2_with (first | (go_at_call 46; refine (unhide HV _ (unhide U1)).mono ?_; rintro e w' ⟨rfl, rfl⟩) | (go_at_call 47; refine (unhide HC _ (unhide U1)).mono ?_; rintro e w' ⟨rfl, rfl⟩))
        refine bodyPost_ret (v := .tuple #[h0, .bool false]) (by simp [results, Try.results20, go_sem, hc1]) rfl ⟨Or.inl ⟨unhide HF, rfl⟩, ?_⟩
        iterate 8 refine Below.setCell ?_ (by simp) _
        exact B1
      | false =>
        have HF : Hid (va 0 bi ve d.size s.size t.size p.size n V m U = true) := decide_eq_true ⟨hg, rfl, hv1, hh⟩
        rw [hh] at HC
        clear no hg hv1 hh
        go_wp2_with (first | (go_at_call 46; refine (unhide HV _ (unhide U1)).mono ?_; rintro e w' ⟨rfl, rfl⟩) | (go_at_call 47; refine (unhide HC _ (unhide U1)).mono ?_; rintro e w' ⟨rfl, rfl⟩))
        have D1 := hide hb1
        have hcur : Below w'.heap.size w' w'.drew := (Below.refl _ _).drew
        have HT := hide (fun (x : ByteArray) (W : World) (hx : x.size ≤ 1048576) => clone_text x W hx)
        go_wp2_with fail
        go_region_with (first | (go_at_call 48; refine (unhide HT s _ hs).mono ?_; rintro e wA ⟨rfl, hbA⟩; have hcur := hcur.trans (hbA.mono hcur.size); obtain ⟨hcA, hfA⟩ := bcell ((unhide D1).trans (hcur.mono (unhide D1).size))) | (go_at_call 48; refine (unhide HT d _ hd).mono ?_; rintro e wA ⟨rfl, hbA⟩; have hcur := hcur.trans (hbA.mono hcur.size); obtain ⟨hcA, hfA⟩ := bcell ((unhide D1).trans (hcur.mono (unhide D1).size))) | (go_at_call 49; refine (clone_ints g2 off2 m cap2 U _ hm m1 ((unhide U1).below hcur)).mono ?_; rintro e w3 ⟨g3, cap3, rfl, hcap3, I30, hb3⟩; have ge3 := Nat.le_trans hcur.size I30.ge; have hcur := hcur.trans (hb3.mono hcur.size); obtain ⟨hc3, hf3⟩ := bcell ((unhide D1).trans (hcur.mono (unhide D1).size))))
        all_goals
          have I3 : Iw w3 w.heap.size g3 m U := ⟨Nat.le_trans B1.size ge3, I30.lt, I30.cv, I30.bv, I30.fz⟩
          have ge3' : w.heap.size + 1 < g3 := Nat.lt_of_lt_of_le hz1 ge3
          have Z3 : Below w.heap.size w w3 := B1.trans (hcur.mono B1.size)
          have HI3 := hide I3
          have HZ3 := hide Z3
          clear I3 Z3 I30 hb3 D1 U1 HU hc1 hf1 B1 hb1 hcur
          go_wp2
          refine bodyPost_ret (v := .tuple #[hv 4 0 0 s d ⟨#[]⟩ ⟨#[]⟩ (some ⟨g3, 0, none⟩) m cap3, .bool true]) (by simp [results, Try.results20, go_sem, hc3]) rfl ⟨Or.inr ⟨unhide HF, m1, m2, g3, cap3, rfl, ?_⟩, ?_⟩
          · iterate 8 refine Iw.setOther ?_ (by simp; omega)
            exact unhide HI3
          · iterate 8 refine Below.setCell ?_ (by simp) _
            exact unhide HZ3
set_option maxHeartbeats 1000000 in
theorem implVA_nil (f bi ve : Int) (d s t p : ByteArray) (ra rb : Option Addr) (n cap cap2 : Nat) (V U : Nat → Int) (w : World) (hd : d.size ≤ 1048576) (hs : s.size ≤ 1048576) (ht : t.size ≤ 1048576) (hp : p.size ≤ 1048576) (hn : n ≤ 1048576) (hR : Ia w ra n cap V) :
    Calls Try.prog 20 #[hv f bi ve d s t p ra n cap, .slice rb 0 cap2] w (Va (va f bi ve d.size s.size t.size p.size n V 0 U) d s 0 U w) := by
  have HG := hide (fun W (hr : Ia W ra n cap V) => implGood_any f bi ve d s t p ra n cap V W hd hs ht hp hn hr)
  have HF : Hid (va f bi ve d.size s.size t.size p.size n V 0 U = false) := decide_eq_false (fun z => by have := of_decide_eq_true z.2.2.1; omega)
  have HR := hide hR
  have A0 : Hid (∀ o1 o2, Below w.heap.size w ((w.alloc o1).alloc o2)) := fun o1 o2 => ((Below.refl _ _).alloc (Nat.le_refl _) _).alloc (by simp) _
  have HV := hide (fun W => goodVersions_any 1 rb 0 cap2 U W (Or.inl rfl) (by omega) (Or.inr rfl))
  rw [show gv 1 0 U = false from decide_eq_false (fun z => by omega)] at HV
  clear hR
  by_cases z : f = 0
  case neg =>
    have hz : (f != 0) = true := bne_iff_ne.2 z
    clear z
    go_enter Try.func20, Try.ntmps20
    go_wp2
    refine bodyPost_ret (v := .tuple #[h0, .bool false]) (by simp [results, Try.results20, go_sem]) rfl ⟨Or.inl ⟨unhide HF, rfl⟩, ?_⟩
    exact unhide A0 _ _
  subst z
  go_enter Try.func20, Try.ntmps20
  go_wp2_with fail
  refine (unhide HG _ ((unhide HR).below (((Below.refl _ _).alloc (Nat.le_refl _) _).alloc (by simp) _))).mono ?_
  rintro e w1 ⟨rfl, hb1⟩
  obtain ⟨hc1, hf1⟩ := bcell hb1
  have B1 : Below w.heap.size w w1 := (unhide A0 _ _).trans (hb1.mono (by simp; omega))
  have hz1 : w.heap.size + 1 < w1.heap.size := by have := hb1.size; simp at this; omega
  clear HG HR
  cases hg : gh 0 bi ve d.size s.size t.size p.size n V with
  | false =>
    clear hg
    go_wp2
    refine bodyPost_ret (v := .tuple #[h0, .bool false]) (by simp [results, Try.results20, go_sem, hc1]) rfl ⟨Or.inl ⟨unhide HF, rfl⟩, ?_⟩
    iterate 8 refine Below.setCell ?_ (by simp) _
    exact B1
  | true =>
    clear hg
    go_wp2_with (go_at_call 46; refine (unhide HV _).mono ?_; rintro e w' ⟨rfl, rfl⟩)
    refine bodyPost_ret (v := .tuple #[h0, .bool false]) (by simp [results, Try.results20, go_sem, hc1]) rfl ⟨Or.inl ⟨unhide HF, rfl⟩, ?_⟩
    iterate 8 refine Below.setCell ?_ (by simp) _
    exact B1
end Go.Proofs.Ytbabipaipbjlbaa
namespace Go.Proofs.Ytbabipaipbjlbaa
open Go.ChangeShapes Go.WideShapes Go.ChangeAt Go.RowKit
set_option linter.unusedVariables false
set_option maxRecDepth 100000

set_option maxHeartbeats 1000000 in
theorem sameInts_yes (b off n cap b' off' cap' : Nat) (V : Nat → Int) (w : World) (hn : n ≤ 1048576) (h : Ir w b off n V) (h' : Ir w b' off' n V) :
    Calls Try.prog 52 #[.slice (some ⟨b, off, none⟩) n cap, .slice (some ⟨b', off', none⟩) n cap'] w fun e w' => e = .returned (.bool true) ∧ Below w.heap.size w w' := by
  have HR := hide h
  have HR' := hide h'
  clear h h'
  go_enter Try.func52, Try.ntmps52
  go_wp2
  go_loopw [13] (fun i wr => ∃ k : Nat, k ≤ n ∧ i = .int .i64 k ∧ Below w.heap.size w wr) (fun i _ => n - (intOf i).toNat)
  case atStart => exact ⟨0, Nat.zero_le _, rfl, Below.refl _ _⟩
  case round =>
    obtain ⟨k, hk, rfl, hbel⟩ := hrel
    by_cases hlt : k < n
    · have hR := (unhide HR).below hbel
      have hcf := hR.cv k hlt
      have hR' := (unhide HR').below hbel
      have hcf' := hR'.cv k hlt
      have hnk : (k : Int) < (n : Int) := by omega
      have hk0 : (0 : Int) ≤ (k : Int) := by omega
      go_wp2_with fail
      go_quiet (fail)
      all_goals
        go_wp2
        exact ⟨⟨k + 1, by omega, by go_num, below_drewN hbel _⟩, by simp [intOf]; omega⟩
    · go_wp2
      go_ret
      exact ⟨rfl, hbel⟩
theorem sameInts_nil (a a' : Option Addr) (cap cap' : Nat) (w : World) :
    Calls Try.prog 52 #[.slice a 0 cap, .slice a' 0 cap'] w fun e w' => e = .returned (.bool true) ∧ Below w.heap.size w w' := by
  go_enter Try.func52, Try.ntmps52
  go_wp2
  go_loopw [13] (fun i wr => i = .int .i64 0 ∧ Below w.heap.size w wr) (fun i _ => 0)
  case atStart => exact ⟨rfl, Below.refl _ _⟩
  case round =>
    obtain ⟨rfl, hbel⟩ := hrel
    go_wp2
    go_ret
    exact ⟨rfl, hbel⟩
theorem sameInts_any (a a' : Option Addr) (n cap cap' : Nat) (V : Nat → Int) (w : World) (hn : n ≤ 1048576) (h : Ia w a n cap V) (h' : Ia w a' n cap' V) :
    Calls Try.prog 52 #[.slice a n cap, .slice a' n cap'] w fun e w' => e = .returned (.bool true) ∧ Below w.heap.size w w' := by
  rcases h with h0 | ⟨b, off, rfl, h⟩
  · subst h0
    exact sameInts_nil a a' cap cap' w
  · rcases h' with h0 | ⟨b', off', rfl, h'⟩
    · subst h0
      exact sameInts_nil _ a' cap cap' w
    · exact sameInts_yes b off n cap b' off' cap' V w hn h h'
set_option maxHeartbeats 1000000 in
theorem sameHd (f bi ve : Int) (d s t p : ByteArray) (ra ra' : Option Addr) (n cap cap' : Nat) (V : Nat → Int) (w : World) (hn : n ≤ 1048576) (h : Ia w ra n cap V) (h' : Ia w ra' n cap' V) :
    Calls Try.prog 22 #[hv f bi ve d s t p ra n cap, hv f bi ve d s t p ra' n cap'] w fun e w' => e = .returned (.bool true) ∧ Below w.heap.size w w' := by
  have HS := hide (fun (W : World) (b : Below w.heap.size w W) => sameInts_any ra ra' n cap cap' V W hn (h.below b) (h'.below b))
  clear h h'
  go_enter Try.func22, Try.ntmps22
  go_wp2_with fail
  refine (unhide HS _ (((Below.refl _ _).alloc (Nat.le_refl _) _).alloc (by simp) _)).mono ?_
  rintro e w2 ⟨rfl, b2⟩
  go_wp2
  go_ret
  exact ⟨rfl, (((Below.refl _ _).alloc (Nat.le_refl _) _).alloc (by simp) _).trans (b2.mono (by simp; omega))⟩
end Go.Proofs.Ytbabipaipbjlbaa
