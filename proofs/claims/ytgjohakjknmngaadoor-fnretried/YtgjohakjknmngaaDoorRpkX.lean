/-
  Contracts: RetryPacket of the model. Contracts: RetryPacket of both sides, where it is refused. Contracts: RetryPacket of the program.
-/
import Derived.Test.YtgjohakjknmngaaDoorL5uX
import Derived.Test.YtgjohakjknmngaaDoorNadX
import Derived.Test.YtgjohakjknmngaaDoorIntsX
import Derived.Test.YtgjohakjknmngaaDoorVrpX
import Derived.Deep.DeepCutAuto
import Derived.Deep.RegionLaw
import Derived.Test.YtgjohakjknmngaaDoorGhiX
namespace Go.Proofs.YtgjohakjknmngaaDoor
open Go.ChangeShapes Go.WideShapes Go.ChangeAt Go.RowKit
set_option linter.unusedVariables false
set_option maxRecDepth 100000

/-- the bytes of a packet that asks to come again, ahead of its tag -/
def PKW (ve : Int) (d s p : ByteArray) : ByteArray := ⟨(fx 240 1 1 ++ (AD ve d s ++ p.data.toList)).toArray⟩
theorem PKW_size (ve : Int) (d s p : ByteArray) : (PKW ve d s p).size = 7 + d.size + s.size + p.size := by
  have h : (PKW ve d s p).size = (fx 240 1 1 ++ (AD ve d s ++ p.data.toList)).length := by
    unfold PKW
    generalize fx 240 1 1 ++ (AD ve d s ++ p.data.toList) = L
    exact List.size_toArray
  rw [h, List.length_append, List.length_append, AD_length, str_len, fx_length]
  omega
theorem PKW_is (ve : Int) (d s p : ByteArray) : FX (240 + 0) 1 ++ FX ve 4 ++ (FX d.size 1 ++ d) ++ (FX s.size 1 ++ s) ++ p = PKW ve d s p := by
  have h : (FX (240 + 0) 1 ++ FX ve 4 ++ (FX d.size 1 ++ d) ++ (FX s.size 1 ++ s) ++ p).data.toList = fx 240 1 1 ++ (AD ve d s ++ p.data.toList) := by
    simp [AD, FX_list, List.append_assoc]
  unfold PKW
  rw [← h]
/-- the payload of a packet that asks to come again -/
def RPP (ve : Int) (d s sc tk : ByteArray) : ByteArray := tk ++ rtW d (PKW ve s sc tk)

set_option maxHeartbeats 2000000 in
theorem specRP_ok (bi ve : Int) (d s t p : ByteArray) (ra : Option Addr) (n cap : Nat) (V : Nat → Int) (tk sc : ByteArray) (w : World) (hR : Ia w ra n cap V) (hd : d.size ≤ 20) (hs : s.size ≤ 20) (ht : t.size ≤ 1048576) (hp : p.size ≤ 1048576) (hn : n ≤ 1048576) (h : gh 0 bi ve d.size s.size t.size p.size n V = true) (v0 : 0 ≤ ve) (v1 : ve ≤ 4294967295)
    (ht1 : 1 ≤ tk.size ∧ tk.size ≤ 200) (hsc : sc.size ≤ 20) :
    Calls Tryd.prog 6 #[hv 0 bi ve d s t p ra n cap, .string tk, .string sc] w fun e w' => e = .returned (.tuple #[hv 3 0 ve s sc ⟨#[]⟩ (RPP ve d s sc tk) none 0 0, .bool true]) ∧ Below w.heap.size w w' := by
  have HG := hide (fun W (hr : Ia W ra n cap V) => specGood_ra 0 bi ve d s t p ra n cap V W (by omega) (by omega) ht hp hn hr)
  rw [h] at HG
  have HI : Hid (∀ W, Calls Tryd.prog 18 #[.int .i64 tk.size, .int .i64 1, .int .i64 200] W fun e w' => e = .returned (.bool true) ∧ w' = W) := fun W => by
    have h9 := inB (tk.size : Int) 1 200 W
    rw [decide_eq_true (show (1 : Int) ≤ tk.size by omega), decide_eq_true (show (tk.size : Int) ≤ 200 by omega)] at h9
    exact h9
  have hpk := PKW_size ve s sc tk
  have HB : Hid (∀ W, Calls Tryd.prog 20 #[hv 3 0 ve s sc ⟨#[]⟩ tk none 0 0] W fun e w' => e = .returned (.string (PKW ve s sc tk)) ∧ Below W.heap.size W w') := fun W => by
    have h9 := l2Bytes_3 0 ve s sc ⟨#[]⟩ tk none 0 0 W hs hsc (by decide) (by omega) (by omega) (by omega) v0 v1
    rw [PKW_is] at h9
    exact h9
  have HT : Hid (∀ W, Calls Tryd.prog 19 #[.string d, .string (PKW ve s sc tk)] W fun e w' => e = .returned (.string (rtW d (PKW ve s sc tk))) ∧ Below W.heap.size W w') := fun W => specTag10 d (PKW ve s sc tk) hd (by omega) W
  have hrt := rtW_size d (PKW ve s sc tk)
  have ad := fun W : World => run_string_add_sum (P := Tryd.prog) (w := W) tk (rtW d (PKW ve s sc tk)) (by omega)
  have HE : Hid (tk ++ rtW d (PKW ve s sc tk) = RPP ve d s sc tk) := rfl
  rw [unhide HE] at ad
  generalize RPP ve d s sc tk = r at *
  generalize rtW d (PKW ve s sc tk) = g at *
  generalize PKW ve s sc tk = pk at *
  clear HE hrt hpk
  have HR := hide hR
  have h3 : ¬ (20 : Int) < (sc.size : Int) := by omega
  clear hR h
  go_enter Tryd.func6, Tryd.ntmps6
  go_wp2_with fail
  have A0 : Hid (∀ o1 o2, Below w.heap.size w ((w.alloc o1).alloc o2)) := fun o1 o2 => ((Below.refl _ _).alloc (Nat.le_refl _) _).alloc (by simp) _
  refine (unhide HG _ ((unhide HR).below (unhide A0 _ _))).mono ?_
  rintro e w1 ⟨rfl, hb1⟩
  have hz1 : w.heap.size + 1 < w1.heap.size := by have := hb1.size; simp at this; omega
  obtain ⟨hc1, hf1⟩ := bcell hb1
  have B1 : Hid (Below w.heap.size w w1) := (unhide A0 _ _).trans (hb1.mono (by simp; omega))
  have D1 := hide hb1
  clear hb1
  go_wp2_with fail
  refine (unhide HI _).mono ?_
  rintro e w2 ⟨rfl, h9⟩
  rw [h9]
  clear h9 w2
  go_upto_region 4 with fail
  have q0 : w.heap.size < w1.heap.size + 1 := by omega
  have q1 : w.heap.size + 1 < w1.heap.size + 1 := by omega
  have B2 := hide ((unhide B1).alloc (unhide B1).size (.cells #[.int .i64 3, .int .i64 0, .int .i64 ve, .string s, .string sc, .string ⟨#[]⟩, .string tk, .slice none 0 0] 25))
  have D2 := hide ((unhide D1).alloc (unhide D1).size (.cells #[.int .i64 3, .int .i64 0, .int .i64 ve, .string s, .string sc, .string ⟨#[]⟩, .string tk, .slice none 0 0] 25))
  have hzW : (w1.alloc (.cells #[.int .i64 3, .int .i64 0, .int .i64 ve, .string s, .string sc, .string ⟨#[]⟩, .string tk, .slice none 0 0] 25)).heap.size = w1.heap.size + 1 := by simp
  have oc : ∀ o, (w1.alloc (.cells #[.int .i64 3, .int .i64 0, .int .i64 ve, .string s, .string sc, .string ⟨#[]⟩, .string tk, .slice none 0 0] 25)).cell? ⟨w1.heap.size, o, none⟩ = (#[.int .i64 3, .int .i64 0, .int .i64 ve, .string s, .string sc, .string ⟨#[]⟩, .string tk, .slice none 0 0] : Array Value)[o]? := fun o => by simp
  have of : ∀ o, (w1.alloc (.cells #[.int .i64 3, .int .i64 0, .int .i64 ve, .string s, .string sc, .string ⟨#[]⟩, .string tk, .slice none 0 0] 25)).frozen? ⟨w1.heap.size, o, none⟩ = false := fun o => by simp
  generalize w1.alloc (.cells #[.int .i64 3, .int .i64 0, .int .i64 ve, .string s, .string sc, .string ⟨#[]⟩, .string tk, .slice none 0 0] 25) = W2 at *
  generalize w1.heap.size = ob at *
  obtain ⟨hc2, hf2⟩ := bcell (unhide D2)
  have pc : ∀ o, W2.cell? ⟨w.heap.size, o, none⟩ = _ := fun o => hc2 w.heap.size o (by simp; omega)
  have rc : ∀ o, W2.cell? ⟨w.heap.size + 1, o, none⟩ = _ := fun o => hc2 (w.heap.size + 1) o (by simp)
  have rf : ∀ o, W2.frozen? ⟨w.heap.size + 1, o, none⟩ = _ := fun o => hf2 (w.heap.size + 1) o (by simp)
  have q2 : ob < ob + 1 := by omega
  clear hc1 hf1 hc2 hf2 D1 B1 A0
  go_region_law (first
    | (go_simp; go_at_call 20; with_reducible refine (unhide HB _).mono ?_; rintro e w5 ⟨rfl, b5⟩; obtain ⟨hc5, hf5⟩ := bcell b5)
    | (go_simp; go_at_call 19; with_reducible refine (unhide HT _).mono ?_; rintro e w6 ⟨rfl, b6⟩; obtain ⟨hc6, hf6⟩ := bcell (b5.trans (b6.mono b5.size))))
  all_goals
    have B6 : Hid (Below w.heap.size w w6) := (unhide B2).drew.trans ((b5.trans (b6.mono b5.size)).mono (by have := (unhide B2).size; rw [World.size_drew]; exact this))
    clear b5 b6 hc5 hf5
    go_wp2
    refine bodyPost_ret (v := .tuple #[hv 3 0 ve s sc ⟨#[]⟩ r none 0 0, .bool true]) (by simp [results, Tryd.results6, go_sem, hc6, hzW, rc, q1]) rfl ⟨rfl, ?_⟩
    iterate 9 refine Below.setCell ?_ (by simp; try omega) _
    exact unhide B6
end Go.Proofs.YtgjohakjknmngaaDoor
namespace Go.Proofs.YtgjohakjknmngaaDoor
open Go.ChangeShapes Go.WideShapes Go.ChangeAt Go.RowKit
set_option linter.unusedVariables false
set_option maxRecDepth 100000

/-- the header of noughts -/
abbrev hv0 : Value := hv 0 0 0 ⟨#[]⟩ ⟨#[]⟩ ⟨#[]⟩ ⟨#[]⟩ none 0 0
/-- what RetryPacket takes -/
def rpB (g : Bool) (f : Int) (tk sc : Nat) : Prop := g = true ∧ f = 0 ∧ (1 ≤ tk ∧ tk ≤ 200) ∧ sc ≤ 20
set_option maxHeartbeats 2000000 in
theorem specRP_no (f bi ve : Int) (d s t p : ByteArray) (ra : Option Addr) (n cap : Nat) (V : Nat → Int) (tk sc : ByteArray) (w : World) (hR : Ia w ra n cap V) (hd : d.size ≤ 1048576) (hs : s.size ≤ 1048576) (ht : t.size ≤ 1048576) (hp : p.size ≤ 1048576) (hn : n ≤ 1048576) (htk : tk.size ≤ 1048576) (hsc : sc.size ≤ 1048576)
    (h : ¬ rpB (gh f bi ve d.size s.size t.size p.size n V) f tk.size sc.size) :
    Calls Tryd.prog 6 #[hv f bi ve d s t p ra n cap, .string tk, .string sc] w fun e w' => e = .returned (.tuple #[hv0, .bool false]) ∧ Below w.heap.size w w' := by
  have HG := hide (fun W (hr : Ia W ra n cap V) => specGood_ra f bi ve d s t p ra n cap V W hd hs ht hp hn hr)
  have HR := hide hR
  have A0 : Hid (∀ o1 o2, Below w.heap.size w ((w.alloc o1).alloc o2)) := fun o1 o2 => ((Below.refl _ _).alloc (Nat.le_refl _) _).alloc (by simp) _
  clear hR hd hs ht hp
  cases hg : gh f bi ve d.size s.size t.size p.size n V with
  | false =>
    rw [hg] at HG
    clear hg h
    go_enter Tryd.func6, Tryd.ntmps6
    go_wp2_with fail
    refine (unhide HG _ ((unhide HR).below (unhide A0 _ _))).mono ?_
    rintro e w1 ⟨rfl, hb1⟩
    obtain ⟨hc1, hf1⟩ := bcell hb1
    have B1 : Hid (Below w.heap.size w w1) := (unhide A0 _ _).trans (hb1.mono (by simp; omega))
    clear hb1
    go_wp2
    refine bodyPost_ret (v := .tuple #[hv0, .bool false]) (by simp [results, Tryd.results6, go_sem, hc1]) rfl ⟨rfl, ?_⟩
    iterate 8 refine Below.setCell ?_ (by simp) _
    exact unhide B1
  | true =>
    rw [hg] at HG h
    clear hg
    by_cases z : f = 0
    case neg =>
      have hz : (f != 0) = true := bne_iff_ne.2 z
      clear z h
      go_enter Tryd.func6, Tryd.ntmps6
      go_wp2_with fail
      refine (unhide HG _ ((unhide HR).below (unhide A0 _ _))).mono ?_
      rintro e w1 ⟨rfl, hb1⟩
      obtain ⟨hc1, hf1⟩ := bcell hb1
      have B1 : Hid (Below w.heap.size w w1) := (unhide A0 _ _).trans (hb1.mono (by simp; omega))
      clear hb1
      go_wp2
      refine bodyPost_ret (v := .tuple #[hv0, .bool false]) (by simp [results, Tryd.results6, go_sem, hc1]) rfl ⟨rfl, ?_⟩
      iterate 8 refine Below.setCell ?_ (by simp) _
      exact unhide B1
    subst z
    have HI := hide (inB (tk.size : Int) 1 200)
    by_cases y : 1 ≤ tk.size ∧ tk.size ≤ 200
    case neg =>
      rw [show (decide ((1 : Int) ≤ tk.size) && decide ((tk.size : Int) ≤ 200)) = false by rw [← Bool.decide_and]; exact decide_eq_false (by omega)] at HI
      clear y h
      go_enter Tryd.func6, Tryd.ntmps6
      go_wp2_with fail
      refine (unhide HG _ ((unhide HR).below (unhide A0 _ _))).mono ?_
      rintro e w1 ⟨rfl, hb1⟩
      obtain ⟨hc1, hf1⟩ := bcell hb1
      have B1 : Hid (Below w.heap.size w w1) := (unhide A0 _ _).trans (hb1.mono (by simp; omega))
      clear hb1
      go_wp2_with fail
      refine (unhide HI _).mono ?_
      rintro e w2 ⟨rfl, h9⟩
      rw [h9]
      clear h9 w2
      go_wp2
      refine bodyPost_ret (v := .tuple #[hv0, .bool false]) (by simp [results, Tryd.results6, go_sem, hc1]) rfl ⟨rfl, ?_⟩
      iterate 8 refine Below.setCell ?_ (by simp) _
      exact unhide B1
    rw [show (decide ((1 : Int) ≤ tk.size) && decide ((tk.size : Int) ≤ 200)) = true by rw [← Bool.decide_and]; exact decide_eq_true (by omega)] at HI
    have h3 : (20 : Int) < (sc.size : Int) := by
      have : ¬ sc.size ≤ 20 := fun x => h ⟨rfl, rfl, y, x⟩
      omega
    clear y h
    go_enter Tryd.func6, Tryd.ntmps6
    go_wp2_with fail
    refine (unhide HG _ ((unhide HR).below (unhide A0 _ _))).mono ?_
    rintro e w1 ⟨rfl, hb1⟩
    obtain ⟨hc1, hf1⟩ := bcell hb1
    have B1 : Hid (Below w.heap.size w w1) := (unhide A0 _ _).trans (hb1.mono (by simp; omega))
    clear hb1
    go_wp2_with fail
    refine (unhide HI _).mono ?_
    rintro e w2 ⟨rfl, h9⟩
    rw [h9]
    clear h9 w2
    go_wp2
    refine bodyPost_ret (v := .tuple #[hv0, .bool false]) (by simp [results, Tryd.results6, go_sem, hc1]) rfl ⟨rfl, ?_⟩
    iterate 8 refine Below.setCell ?_ (by simp) _
    exact unhide B1
theorem no_text (s : ByteArray) : s.toList = [] ↔ s.size = 0 := by
  have h : s.toList.length = s.size := by rw [Lib.toList_data, Array.length_toList]; rfl
  constructor
  · intro e; rw [e] at h; simpa using h.symm
  · intro e; rw [e] at h; exact List.length_eq_zero_iff.1 h
set_option maxHeartbeats 2000000 in
theorem implRP_no (f bi ve : Int) (d s t p : ByteArray) (ra : Option Addr) (n cap : Nat) (V : Nat → Int) (tk sc : ByteArray) (w : World) (hR : Ia w ra n cap V) (hd : d.size ≤ 1048576) (hs : s.size ≤ 1048576) (ht : t.size ≤ 1048576) (hp : p.size ≤ 1048576) (hn : n ≤ 1048576) (htk : tk.size ≤ 1048576) (hsc : sc.size ≤ 1048576)
    (h : ¬ rpB (gh f bi ve d.size s.size t.size p.size n V) f tk.size sc.size) :
    Calls Tryd.prog 5 #[hv f bi ve d s t p ra n cap, .string tk, .string sc] w fun e w' => e = .returned (.tuple #[hv0, .bool false]) ∧ Below w.heap.size w w' := by
  have HG := hide (fun W (hr : Ia W ra n cap V) => implGood_any f bi ve d s t p ra n cap V W hd hs ht hp hn hr)
  have HR := hide hR
  have A0 : Hid (∀ o1 o2, Below w.heap.size w ((w.alloc o1).alloc o2)) := fun o1 o2 => ((Below.refl _ _).alloc (Nat.le_refl _) _).alloc (by simp) _
  clear hR hd hs ht hp
  by_cases z : f = 0
  case neg =>
    have hz : (f != 0) = true := bne_iff_ne.2 z
    clear z h
    go_enter Tryd.func5, Tryd.ntmps5
    go_wp2
    refine bodyPost_ret (v := .tuple #[hv0, .bool false]) (by simp [results, Tryd.results5, go_sem]) rfl ⟨rfl, ?_⟩
    exact unhide A0 _ _
  subst z
  cases hg : gh 0 bi ve d.size s.size t.size p.size n V with
  | false =>
    rw [hg] at HG
    clear hg h
    go_enter Tryd.func5, Tryd.ntmps5
    go_wp2_with fail
    refine (unhide HG _ ((unhide HR).below (unhide A0 _ _))).mono ?_
    rintro e w1 ⟨rfl, hb1⟩
    obtain ⟨hc1, hf1⟩ := bcell hb1
    have B1 : Hid (Below w.heap.size w w1) := (unhide A0 _ _).trans (hb1.mono (by simp; omega))
    clear hb1
    go_wp2
    refine bodyPost_ret (v := .tuple #[hv0, .bool false]) (by simp [results, Tryd.results5, go_sem, hc1]) rfl ⟨rfl, ?_⟩
    iterate 8 refine Below.setCell ?_ (by simp) _
    exact unhide B1
  | true =>
    rw [hg] at HG h
    clear hg
    by_cases y0 : tk.toList = []
    · clear h
      go_enter Tryd.func5, Tryd.ntmps5
      go_wp2_with fail
      refine (unhide HG _ ((unhide HR).below (unhide A0 _ _))).mono ?_
      rintro e w1 ⟨rfl, hb1⟩
      obtain ⟨hc1, hf1⟩ := bcell hb1
      have B1 : Hid (Below w.heap.size w w1) := (unhide A0 _ _).trans (hb1.mono (by simp; omega))
      clear hb1
      go_wp2
      refine bodyPost_ret (v := .tuple #[hv0, .bool false]) (by simp [results, Tryd.results5, go_sem, hc1]) rfl ⟨rfl, ?_⟩
      iterate 8 refine Below.setCell ?_ (by simp) _
      exact unhide B1
    have hE := hide (List.isEmpty_eq_false_iff.2 y0)
    have y1 : ¬ tk.size = 0 := fun e => y0 ((no_text tk).2 e)
    have HW := hide (within_one tk 200 (by omega) htk)
    by_cases y : tk.size ≤ 200
    case neg =>
      rw [decide_eq_false y] at HW
      clear y h y1
      go_enter Tryd.func5, Tryd.ntmps5
      go_wp2_with fail
      refine (unhide HG _ ((unhide HR).below (unhide A0 _ _))).mono ?_
      rintro e w1 ⟨rfl, hb1⟩
      have hz1 : w.heap.size + 1 < w1.heap.size := by have := hb1.size; simp at this; omega
      obtain ⟨hc1, hf1⟩ := bcell (hb1.alloc hb1.size (.cells #[.string tk] 9))
      have B1 : Hid (Below w.heap.size w w1) := (unhide A0 _ _).trans (hb1.mono (by simp; omega))
      clear hb1
      go_wp2_with fail
      refine (unhide HW _ _ _ (by simp)).mono ?_
      rintro e w2 ⟨rfl, h9⟩
      rw [h9]
      clear h9 w2
      have B2 := hide ((unhide B1).alloc (unhide B1).size (.cells #[.string tk] 9))
      generalize w1.alloc (.cells #[.string tk] 9) = w2 at *
      go_wp2
      refine bodyPost_ret (v := .tuple #[hv0, .bool false]) (by simp [results, Tryd.results5, go_sem, hc1]) rfl ⟨rfl, ?_⟩
      iterate 8 refine Below.setCell ?_ (by simp) _
      exact unhide B2
    rw [decide_eq_true y] at HW
    have HV := hide (within_one sc 20 (by omega) hsc)
    rw [decide_eq_false (fun x => h ⟨rfl, rfl, ⟨by omega, y⟩, x⟩)] at HV
    clear y h y1
    go_enter Tryd.func5, Tryd.ntmps5
    go_wp2_with fail
    refine (unhide HG _ ((unhide HR).below (unhide A0 _ _))).mono ?_
    rintro e w1 ⟨rfl, hb1⟩
    have hz1 : w.heap.size + 1 < w1.heap.size := by have := hb1.size; simp at this; omega
    obtain ⟨hc1, hf1⟩ := bcell ((hb1.alloc hb1.size (.cells #[.string tk] 9)).alloc (by have := hb1.size; simp at this ⊢; omega) (.cells #[.string sc] 9))
    have B1 : Hid (Below w.heap.size w w1) := (unhide A0 _ _).trans (hb1.mono (by simp; omega))
    clear hb1
    go_wp2_with fail
    refine (unhide HW _ _ _ (by simp)).mono ?_
    rintro e w2 ⟨rfl, h9⟩
    rw [h9]
    clear h9 w2
    go_wp2_with fail
    refine (unhide HV _ _ _ (by simp)).mono ?_
    rintro e w2 ⟨rfl, h9⟩
    rw [h9]
    clear h9 w2
    have B2 := hide (((unhide B1).alloc (unhide B1).size (.cells #[.string tk] 9)).alloc (by have := (unhide B1).size; simp; omega) (.cells #[.string sc] 9))
    generalize (w1.alloc (.cells #[.string tk] 9)).alloc (.cells #[.string sc] 9) = w2 at *
    go_wp2
    refine bodyPost_ret (v := .tuple #[hv0, .bool false]) (by simp [results, Tryd.results5, go_sem, hc1]) rfl ⟨rfl, ?_⟩
    iterate 8 refine Below.setCell ?_ (by simp) _
    exact unhide B2
end Go.Proofs.YtgjohakjknmngaaDoor
namespace Go.Proofs.YtgjohakjknmngaaDoor
open Go.ChangeShapes Go.WideShapes Go.ChangeAt Go.RowKit
set_option linter.unusedVariables false
set_option maxRecDepth 100000

/-- block g holds a header of noughts -/
structure Zb (W : World) (g : Nat) : Prop where
  lt : g < W.heap.size
  cv : ∀ o, W.cell? ⟨g, o, none⟩ = (#[.int .i64 0, .int .i64 0, .int .i64 0, .string ⟨#[]⟩, .string ⟨#[]⟩, .string ⟨#[]⟩, .string ⟨#[]⟩, .slice none 0 0] : Array Value)[o]?
  fz : ∀ o, W.frozen? ⟨g, o, none⟩ = false
theorem Zb.keep {X W : World} {g : Nat} (h : Zb X g) (b : Below X.heap.size X W) : Zb W g :=
  ⟨Nat.lt_of_lt_of_le h.lt b.size, fun o => ((bcell b).1 g o h.lt).trans (h.cv o), fun o => ((bcell b).2 g o h.lt).trans (h.fz o)⟩
theorem Zb.new (X : World) (ty : TypeId) : Zb (X.alloc (.cells (#[.int .i64 0, .int .i64 0, .int .i64 0, .string ⟨#[]⟩, .string ⟨#[]⟩, .string ⟨#[]⟩, .string ⟨#[]⟩, .slice none 0 0] : Array Value) ty)) X.heap.size := ⟨by simp, fun o => by simp, fun o => by simp⟩
theorem Zb.of {X W : World} {ty : TypeId} (b : Below (X.alloc (.cells (#[.int .i64 0, .int .i64 0, .int .i64 0, .string ⟨#[]⟩, .string ⟨#[]⟩, .string ⟨#[]⟩, .string ⟨#[]⟩, .slice none 0 0] : Array Value) ty)).heap.size (X.alloc (.cells (#[.int .i64 0, .int .i64 0, .int .i64 0, .string ⟨#[]⟩, .string ⟨#[]⟩, .string ⟨#[]⟩, .string ⟨#[]⟩, .slice none 0 0] : Array Value) ty)) W) : Zb W X.heap.size := (Zb.new X ty).keep b
theorem Zb.ofDrew {X W : World} {ty : TypeId} (b : Below (X.alloc (.cells (#[.int .i64 0, .int .i64 0, .int .i64 0, .string ⟨#[]⟩, .string ⟨#[]⟩, .string ⟨#[]⟩, .string ⟨#[]⟩, .slice none 0 0] : Array Value) ty)).drew.heap.size (X.alloc (.cells (#[.int .i64 0, .int .i64 0, .int .i64 0, .string ⟨#[]⟩, .string ⟨#[]⟩, .string ⟨#[]⟩, .string ⟨#[]⟩, .slice none 0 0] : Array Value) ty)).drew W) : Zb W X.heap.size :=
  Zb.keep (X := (X.alloc (.cells (#[.int .i64 0, .int .i64 0, .int .i64 0, .string ⟨#[]⟩, .string ⟨#[]⟩, .string ⟨#[]⟩, .string ⟨#[]⟩, .slice none 0 0] : Array Value) ty)).drew) ⟨(Zb.new X ty).lt, (Zb.new X ty).cv, (Zb.new X ty).fz⟩ b

theorem below8 {n g : Nat} {w W : World} (h : Below n w W) (hg : n ≤ g) (u0 u1 u2 u3 u4 u5 u6 u7 : Value) : Below n w ((((((((W.setCell ⟨g, 0, none⟩ u0).setCell ⟨g, 1, none⟩ u1).setCell ⟨g, 2, none⟩ u2).setCell ⟨g, 3, none⟩ u3).setCell ⟨g, 4, none⟩ u4).setCell ⟨g, 5, none⟩ u5).setCell ⟨g, 6, none⟩ u6).setCell ⟨g, 7, none⟩ u7) := by
  iterate 8 refine Below.setCell ?_ hg _
  exact h
theorem Zb.put {W : World} {g : Nat} (h : Zb W g) (u0 u1 u2 u3 u4 u5 u6 u7 : Value) : g < ((((((((W.setCell ⟨g, 0, none⟩ u0).setCell ⟨g, 1, none⟩ u1).setCell ⟨g, 2, none⟩ u2).setCell ⟨g, 3, none⟩ u3).setCell ⟨g, 4, none⟩ u4).setCell ⟨g, 5, none⟩ u5).setCell ⟨g, 6, none⟩ u6).setCell ⟨g, 7, none⟩ u7).heap.size ∧ (((((((((W.setCell ⟨g, 0, none⟩ u0).setCell ⟨g, 1, none⟩ u1).setCell ⟨g, 2, none⟩ u2).setCell ⟨g, 3, none⟩ u3).setCell ⟨g, 4, none⟩ u4).setCell ⟨g, 5, none⟩ u5).setCell ⟨g, 6, none⟩ u6).setCell ⟨g, 7, none⟩ u7).cell? ⟨g, 0, none⟩ = some u0 ∧ ((((((((W.setCell ⟨g, 0, none⟩ u0).setCell ⟨g, 1, none⟩ u1).setCell ⟨g, 2, none⟩ u2).setCell ⟨g, 3, none⟩ u3).setCell ⟨g, 4, none⟩ u4).setCell ⟨g, 5, none⟩ u5).setCell ⟨g, 6, none⟩ u6).setCell ⟨g, 7, none⟩ u7).cell? ⟨g, 1, none⟩ = some u1 ∧ ((((((((W.setCell ⟨g, 0, none⟩ u0).setCell ⟨g, 1, none⟩ u1).setCell ⟨g, 2, none⟩ u2).setCell ⟨g, 3, none⟩ u3).setCell ⟨g, 4, none⟩ u4).setCell ⟨g, 5, none⟩ u5).setCell ⟨g, 6, none⟩ u6).setCell ⟨g, 7, none⟩ u7).cell? ⟨g, 2, none⟩ = some u2 ∧ ((((((((W.setCell ⟨g, 0, none⟩ u0).setCell ⟨g, 1, none⟩ u1).setCell ⟨g, 2, none⟩ u2).setCell ⟨g, 3, none⟩ u3).setCell ⟨g, 4, none⟩ u4).setCell ⟨g, 5, none⟩ u5).setCell ⟨g, 6, none⟩ u6).setCell ⟨g, 7, none⟩ u7).cell? ⟨g, 3, none⟩ = some u3 ∧ ((((((((W.setCell ⟨g, 0, none⟩ u0).setCell ⟨g, 1, none⟩ u1).setCell ⟨g, 2, none⟩ u2).setCell ⟨g, 3, none⟩ u3).setCell ⟨g, 4, none⟩ u4).setCell ⟨g, 5, none⟩ u5).setCell ⟨g, 6, none⟩ u6).setCell ⟨g, 7, none⟩ u7).cell? ⟨g, 4, none⟩ = some u4 ∧ ((((((((W.setCell ⟨g, 0, none⟩ u0).setCell ⟨g, 1, none⟩ u1).setCell ⟨g, 2, none⟩ u2).setCell ⟨g, 3, none⟩ u3).setCell ⟨g, 4, none⟩ u4).setCell ⟨g, 5, none⟩ u5).setCell ⟨g, 6, none⟩ u6).setCell ⟨g, 7, none⟩ u7).cell? ⟨g, 5, none⟩ = some u5 ∧ ((((((((W.setCell ⟨g, 0, none⟩ u0).setCell ⟨g, 1, none⟩ u1).setCell ⟨g, 2, none⟩ u2).setCell ⟨g, 3, none⟩ u3).setCell ⟨g, 4, none⟩ u4).setCell ⟨g, 5, none⟩ u5).setCell ⟨g, 6, none⟩ u6).setCell ⟨g, 7, none⟩ u7).cell? ⟨g, 6, none⟩ = some u6 ∧ ((((((((W.setCell ⟨g, 0, none⟩ u0).setCell ⟨g, 1, none⟩ u1).setCell ⟨g, 2, none⟩ u2).setCell ⟨g, 3, none⟩ u3).setCell ⟨g, 4, none⟩ u4).setCell ⟨g, 5, none⟩ u5).setCell ⟨g, 6, none⟩ u6).setCell ⟨g, 7, none⟩ u7).cell? ⟨g, 7, none⟩ = some u7) ∧ (∀ o, ((((((((W.setCell ⟨g, 0, none⟩ u0).setCell ⟨g, 1, none⟩ u1).setCell ⟨g, 2, none⟩ u2).setCell ⟨g, 3, none⟩ u3).setCell ⟨g, 4, none⟩ u4).setCell ⟨g, 5, none⟩ u5).setCell ⟨g, 6, none⟩ u6).setCell ⟨g, 7, none⟩ u7).frozen? ⟨g, o, none⟩ = false) := by
  have cv := h.cv
  have fz := h.fz
  have lt := h.lt
  exact ⟨by simpa using lt, ⟨by simp [go_sem, cv], by simp [go_sem, cv], by simp [go_sem, cv], by simp [go_sem, cv], by simp [go_sem, cv], by simp [go_sem, cv], by simp [go_sem, cv], by simp [go_sem, cv]⟩, fun o => by simp [fz]⟩
theorem new8 (W : World) (ty : TypeId) (u0 u1 u2 u3 u4 u5 u6 u7 : Value) : W.heap.size < (W.alloc (.cells #[u0, u1, u2, u3, u4, u5, u6, u7] ty)).heap.size ∧ ((W.alloc (.cells #[u0, u1, u2, u3, u4, u5, u6, u7] ty)).cell? ⟨W.heap.size, 0, none⟩ = some u0 ∧ (W.alloc (.cells #[u0, u1, u2, u3, u4, u5, u6, u7] ty)).cell? ⟨W.heap.size, 1, none⟩ = some u1 ∧ (W.alloc (.cells #[u0, u1, u2, u3, u4, u5, u6, u7] ty)).cell? ⟨W.heap.size, 2, none⟩ = some u2 ∧ (W.alloc (.cells #[u0, u1, u2, u3, u4, u5, u6, u7] ty)).cell? ⟨W.heap.size, 3, none⟩ = some u3 ∧ (W.alloc (.cells #[u0, u1, u2, u3, u4, u5, u6, u7] ty)).cell? ⟨W.heap.size, 4, none⟩ = some u4 ∧ (W.alloc (.cells #[u0, u1, u2, u3, u4, u5, u6, u7] ty)).cell? ⟨W.heap.size, 5, none⟩ = some u5 ∧ (W.alloc (.cells #[u0, u1, u2, u3, u4, u5, u6, u7] ty)).cell? ⟨W.heap.size, 6, none⟩ = some u6 ∧ (W.alloc (.cells #[u0, u1, u2, u3, u4, u5, u6, u7] ty)).cell? ⟨W.heap.size, 7, none⟩ = some u7) ∧ (∀ o, (W.alloc (.cells #[u0, u1, u2, u3, u4, u5, u6, u7] ty)).frozen? ⟨W.heap.size, o, none⟩ = false) :=
  ⟨by simp, ⟨by simp, by simp, by simp, by simp, by simp, by simp, by simp, by simp⟩, fun o => by simp⟩

set_option maxHeartbeats 1000000 in
theorem implRP_ok (bi ve : Int) (d s t p : ByteArray) (ra : Option Addr) (n cap : Nat) (V : Nat → Int) (tk sc : ByteArray) (w : World) (htz : Tz w) (hR : Ia w ra n cap V) (hd : d.size ≤ 20) (hs : s.size ≤ 20) (ht : t.size ≤ 1048576) (hp : p.size ≤ 1048576) (hn : n ≤ 1048576) (h : gh 0 bi ve d.size s.size t.size p.size n V = true) (v0 : okW 1 ve = true) (v1 : 0 ≤ ve ∧ ve ≤ 4294967295)
    (ht1 : 1 ≤ tk.size ∧ tk.size ≤ 200) (hsc : sc.size ≤ 20) :
    Calls Tryd.prog 5 #[hv 0 bi ve d s t p ra n cap, .string tk, .string sc] w fun e w' => e = .returned (.tuple #[hv 3 0 ve s sc ⟨#[]⟩ (RPP ve d s sc tk) none 0 0, .bool true]) ∧ Below w.heap.size w w' := by
  have HG := hide (fun W (hr : Ia W ra n cap V) => implGood_any 0 bi ve d s t p ra n cap V W (by omega) (by omega) ht hp hn hr)
  rw [h] at HG
  have HW := hide (within_one tk 200 (by omega) (by omega))
  rw [decide_eq_true ht1.2] at HW
  have HV := hide (within_one sc 20 (by omega) (by omega))
  rw [decide_eq_true hsc] at HV
  have y0 : ¬ tk.toList = [] := fun e => by have := (no_text tk).1 e; omega
  have hE := List.isEmpty_eq_false_iff.2 y0
  have hpk := PKW_size ve s sc tk
  have hg3 : gh 3 0 ve s.size sc.size 0 tk.size 0 (fun _ => 0) = true := by
    unfold gh
    refine decide_eq_true ⟨hs, hsc, by omega, by omega, ?_⟩
    rw [gpB_3]
    exact decide_eq_true ⟨by omega, v0, rfl, by omega, rfl⟩
  have HB : Hid (∀ W, Tz W → Calls Tryd.prog 8 #[hv 3 0 ve s sc ⟨#[]⟩ tk none 0 0] W fun e w' => e = .returned (.tuple #[.string (PKW ve s sc tk), .bool true]) ∧ Below W.heap.size W w') := fun W hz => implHB_3 0 ve s sc ⟨#[]⟩ tk none 0 0 (fun _ => 0) W hz (Or.inl rfl) hg3 (by omega) (by omega) hs hsc (by decide) (by omega) v1.1 v1.2 (by omega) (fun i hi => by omega)
  have HT : Hid (∀ W, Calls Tryd.prog 9 #[.string d, .string (PKW ve s sc tk)] W fun e w' => e = .returned (.tuple #[.string (rtW d (PKW ve s sc tk)), .bool true]) ∧ Below W.heap.size W w') := fun W => implRT_ok d (PKW ve s sc tk) hd (by omega) W
  have hrt := rtW_size d (PKW ve s sc tk)
  have ad := fun W : World => run_string_add_sum (P := Tryd.prog) (w := W) tk (rtW d (PKW ve s sc tk)) (by omega)
  have HE : Hid (tk ++ rtW d (PKW ve s sc tk) = RPP ve d s sc tk) := rfl
  rw [unhide HE] at ad
  generalize RPP ve d s sc tk = r at *
  generalize rtW d (PKW ve s sc tk) = g at *
  generalize PKW ve s sc tk = pk at *
  clear HE hrt hpk hg3
  have HC : Hid (∀ x : ByteArray, x.size ≤ 20 → ∀ W, Calls Tryd.prog 16 #[.string x] W fun e w' => e = .returned (.string x) ∧ Below W.heap.size W w') := fun x hx W => clone_text x W (by omega)
  have HR := hide hR
  have TZ := hide htz
  have A0 : Hid (∀ o1 o2, Below w.heap.size w ((w.alloc o1).alloc o2)) := fun o1 o2 => ((Below.refl _ _).alloc (Nat.le_refl _) _).alloc (by simp) _
  clear hR htz h v0 v1
  go_enter Tryd.func5, Tryd.ntmps5
  go_wp2_with fail
  refine (unhide HG _ ((unhide HR).below (unhide A0 _ _))).mono ?_
  rintro e w1 ⟨rfl, hb1⟩
  have hz1 : w.heap.size + 1 < w1.heap.size := by have := hb1.size; simp at this; omega
  have D2 := hide ((hb1.alloc hb1.size (.cells #[.string tk] 9)).alloc (by have := hb1.size; simp at this ⊢; omega) (.cells #[.string sc] 9))
  have B1 : Hid (Below w.heap.size w w1) := (unhide A0 _ _).trans (hb1.mono (by simp; omega))
  obtain ⟨hc1, hf1⟩ := bcell hb1
  clear hb1
  go_wp2_with fail
  refine (unhide HW _ _ _ (by simp)).mono ?_
  rintro e w2 ⟨rfl, h9⟩
  rw [h9]
  clear h9 w2
  go_wp2_with fail
  refine (unhide HV _ _ _ (by simp)).mono ?_
  rintro e w2 ⟨rfl, h9⟩
  rw [h9]
  clear h9 w2
  have B2 := hide (((unhide B1).alloc (unhide B1).size (.cells #[.string tk] 9)).alloc (by have := (unhide B1).size; simp; omega) (.cells #[.string sc] 9))
  have hzW : ((w1.alloc (.cells #[.string tk] 9)).alloc (.cells #[.string sc] 9)).heap.size = w1.heap.size + 1 + 1 := by simp
  generalize (w1.alloc (.cells #[.string tk] 9)).alloc (.cells #[.string sc] 9) = w2 at *
  clear hc1 hf1 B1
  obtain ⟨hc2, hf2⟩ := bcell (unhide D2)
  have pc : ∀ o, w2.cell? ⟨w.heap.size, o, none⟩ = _ := fun o => hc2 w.heap.size o (by simp; omega)
  clear hc2 hf2
  have hz2 : w.heap.size + 1 < w2.heap.size := by omega
  clear hzW hz1
  go_upto_region 5 with fail
  have hcur : Below w2.heap.size w2 w2.drew := (Below.refl _ _).drew
  go_cut [8] (fun s8 wx => ∃ ob, s8 = .pointer (some ⟨ob, 0, none⟩) ∧ w.heap.size + 1 < ob ∧ ob < wx.heap.size ∧ (wx.cell? ⟨ob, 0, none⟩ = some (.int .i64 3) ∧ wx.cell? ⟨ob, 1, none⟩ = some (.int .i64 0) ∧ wx.cell? ⟨ob, 2, none⟩ = some (.int .i64 ve) ∧ wx.cell? ⟨ob, 3, none⟩ = some (.string s) ∧ wx.cell? ⟨ob, 4, none⟩ = some (.string sc) ∧ wx.cell? ⟨ob, 5, none⟩ = some (.string ⟨#[]⟩) ∧ wx.cell? ⟨ob, 6, none⟩ = some (.string tk) ∧ wx.cell? ⟨ob, 7, none⟩ = some (.slice none 0 0)) ∧ (∀ o, wx.frozen? ⟨ob, o, none⟩ = false) ∧ Below w2.heap.size w2 wx)
  case first =>
    have zz : w.heap.size < w2.heap.size := by omega
    refine wp_region_held_drew (S := fun V => Below w2.heap.size w2 V) (by kernel_rfl) hcur (fun hHeld => ?_)
    refine wpAnyH_take (i := 0) (v := ?_) rfl (by kernel_rfl) (by kernel_rfl) (by kernel_rfl) (fun _ _ _ h => h) (Or.inl ⟨by rfl, ?_⟩) hHeld ?_
    rotate_left
    · intro V hSw; go_simp; rfl
    try simp only [Act.put, List.getElem_toArray, List.getElem_cons_zero, List.setIfInBounds_toArray, List.set_cons_zero, List.set_cons_succ]
    refine wpAnyH_take (i := 1) (v := ?_) rfl (by kernel_rfl) (by kernel_rfl) (by kernel_rfl) (fun _ _ _ h => h) (Or.inl ⟨by rfl, ?_⟩) hHeld ?_
    rotate_left
    · intro V hSw; have pv : ∀ o, V.cell? ⟨w.heap.size, o, none⟩ = _ := (fun o => (hSw.cell (p := ⟨w.heap.size, o, none⟩) zz).trans (pc o)); go_simp; rfl
    try simp only [Act.put, List.getElem_toArray, List.getElem_cons_succ, List.getElem_cons_zero, List.setIfInBounds_toArray, List.set_cons_zero, List.set_cons_succ]
    refine wpAnyH_take (i := 2) (v := ?_) rfl (by kernel_rfl) (by kernel_rfl) (by kernel_rfl) (fun _ _ _ h => h) (Or.inl ⟨by rfl, ?_⟩) hHeld ?_
    rotate_left
    · intro V hSw; go_simp; rfl
    try simp only [Act.put, List.getElem_toArray, List.getElem_cons_succ, List.getElem_cons_zero, List.setIfInBounds_toArray, List.set_cons_zero, List.set_cons_succ]
    refine wpAnyH_take (i := 3) (v := ?_) rfl (by kernel_rfl) (by kernel_rfl) (by kernel_rfl) (fun _ _ _ h => h) (Or.inl ⟨by rfl, ?_⟩) hHeld ?_
    rotate_left
    · intro V hSw; have pv : ∀ o, V.cell? ⟨w.heap.size, o, none⟩ = _ := (fun o => (hSw.cell (p := ⟨w.heap.size, o, none⟩) zz).trans (pc o)); go_simp; rfl
    try simp only [Act.put, List.getElem_toArray, List.getElem_cons_succ, List.getElem_cons_zero, List.setIfInBounds_toArray, List.set_cons_zero, List.set_cons_succ]
    refine wpAnyH_take (i := 5) (v := ?_) rfl (by kernel_rfl) (by kernel_rfl) (by kernel_rfl) (fun _ _ _ h => h) (Or.inl ⟨by rfl, ?_⟩) hHeld ?_
    rotate_left
    · intro V hSw; go_simp; rfl
    try simp only [Act.put, List.getElem_toArray, List.getElem_cons_succ, List.getElem_cons_zero, List.setIfInBounds_toArray, List.set_cons_zero, List.set_cons_succ]
    refine wpAnyH_take (i := 7) (v := ?_) rfl (by kernel_rfl) (by kernel_rfl) (by kernel_rfl) (fun _ _ _ h => h) (Or.inl ⟨by rfl, ?_⟩) hHeld ?_
    rotate_left
    · intro V hSw; go_simp; rfl
    try simp only [Act.put, List.getElem_toArray, List.getElem_cons_succ, List.getElem_cons_zero, List.setIfInBounds_toArray, List.set_cons_zero, List.set_cons_succ]
    refine wpAnyH_ready (rs := [4, 9]) (by kernel_rfl) (by simp) ?_
    refine (AllReadyH.cons rfl (fun K hK => ?_) (AllReadyH.cons rfl (fun K hK => ?_) AllReadyH.nil))
    · skip
      go_simp
      go_at_call 16
      refine (unhide HC s hs _).mono ?_
      rintro e wA ⟨rfl, bA⟩
      refine hK.out _ _ (hHeld.trans (bA.mono hHeld.size)) (fun hHeld => ?_)
      clear hK K
      try simp only [Act.put, List.getElem_toArray, List.getElem_cons_succ, List.getElem_cons_zero, List.setIfInBounds_toArray, List.set_cons_zero, List.set_cons_succ]
      refine wpAnyH_ready (rs := [6, 9]) (by kernel_rfl) (by simp) ?_
      refine (AllReadyH.cons rfl (fun K hK => ?_) (AllReadyH.cons rfl (fun K hK => ?_) AllReadyH.nil))
      · skip
        go_simp
        go_at_call 16
        refine (unhide HC sc hsc _).mono ?_
        rintro e wB ⟨rfl, bB⟩
        refine hK.out _ _ (hHeld.trans (bB.mono hHeld.size)) (fun hHeld => ?_)
        clear hK K
        try simp only [Act.put, List.getElem_toArray, List.getElem_cons_succ, List.getElem_cons_zero, List.setIfInBounds_toArray, List.set_cons_zero, List.set_cons_succ]
        have hBB := hHeld
        refine wpAnyH_take (i := 8) (v := ?_) rfl (by kernel_rfl) (by kernel_rfl) (by kernel_rfl) (fun _ _ _ h => h) (Or.inl ⟨by rfl, ?_⟩) hHeld ?_
        rotate_left
        · intro V hSw; go_simp; rfl
        try simp only [Act.put, List.getElem_toArray, List.getElem_cons_succ, List.getElem_cons_zero, List.setIfInBounds_toArray, List.set_cons_zero, List.set_cons_succ]
        refine wpAnyH_ready (rs := [9]) (by kernel_rfl) (by simp) ?_
        refine (AllReadyH.cons rfl (fun K hK => ?_) AllReadyH.nil)
        go_simp
        refine hK.out _ _ (by first | exact hHeld.alloc hHeld.size _ | exact (hHeld.alloc hHeld.size _).drew) (fun hHeld => ?_)
        clear hK K
        try simp only [Act.put, List.getElem_toArray, List.getElem_cons_succ, List.getElem_cons_zero, List.setIfInBounds_toArray, List.set_cons_zero, List.set_cons_succ]
        refine wpAnyH_ready (rs := [10]) (by kernel_rfl) (by simp) ?_
        refine (AllReadyH.cons rfl (fun K hK => ?_) AllReadyH.nil)
        go_simp
        refine hK.out _ _ (hBB.alloc hBB.size _) (fun hHeld => ?_)
        clear hK K
        refine wpAnyH_done (by kernel_rfl) ?_ _
        have hle := hBB.size
        have HH := hide hHeld
        have ZP := hide (new8 wB 25 (.int .i64 3) (.int .i64 0) (.int .i64 ve) (.string s) (.string sc) (.string ⟨#[]⟩) (.string tk) (.slice none 0 0))
        have QQ : Hid (w.heap.size + 1 < wB.heap.size) := (by show _ < _; omega)
        clear hHeld hBB hle
        go_wp2_with fail
        go_meet
        exact ⟨_, rfl, unhide QQ, (unhide ZP).1, (unhide ZP).2.1, (unhide ZP).2.2, unhide HH⟩
      · have hle := hHeld.size
        go_simp
        refine hK.out _ _ (by first | exact hHeld.alloc hHeld.size _ | exact (hHeld.alloc hHeld.size _).drew) (fun hHeld => ?_)
        clear hK K
        try simp only [Act.put, List.getElem_toArray, List.getElem_cons_succ, List.getElem_cons_zero, List.setIfInBounds_toArray, List.set_cons_zero, List.set_cons_succ]
        refine wpAnyH_ready (rs := [6]) (by kernel_rfl) (by simp) ?_
        refine (AllReadyH.cons rfl (fun K hK => ?_) AllReadyH.nil)
        go_simp
        go_at_call 16
        refine (unhide HC sc hsc _).mono ?_
        rintro e wB ⟨rfl, bB⟩
        refine hK.out _ _ (hHeld.trans (bB.mono hHeld.size)) (fun hHeld => ?_)
        clear hK K
        try simp only [Act.put, List.getElem_toArray, List.getElem_cons_succ, List.getElem_cons_zero, List.setIfInBounds_toArray, List.set_cons_zero, List.set_cons_succ]
        have zb := Zb.of bB
        refine wpAnyH_take (i := 8) (v := ?_) rfl (by kernel_rfl) (by kernel_rfl) (by kernel_rfl) (fun _ _ _ h => h) (Or.inl ⟨by rfl, ?_⟩) hHeld ?_
        rotate_left
        · intro V hSw; go_simp; rfl
        try simp only [Act.put, List.getElem_toArray, List.getElem_cons_succ, List.getElem_cons_zero, List.setIfInBounds_toArray, List.set_cons_zero, List.set_cons_succ]
        refine wpAnyH_ready (rs := [10]) (by kernel_rfl) (by simp) ?_
        refine (AllReadyH.cons rfl (fun K hK => ?_) AllReadyH.nil)
        have cv := zb.cv
        have fz := zb.fz
        have lt := zb.lt
        have zz0 := zb
        clear zb
        have hge : w2.heap.size ≤ wA.heap.size := by have := hle; omega
        go_simp
        have H8 := hide (below8 hHeld hge (.int .i64 3) (.int .i64 0) (.int .i64 ve) (.string s) (.string sc) (.string ⟨#[]⟩) (.string tk) (.slice none 0 0))
        refine hK.out _ _ (unhide H8) (fun hHeld => ?_)
        clear hK K
        refine wpAnyH_done (by kernel_rfl) ?_ _
        have HH := hide hHeld
        have ZP := hide (zz0.put (.int .i64 3) (.int .i64 0) (.int .i64 ve) (.string s) (.string sc) (.string ⟨#[]⟩) (.string tk) (.slice none 0 0))
        have QQ : Hid (w.heap.size + 1 < wA.heap.size) := (by show _ < _; omega)
        clear hHeld zz0 hge cv fz lt
        go_wp2_with fail
        go_meet
        exact ⟨_, rfl, unhide QQ, (unhide ZP).1, (unhide ZP).2.1, (unhide ZP).2.2, unhide HH⟩
    · have hle := Nat.le_refl w2.heap.size
      go_simp
      refine hK.out _ _ (by first | exact hHeld.alloc hHeld.size _ | exact (hHeld.alloc hHeld.size _).drew) (fun hHeld => ?_)
      clear hK K
      try simp only [Act.put, List.getElem_toArray, List.getElem_cons_succ, List.getElem_cons_zero, List.setIfInBounds_toArray, List.set_cons_zero, List.set_cons_succ]
      refine wpAnyH_ready (rs := [4]) (by kernel_rfl) (by simp) ?_
      refine (AllReadyH.cons rfl (fun K hK => ?_) AllReadyH.nil)
      go_simp
      go_at_call 16
      refine (unhide HC s hs _).mono ?_
      rintro e wA ⟨rfl, bA⟩
      refine hK.out _ _ (hHeld.trans (bA.mono hHeld.size)) (fun hHeld => ?_)
      clear hK K
      try simp only [Act.put, List.getElem_toArray, List.getElem_cons_succ, List.getElem_cons_zero, List.setIfInBounds_toArray, List.set_cons_zero, List.set_cons_succ]
      have zbA := Zb.ofDrew bA
      refine wpAnyH_ready (rs := [6]) (by kernel_rfl) (by simp) ?_
      refine (AllReadyH.cons rfl (fun K hK => ?_) AllReadyH.nil)
      go_simp
      go_at_call 16
      refine (unhide HC sc hsc _).mono ?_
      rintro e wB ⟨rfl, bB⟩
      refine hK.out _ _ (hHeld.trans (bB.mono hHeld.size)) (fun hHeld => ?_)
      clear hK K
      try simp only [Act.put, List.getElem_toArray, List.getElem_cons_succ, List.getElem_cons_zero, List.setIfInBounds_toArray, List.set_cons_zero, List.set_cons_succ]
      have zb := zbA.keep bB
      refine wpAnyH_take (i := 8) (v := ?_) rfl (by kernel_rfl) (by kernel_rfl) (by kernel_rfl) (fun _ _ _ h => h) (Or.inl ⟨by rfl, ?_⟩) hHeld ?_
      rotate_left
      · intro V hSw; go_simp; rfl
      try simp only [Act.put, List.getElem_toArray, List.getElem_cons_succ, List.getElem_cons_zero, List.setIfInBounds_toArray, List.set_cons_zero, List.set_cons_succ]
      refine wpAnyH_ready (rs := [10]) (by kernel_rfl) (by simp) ?_
      refine (AllReadyH.cons rfl (fun K hK => ?_) AllReadyH.nil)
      have cv := zb.cv
      have fz := zb.fz
      have lt := zb.lt
      have zz0 := zb
      clear zb
      have hge : w2.heap.size ≤ w2.heap.size := by have := hle; omega
      go_simp
      have H8 := hide (below8 hHeld hge (.int .i64 3) (.int .i64 0) (.int .i64 ve) (.string s) (.string sc) (.string ⟨#[]⟩) (.string tk) (.slice none 0 0))
      refine hK.out _ _ (unhide H8) (fun hHeld => ?_)
      clear hK K
      refine wpAnyH_done (by kernel_rfl) ?_ _
      have HH := hide hHeld
      have ZP := hide (zz0.put (.int .i64 3) (.int .i64 0) (.int .i64 ve) (.string s) (.string sc) (.string ⟨#[]⟩) (.string tk) (.slice none 0 0))
      have QQ : Hid (w.heap.size + 1 < w2.heap.size) := (by show _ < _; omega)
      clear hHeld zz0 hge cv fz lt
      go_wp2_with fail
      go_meet
      exact ⟨_, rfl, unhide QQ, (unhide ZP).1, (unhide ZP).2.1, (unhide ZP).2.2, unhide HH⟩
  case rest =>
    obtain ⟨ob, rfl, ho, hol, ⟨o0, o1, o2, o3, o4, o5, o6, o7⟩, of, hbx⟩ := hcut
    have Dx := hide ((unhide D2).trans (hbx.mono (unhide D2).size))
    have Bx := hide ((unhide B2).trans (hbx.mono (unhide B2).size))
    have TX := hide ((unhide TZ).below (unhide Bx))
    have zx : w.heap.size + 1 < wc.heap.size := by have := hbx.size; omega
    have zx0 : w.heap.size < wc.heap.size := by omega
    obtain ⟨hcx, hfx⟩ := bcell (unhide Dx)
    have px : ∀ o, wc.cell? ⟨w.heap.size, o, none⟩ = _ := fun o => hcx w.heap.size o (by simp; omega)
    have rx : ∀ o, wc.cell? ⟨w.heap.size + 1, o, none⟩ = _ := fun o => hcx (w.heap.size + 1) o (by simp)
    have fx' : ∀ o, wc.frozen? ⟨w.heap.size + 1, o, none⟩ = _ := fun o => hfx (w.heap.size + 1) o (by simp)
    clear hcx hfx Dx hbx D2 B2 pc hcur TZ HC
    have nob : ob ≠ w.heap.size + 1 := by omega
    have nob' : w.heap.size + 1 ≠ ob := by omega
    go_wp2_with fail
    refine (unhide HB _ (unhide TX)).mono ?_
    rintro e w6 ⟨rfl, b6⟩
    obtain ⟨hc6, hf6⟩ := bcell b6
    have p6 : ∀ o, w6.cell? ⟨w.heap.size, o, none⟩ = _ := fun o => (hc6 w.heap.size o zx0).trans (px o)
    have B6 := hide b6
    clear b6 hc6 hf6
    go_wp2_with fail
    refine (unhide HT _).mono ?_
    rintro e w7 ⟨rfl, b7⟩
    have b67 := (unhide B6).trans (b7.mono (unhide B6).size)
    have B7 := hide ((unhide Bx).trans (b67.mono (unhide Bx).size))
    obtain ⟨hc7, hf7⟩ := bcell b67
    have e0 := (hc7 ob 0 hol).trans o0
    have e1 := (hc7 ob 1 hol).trans o1
    have e2 := (hc7 ob 2 hol).trans o2
    have e3 := (hc7 ob 3 hol).trans o3
    have e4 := (hc7 ob 4 hol).trans o4
    have e5 := (hc7 ob 5 hol).trans o5
    have e6 := (hc7 ob 6 hol).trans o6
    have e7 := (hc7 ob 7 hol).trans o7
    have ef : ∀ o, w7.frozen? ⟨ob, o, none⟩ = false := fun o => (hf7 ob o hol).trans (of o)
    have r7 : ∀ o, w7.cell? ⟨w.heap.size + 1, o, none⟩ = _ := fun o => (hc7 (w.heap.size + 1) o zx).trans (rx o)
    have f7 : ∀ o, w7.frozen? ⟨w.heap.size + 1, o, none⟩ = _ := fun o => (hf7 (w.heap.size + 1) o zx).trans (fx' o)
    clear hc7 hf7 b67 b7 B6 p6 px rx fx' o0 o1 o2 o3 o4 o5 o6 o7 of Bx TX
    go_wp2
    refine bodyPost_ret (v := .tuple #[hv 3 0 ve s sc ⟨#[]⟩ r none 0 0, .bool true]) (by simp [results, Tryd.results5, go_sem, r7]) rfl ⟨rfl, ?_⟩
    iterate 8 refine Below.setCell ?_ (by simp) _
    refine Below.setCell ?_ (show w.heap.size ≤ ob by omega) _
    exact unhide B7
end Go.Proofs.YtgjohakjknmngaaDoor
