/-
  The law on packets that ask to come again, walked.
-/
import Derived.Test.YtgjohakjknmngaaDoorRpkX
import Derived.Test.YtgjohakjknmngaaDoorOijX
import Derived.Test.YtgjohakjknmngaaDoorVrpX
namespace Go.Proofs.YtgjohakjknmngaaDoor.fnRetried
open Go.ChangeShapes Go.WideShapes Go.ChangeAt Go.RowKit
set_option linter.unusedVariables false
set_option maxRecDepth 100000

/-- block b holds these cells -/
structure HC (w : World) (b : Nat) (xs : Array Value) : Prop where
  lt : b < w.heap.size
  cv : ∀ o, w.cell? ⟨b, o, none⟩ = xs[o]?
theorem HC.below {w w' : World} {b : Nat} {xs : Array Value} (h : HC w b xs) (hb : Below w.heap.size w w') : HC w' b xs :=
  ⟨Nat.lt_of_lt_of_le h.lt hb.size, fun o => (hb.cell (p := ⟨b, o, none⟩) h.lt).trans (h.cv o)⟩
theorem HC.alloc {w : World} {b : Nat} {xs : Array Value} (h : HC w b xs) (o : Obj) : HC (w.alloc o) b xs := h.below ((Below.refl _ _).alloc (Nat.le_refl _) _)
theorem HC.drew {w : World} {b : Nat} {xs : Array Value} (h : HC w b xs) : HC w.drew b xs := h.below (Below.refl _ _).drew
theorem HC.new (w : World) (xs : Array Value) (T : TypeId) : HC (w.alloc (.cells xs T)) w.heap.size xs := ⟨by simp, fun o => by simp⟩
theorem HC.kept {w w' : World} {b : Nat} {xs : Array Value} (h : HC w b xs) (hs : w.heap.size ≤ w'.heap.size) (e : w'.heap[b]? = w.heap[b]?) : HC w' b xs :=
  ⟨Nat.lt_of_lt_of_le h.lt hs, fun o => (World.cell?_of_block (a := ⟨b, o, none⟩) e).trans (h.cv o)⟩
theorem ext_first (x y : ByteArray) : (x ++ y).extract 0 x.size = x := by
  apply ByteArray.ext
  simp
theorem ext_last (x y : ByteArray) (n : Nat) (h : n = x.size + y.size) : (x ++ y).extract x.size n = y := by
  subst h
  have h1 : x.data.extract x.size (x.size + y.size) = #[] := Array.eq_empty_of_size_eq_zero (by rw [Array.size_extract]; show min _ x.data.size - x.data.size = 0; omega)
  have h2 : y.data.extract 0 y.size = y.data := by show y.data.extract 0 y.data.size = y.data; simp
  apply ByteArray.ext
  simp [h1, h2]
set_option maxHeartbeats 4000000 in
theorem walk_small (a : Option Addr) (N cap : Nat) (w : World) (hl : N ≤ 1048576) (ha : Dr.Cd w a N) (htz : Tz w) :
    Calls Tryd.prog 3 #[.slice a N cap] w fun e w' => e = .returned (.bool true) ∧ Below w.heap.size w w' := by
  have HD := hide (Dr.drawRP_any a N cap w hl ha)
  have HT := hide htz
  clear ha htz
  have hs1 : ¬ (1048576 : Int) < (N : Int) := by omega
  go_enter Tryd.func3, Tryd.ntmps3
  go_wp2_with fail
  refine (unhide HD).mono ?_
  rintro e w1 ⟨f, bi, ve, d, s, t, p, b, n, c, V, tk, sc, rfl, z1, z2, z3, z4, z5, z6, z7, hI, b1⟩
  have bb := (Below.refl w1.heap.size w1).alloc (Nat.le_refl _) (.cells #[.int .i64 f, .int .i64 bi, .int .i64 ve, .string d, .string s, .string t, .string p, .slice b n c] 25)
  have A1 := HC.new w1 #[.int .i64 f, .int .i64 bi, .int .i64 ve, .string d, .string s, .string t, .string p, .slice b n c] 25
  have I1 := hide (hI.below bb)
  have B1 := hide (b1.trans (bb.mono b1.size))
  have T1 := hide ((unhide HT).below (unhide B1))
  clear HD hI b1 bb
  by_cases k : rpB (gh f bi ve d.size s.size t.size p.size n V) f tk.size sc.size
  case neg =>
    have HI := hide (fun (W : World) (i : Ia W b n c V) => implRP_no f bi ve d s t p b n c V tk sc W i (by omega) (by omega) (by omega) (by omega) (by omega) (by omega) (by omega) k)
    have HS := hide (fun (W : World) (i : Ia W b n c V) => specRP_no f bi ve d s t p b n c V tk sc W i (by omega) (by omega) (by omega) (by omega) (by omega) (by omega) (by omega) k)
    clear k
    go_wp2_with fail
    refine (unhide HI _ (unhide I1)).mono ?_
    rintro e w2 ⟨rfl, b2⟩
    have A2 := A1.below b2
    have I2 := hide ((unhide I1).below b2)
    have B2 := hide ((unhide B1).trans (b2.mono (unhide B1).size))
    have X2 := HC.new w2 #[.int .i64 0, .int .i64 0, .int .i64 0, .string ⟨#[]⟩, .string ⟨#[]⟩, .string ⟨#[]⟩, .string ⟨#[]⟩, .slice none 0 0] 25
    have A2x := A2.alloc (.cells #[.int .i64 0, .int .i64 0, .int .i64 0, .string ⟨#[]⟩, .string ⟨#[]⟩, .string ⟨#[]⟩, .string ⟨#[]⟩, .slice none 0 0] 25)
    have I2x := hide ((unhide I2).below ((Below.refl _ _).alloc (Nat.le_refl _) (.cells #[.int .i64 0, .int .i64 0, .int .i64 0, .string ⟨#[]⟩, .string ⟨#[]⟩, .string ⟨#[]⟩, .string ⟨#[]⟩, .slice none 0 0] 25)))
    have B2x := hide ((unhide B2).alloc (unhide B2).size (.cells #[.int .i64 0, .int .i64 0, .int .i64 0, .string ⟨#[]⟩, .string ⟨#[]⟩, .string ⟨#[]⟩, .string ⟨#[]⟩, .slice none 0 0] 25))
    have ca := A2x.cv
    have la := A2.lt
    clear b2 A1 A2 I2 B2
    go_wp2_with fail
    refine (unhide HS _ (unhide I2x)).mono ?_
    rintro e w3 ⟨rfl, b3⟩
    have X3 := X2.below b3
    have B3 := hide ((unhide B2x).trans (b3.mono (unhide B2x).size))
    have cx := X3.cv
    have lx := X3.lt
    clear b3 ca la X2 A2x I2x B2x
    have SM := hide (fun W => sameHd 0 0 0 ⟨#[]⟩ ⟨#[]⟩ ⟨#[]⟩ ⟨#[]⟩ none none 0 0 0 (fun _ => 0) W (by omega) (Or.inl rfl) (Or.inl rfl))
    go_wp2_with fail
    refine (unhide SM _).mono ?_
    rintro e w4 ⟨rfl, b4⟩
    have B4 := hide (((unhide B3).alloc (unhide B3).size (.cells #[.int .i64 0, .int .i64 0, .int .i64 0, .string ⟨#[]⟩, .string ⟨#[]⟩, .string ⟨#[]⟩, .string ⟨#[]⟩, .slice none 0 0] 25)).trans (b4.mono (Nat.le_trans (unhide B3).size (by simp))))
    have X4 := (X3.alloc (.cells #[.int .i64 0, .int .i64 0, .int .i64 0, .string ⟨#[]⟩, .string ⟨#[]⟩, .string ⟨#[]⟩, .string ⟨#[]⟩, .slice none 0 0] 25)).below b4
    have cx4 := X4.cv
    clear cx lx b4 X3 B3
    go_wp2
    go_ret
    exact ⟨rfl, unhide B4⟩
  case pos =>
    obtain ⟨c1, rfl, c3, c4⟩ := k
    obtain ⟨d2, s2, b0, b1, hg⟩ := of_decide_eq_true c1
    rw [gpB_0] at hg
    have hq := of_decide_eq_true hg
    have hy := of_decide_eq_true hq.2.1
    have v1 : 0 ≤ ve ∧ ve ≤ 4294967295 := ⟨by omega, hy.2⟩
    have HI := hide (fun (W : World) (tz : Tz W) (i : Ia W b n c V) => implRP_ok bi ve d s t p b n c V tk sc W tz i d2 s2 (by omega) (by omega) (by omega) c1 hq.2.1 v1 c3 c4)
    have HS := hide (fun (W : World) (i : Ia W b n c V) => specRP_ok bi ve d s t p b n c V tk sc W i d2 s2 (by omega) (by omega) (by omega) c1 v1.1 v1.2 c3 c4)
    have hg3 : gh 3 0 ve s.size sc.size 0 tk.size 0 (fun _ => 0) = true := by
      unfold gh
      refine decide_eq_true ⟨s2, c4, by omega, by omega, ?_⟩
      rw [gpB_3]
      exact decide_eq_true ⟨by omega, hq.2.1, rfl, by omega, rfl⟩
    have HB : Hid (∀ W, Tz W → Calls Tryd.prog 8 #[hv 3 0 ve s sc ⟨#[]⟩ tk none 0 0] W fun e w' => e = .returned (.tuple #[.string (PKW ve s sc tk), .bool true]) ∧ Below W.heap.size W w') := fun W hz => implHB_3 0 ve s sc ⟨#[]⟩ tk none 0 0 (fun _ => 0) W hz (Or.inl rfl) hg3 (by omega) (by omega) s2 c4 (by decide) (by omega) v1.1 v1.2 (by omega) (fun i hi => by omega)
    have hpk := PKW_size ve s sc tk
    have HR : Hid (∀ W, Calls Tryd.prog 9 #[.string d, .string (PKW ve s sc tk)] W fun e w' => e = .returned (.tuple #[.string (rtW d (PKW ve s sc tk)), .bool true]) ∧ Below W.heap.size W w') := fun W => implRT_ok d (PKW ve s sc tk) d2 (by omega) W
    have hrt := rtW_size d (PKW ve s sc tk)
    have q1 : (RPP ve d s sc tk).size = tk.size + 16 := by unfold RPP; rw [ByteArray.size_append, hrt]
    have q2 : (RPP ve d s sc tk).extract 0 tk.size = tk := by unfold RPP; exact ext_first _ _
    have q3 : (RPP ve d s sc tk).extract tk.size (tk.size + 16) = rtW d (PKW ve s sc tk) := by unfold RPP; exact ext_last _ _ _ (by omega)
    generalize RPP ve d s sc tk = r at *
    generalize rtW d (PKW ve s sc tk) = g at *
    generalize PKW ve s sc tk = pk at *
    clear hg3 hpk hrt hg hq hy c1 v1
    have zt : tk.size ≤ 40 := z6
    go_wp2_with fail
    refine (unhide HI _ (unhide T1) (unhide I1)).mono ?_
    rintro e w2 ⟨rfl, b2⟩
    have A2 := A1.below b2
    have I2 := hide ((unhide I1).below b2)
    have B2 := hide ((unhide B1).trans (b2.mono (unhide B1).size))
    have X2 := HC.new w2 #[.int .i64 3, .int .i64 0, .int .i64 ve, .string s, .string sc, .string ⟨#[]⟩, .string r, .slice none 0 0] 25
    have A2x := A2.alloc (.cells #[.int .i64 3, .int .i64 0, .int .i64 ve, .string s, .string sc, .string ⟨#[]⟩, .string r, .slice none 0 0] 25)
    have I2x := hide ((unhide I2).below ((Below.refl _ _).alloc (Nat.le_refl _) (.cells #[.int .i64 3, .int .i64 0, .int .i64 ve, .string s, .string sc, .string ⟨#[]⟩, .string r, .slice none 0 0] 25)))
    have B2x := hide ((unhide B2).alloc (unhide B2).size (.cells #[.int .i64 3, .int .i64 0, .int .i64 ve, .string s, .string sc, .string ⟨#[]⟩, .string r, .slice none 0 0] 25))
    have ca := A2x.cv
    have la := A2.lt
    clear b2 A1 A2 I2 B2 T1 I1 B1
    go_wp2_with fail
    refine (unhide HS _ (unhide I2x)).mono ?_
    rintro e w3 ⟨rfl, b3⟩
    have A3 := A2x.below b3
    have X3 := X2.below b3
    have B3 := hide ((unhide B2x).trans (b3.mono (unhide B2x).size))
    have cx := X3.cv
    have lx := X3.lt
    clear b3 ca la X2 A2x I2x B2x
    have SM := hide (fun W => sameHd 3 0 ve s sc ⟨#[]⟩ r none none 0 0 0 (fun _ => 0) W (by omega) (Or.inl rfl) (Or.inl rfl))
    go_wp2_with fail
    refine (unhide SM _).mono ?_
    rintro e w4 ⟨rfl, b4⟩
    have B4 := hide (((unhide B3).alloc (unhide B3).size (.cells #[.int .i64 3, .int .i64 0, .int .i64 ve, .string s, .string sc, .string ⟨#[]⟩, .string r, .slice none 0 0] 25)).trans (b4.mono (Nat.le_trans (unhide B3).size (by simp))))
    have X4 := (X3.alloc (.cells #[.int .i64 3, .int .i64 0, .int .i64 ve, .string s, .string sc, .string ⟨#[]⟩, .string r, .slice none 0 0] 25)).below b4
    have A4 := (A3.alloc (.cells #[.int .i64 3, .int .i64 0, .int .i64 ve, .string s, .string sc, .string ⟨#[]⟩, .string r, .slice none 0 0] 25)).below b4
    have T4 := hide ((unhide HT).below (unhide B4))
    have cx4 := X4.cv
    have ca4 := A4.cv
    have lx4 := X4.lt
    have la4 := A4.lt
    clear cx lx b4 X3 A3 B3
    go_wp2_with fail
    have B4x := hide ((unhide B4).alloc (unhide B4).size (.cells #[.int .i64 3, .int .i64 0, .int .i64 ve, .string s, .string sc, .string ⟨#[]⟩, .string tk, .slice none 0 0] 25))
    have T4x := hide ((unhide HT).below (unhide B4x))
    have X4x := X4.alloc (.cells #[.int .i64 3, .int .i64 0, .int .i64 ve, .string s, .string sc, .string ⟨#[]⟩, .string tk, .slice none 0 0] 25)
    have A4x := A4.alloc (.cells #[.int .i64 3, .int .i64 0, .int .i64 ve, .string s, .string sc, .string ⟨#[]⟩, .string tk, .slice none 0 0] 25)
    refine (unhide HB _ (unhide T4x)).mono ?_
    rintro e w5 ⟨rfl, b5⟩
    have B5 := hide ((unhide B4x).trans (b5.mono (unhide B4x).size))
    have X5 := X4x.below b5
    have A5 := A4x.below b5
    have ca5 := A5.cv
    have la5 := A5.lt
    clear cx4 ca4 lx4 la4 X4 A4 B4 T4 X4x A4x B4x T4x b5
    go_wp2_with fail
    refine (unhide HR _).mono ?_
    rintro e w6 ⟨rfl, b6⟩
    have B6 := hide ((unhide B5).trans (b6.mono (unhide B5).size))
    have X6 := X5.below b6
    have cx6 := X6.cv
    have lx6 := X6.lt
    clear ca5 la5 X5 A5 B5 b6 X6
    go_wp2
    go_ret
    exact ⟨rfl, unhide B6⟩

theorem walk (a : Option Addr) (N cap : Nat) (w : World) (ha : Dr.Cd w a N) (htz : Tz w) :
    Calls Tryd.prog 3 #[.slice a N cap] w fun e w' => e = .returned (.bool true) ∧ Below w.heap.size w w' := by
  by_cases hl : N ≤ 1048576
  · exact walk_small a N cap w hl ha htz
  · have hs1 : (1048576 : Int) < (N : Int) := by omega
    go_enter Tryd.func3, Tryd.ntmps3
    go_wp2
    go_ret
    exact ⟨rfl, Below.refl _ _⟩
end Go.Proofs.YtgjohakjknmngaaDoor.fnRetried
