/-
  Contract: CutDatagram, as the model makes it.
-/
import Derived.Test.YtbabipaipbjlbaaL2h
import Derived.Test.YtbabipaipbjlbaaPahX
namespace Go.Proofs.Ytbabipaipbjlbaa
open Go.ChangeShapes Go.WideShapes Go.ChangeAt Go.RowKit
set_option linter.unusedVariables false
set_option maxRecDepth 100000

set_option maxHeartbeats 4000000 in
theorem specCut (s : ByteArray) (short : Nat) (w : World) (hs : s.size ≤ 1500) (hsh : short ≤ 20) :
    Calls Try.prog 35 #[.string s, .int .i64 short] w (CQ w (cutF s short (s.size + 1) 0)) := by
  have H0 := hide (Ot.nil w.heap.size w)
  obtain ⟨i0, hi, hz0, hz1, hz2⟩ := infoStr_parts
  have HT : Hid (∃ r, cutF s short (s.size + 1) 0 = r) := ⟨_, rfl⟩
  obtain ⟨r, hr⟩ := unhide HT
  rw [hr]
  have HR := hide hr
  clear HT hr
  have e0 : s.extract 0 s.size = s := by apply ByteArray.ext; simp
  go_enter Try.func35, Try.ntmps35
  go_wp2_with fail
  go_loopw [0, 6] (fun sv u wr => ∃ (p n : Nat) (L : List ByteArray), p ≤ s.size ∧ sv = .string (s.extract p s.size) ∧ L.length ≤ p ∧ s.size < n + p ∧ Hid (r = (cutF s short n p).map (L ++ ·)) ∧ Ot w.heap.size wr u L ∧ Below w.heap.size w wr) (fun sv _ _ => (match sv with | .string t => t.size | _ => 0))
  case atStart =>
    refine ⟨0, s.size + 1, [], by omega, by rw [e0], Nat.le_refl _, by omega, ?_, unhide H0, Below.refl _ _⟩
    rw [← unhide HR]
    show _ = Option.map (fun l => [] ++ l) _
    simp
  case round =>
    obtain ⟨p, n, L, hp, rfl, hL, hn, hC, hO, hB⟩ := hrel
    obtain ⟨a, cap, rfl⟩ := hO.opens
    have HO := hide hO
    have HB := hide hB
    have hwl := hB.size
    clear hO hB H0 HR e0
    have ez : (s.extract p s.size).size = s.size - p := by rw [ByteArray.size_extract]; omega
    by_cases hlt : p < s.size
    · obtain ⟨n, rfl⟩ : ∃ n', n = n' + 1 := ⟨n - 1, by omega⟩
      cases hh : hdR (s.extract p s.size) short with
      | none =>
        have eC : Hid (cutF s short (n + 1) p = none) := by show cutF s short (n + 1) p = _; rw [cutF, if_pos hlt, hh]
        have hrn : Hid (r = none) := by show r = none; rw [unhide hC, unhide eC]; rfl
        have HD : Hid (∀ W, Calls Try.prog 27 #[.string (s.extract p s.size), .int .i64 short] W (HM W none)) := fun W => by
          have h9 := specHd (s.extract p s.size) short W (by omega) hsh
          rw [hh] at h9
          exact h9
        clear eC hC hh
        have hz : 0 < (s.extract p s.size).size := by omega
        generalize s.extract p s.size = t at *
        go_wp2_with fail
        refine (unhide HD _).mono ?_
        rintro e w1 ⟨c, hc, rfl, b1⟩
        have hc0 : (c != 0) = true := by simp [hc]
        have HB2 := hide ((unhide HB).trans ((b1.alloc b1.size (.cells #[.int .i64 0, .int .i64 0, .int .i64 0, .string sE, .string sE, .string sE, .string sE, nilS] 49)).mono hwl))
        clear hc b1 HB HO HD
        go_wp2
        go_ret2
        rw [unhide hrn]
        exact ⟨rfl, unhide HB2⟩
      | some x =>
        have eC : Hid (cutF s short (n + 1) p = (cutF s short n (p + x.q)).map (s.extract p (p + x.q) :: ·)) := by show cutF s short (n + 1) p = _; rw [cutF, if_pos hlt, hh]
        have hq := hdR_q hh
        rw [ez] at hq
        have hrs : Hid (r = (cutF s short n (p + x.q)).map ((L ++ [s.extract p (p + x.q)]) ++ ·)) := by
          show r = _
          rw [unhide hC, unhide eC]
          cases cutF s short n (p + x.q) with
          | none => rfl
          | some M => simp
        have HD : Hid (∀ W, Calls Try.prog 27 #[.string (s.extract p s.size), .int .i64 short] W (HM W (some x))) := fun W => by
          have h9 := specHd (s.extract p s.size) short W (by omega) hsh
          rw [hh] at h9
          exact h9
        have ex1 := hide (ex_ex s p 0 x.q (by omega) (by omega) hp)
        have ex2 := hide (ex_ex s p x.q (s.size - p) (by omega) (by omega) hp)
        rw [Nat.add_zero] at ex1
        rw [show p + (s.size - p) = s.size by omega, ← ez] at ex2
        have hz : 0 < (s.extract p s.size).size := by omega
        have hq2 : x.q ≤ (s.extract p s.size).size := by omega
        have ez2 := hide ez
        clear eC hC hh ez
        generalize s.extract p s.size = t at *
        go_wp2_with fail
        refine (unhide HD _).mono ?_
        rintro e w1 ⟨ra, rc, rfl, o1, b1⟩
        clear o1
        have B3 : Below wr.heap.size wr (w1.alloc (.cells #[.int .i64 x.f, .int .i64 x.bi, .int .i64 x.ve, .string x.d, .string x.e, .string x.t, .string x.y, .slice ra x.m rc] 49)) := b1.alloc b1.size _
        go_upto_region 6 with fail
        generalize w1.alloc (.cells #[.int .i64 x.f, .int .i64 x.bi, .int .i64 x.ve, .string x.d, .string x.e, .string x.t, .string x.y, .slice ra x.m rc] 49) = w3 at *
        have z3 := B3.size
        have HB3 := hide ((unhide HB).trans (B3.mono hwl))
        obtain ⟨HO3, hz3, hnew, hone⟩ := pushedS w.heap.size a cap L (t.extract 0 x.q) w3 ((unhide HO).kept B3)
        have HBk := hide (fun (W : World) (hg : (w3.alloc (.cells #[.string (t.extract 0 x.q)] 9)).grownBy W (Value.slice a L.length cap).ownBlock) => Ot.below (L := L) (unhide HO3) hg (by have := unhide hz3; omega))
        have HB4 := hide ((unhide HB3).alloc (by omega) (.cells #[.string (t.extract 0 x.q)] 9))
        clear b1 B3 HB HO HD HB3
        go_wp2_with (at_builtin; refine wpList_append_lies _ rfl _ _ 25 rfl w.heap.size 9 i0 (.string ⟨#[]⟩) 1 16 Try.underlying25 hi hz0 hz1 hz2 rfl (by decide) _ _ _ rfl (unhide HO3) ⟨w3.heap.size, 0, none⟩ 1 1 [.string (t.extract 0 x.q)] rfl rfl (unhide hnew) (unhide hone) (by omega) ?c3 ?c4 ?c5 (w3.heap.size + 1) (unhide hz3) ?_)
        case c3 => unfold maxLen; omega
        case c4 => have := unhide hz3; omega
        case c5 => have := unhide hz3; omega
        intro g cap' w' hown hgrow hat hlt'
        rw [unhide ex1] at hown
        have R1 : Hid (Ot w.heap.size w' (.slice (some ⟨g, 0, none⟩) (L.length + 1) cap') (L ++ [s.extract p (p + x.q)])) := by
          show w'.ownsRow _ _ _ _ _ _
          rw [← sv_snoc, List.length_append]
          exact hown
        have R2 := hide ((unhide HB4).trans (unhide HBk w' hgrow))
        clear hown hgrow hat HO3 hnew hone HBk HB4
        go_wp2
        rw [unhide ex2]
        have hsz : (s.extract (p + x.q) s.size).size < t.size := by
          have := unhide ez2
          rw [ByteArray.size_extract]
          omega
        exact ⟨⟨p + x.q, n, L ++ [s.extract p (p + x.q)], by omega, rfl, by simp; omega, by omega, hrs, unhide R1, unhide R2⟩, hsz⟩
    · have hrn : Hid (r = some L) := by
        show r = some L
        rw [unhide hC]
        obtain ⟨n, rfl⟩ : ∃ n', n = n' + 1 := ⟨n - 1, by omega⟩
        rw [cutF, if_neg hlt]
        simp
      have hz : (s.extract p s.size).size = 0 := by omega
      clear hC ez
      generalize s.extract p s.size = t at *
      go_wp2
      go_ret2
      rw [unhide hrn]
      exact ⟨⟨_, rfl, unhide HO⟩, unhide HB⟩
end Go.Proofs.Ytbabipaipbjlbaa
