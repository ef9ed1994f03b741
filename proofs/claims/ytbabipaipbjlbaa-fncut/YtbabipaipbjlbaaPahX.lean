/-
  Contract: the packet at the front of a text, as the program makes it. Contract: CutDatagram, as the program makes it: the loop.
-/
import Derived.Test.YtbabipaipbjlbaaCdg
namespace Go.Proofs.Ytbabipaipbjlbaa
open Go.ChangeShapes Go.WideShapes Go.ChangeAt Go.RowKit
set_option linter.unusedVariables false
set_option maxRecDepth 100000

set_option maxHeartbeats 2000000 in
theorem pah_bad (s : ByteArray) (short : Nat) (w : World) (hs : s.size ≤ 1048576) (hsh : short ≤ 20) (hR : hdR s short = none) :
    Calls Try.prog 32 #[.string s, .int .i64 short] w fun e w' => e = .returned (.tuple #[.string sE, .bool false]) ∧ Below w.heap.size w w' := by
  have HD := hide (fun W => rdh_bad s short W hs hsh hR)
  clear hR
  go_enter Try.func32, Try.ntmps32
  go_wp2_with fail
  refine (unhide HD _).mono ?_
  rintro e w1 ⟨c, hc, rfl, b1⟩
  have hc0 : (c == 0) = false := by rcases hc with rfl | rfl | rfl <;> rfl
  have HB2 := hide (b1.alloc b1.size (.cells #[.int .i64 0, .int .i64 0, .int .i64 0, .string sE, .string sE, .string sE, .string sE, nilS] 49))
  clear hc b1 HD
  go_wp2
  go_ret2
  exact ⟨rfl, unhide HB2⟩
set_option maxHeartbeats 2000000 in
theorem pah_ok (s : ByteArray) (short : Nat) (x : HR) (w : World) (hs : s.size ≤ 1048576) (hsh : short ≤ 20) (hR : hdR s short = some x) :
    Calls Try.prog 32 #[.string s, .int .i64 short] w fun e w' => e = .returned (.tuple #[.string (s.extract 0 x.q), .bool true]) ∧ Below w.heap.size w w' := by
  have hq := hdR_q hR
  have HD := hide (fun W => rdh_ok s short x W hs hsh hR)
  have HE := hide (fun W => clone_text (s.extract 0 x.q) W (by rw [ByteArray.size_extract]; omega))
  clear hR
  go_enter Try.func32, Try.ntmps32
  go_wp2_with (go_at_call 18; refine (unhide HD _).mono ?_; rintro e w1 ⟨ra, rc, rfl, o1, b1⟩; clear o1)
  refine (unhide HE _).mono ?_
  rintro e w3 ⟨rfl, b3⟩
  have B3 := hide (show Below w.heap.size w w3 from (b1.alloc b1.size _).trans (b3.mono (by have := b1.size; simp; omega)))
  clear b1 b3 HD HE
  go_wp2
  go_ret2
  exact ⟨rfl, unhide B3⟩
end Go.Proofs.Ytbabipaipbjlbaa
namespace Go.Proofs.Ytbabipaipbjlbaa
open Go.ChangeShapes Go.WideShapes Go.ChangeAt Go.RowKit
set_option linter.unusedVariables false
set_option maxRecDepth 100000

/-- what a cut datagram leaves -/
def CQ (w : World) (r : Option (List ByteArray)) (e : Ending) (w' : World) : Prop :=
  (match r with | some L => ∃ v, e = .returned (.tuple #[v, .bool true]) ∧ Ot w.heap.size w' v L | none => e = .returned (.tuple #[.slice none 0 0, .bool false])) ∧ Below w.heap.size w w'
/-- a text laid to be put behind a row -/
theorem pushedS (base : Nat) (a : Option Addr) (cap : Nat) (L : List ByteArray) (t : ByteArray) (w3 : World) (hO : Ot base w3 (.slice a L.length cap) L) :
    Hid ((w3.alloc (.cells #[.string t] 9)).ownsRow base 9 1 (.slice a L.length cap) L.length (sv L)) ∧ Hid ((w3.alloc (.cells #[.string t] 9)).heap.size = w3.heap.size + 1) ∧
    Hid (∀ j u, ([.string t] : List Value)[j]? = some u → (w3.alloc (.cells #[.string t] 9)).cell? ((⟨w3.heap.size, 0, none⟩ : Addr).add j) = some u) ∧ Hid (∀ u ∈ ([.string t] : List Value), u.oneCell' = true) := by
  refine ⟨hO.kept ((Below.refl _ _).alloc (Nat.le_refl _) _), by show _ = _; simp, fun j u hu => ?_, fun u hu => ?_⟩
  · cases j with
    | zero => simp at hu; subst hu; simp [Addr.add]
    | succ j => simp at hu
  · simp at hu; subst hu; rfl
set_option maxHeartbeats 2000000 in
theorem cut_any (s : ByteArray) (short : Nat) (w : World) (hs : s.size ≤ 1500) (hsh : short ≤ 20) :
    Calls Try.prog 12 #[.string s, .int .i64 short] w (CQ w (cutF s short (s.size + 1) 0)) := by
  have HG := hide (fun W => gshort_yes short W hsh)
  have H0 := hide (Ot.nil w.heap.size w)
  obtain ⟨i0, hi, hz0, hz1, hz2⟩ := infoStr_parts
  have HT : Hid (∃ r, cutF s short (s.size + 1) 0 = r) := ⟨_, rfl⟩
  obtain ⟨r, hr⟩ := unhide HT
  rw [hr]
  have HR := hide hr
  clear HT hr
  go_enter Try.func12, Try.ntmps12
  go_wp2_with (go_at_call 36; refine (unhide HG _).mono ?_; rintro e w1 ⟨rfl, hw1⟩; subst w1)
  go_loopw [6, 7] (fun u i wr => ∃ (p n : Nat) (L : List ByteArray), p ≤ s.size ∧ i = .int .i64 p ∧ L.length ≤ p ∧ s.size < n + p ∧ Hid (r = (cutF s short n p).map (L ++ ·)) ∧ Ot w.heap.size wr u L ∧ Below w.heap.size w wr) (fun _ i _ => s.size - (intOf i).toNat)
  case atStart =>
    refine ⟨0, s.size + 1, [], by omega, rfl, Nat.le_refl _, by omega, ?_, unhide H0, Below.refl _ _⟩
    rw [← unhide HR]
    show _ = Option.map (fun l => [] ++ l) _
    simp
  case round =>
    obtain ⟨p, n, L, hp, rfl, hL, hn, hC, hO, hB⟩ := hrel
    obtain ⟨a, cap, rfl⟩ := hO.opens
    have HO := hide hO
    have HB := hide hB
    have hwl := hB.size
    clear hO hB H0 HR
    by_cases hlt : p < s.size
    · obtain ⟨n, rfl⟩ : ∃ n', n = n' + 1 := ⟨n - 1, by omega⟩
      have ez : (s.extract p s.size).size ≤ 1048576 := by rw [ByteArray.size_extract]; omega
      cases hh : hdR (s.extract p s.size) short with
      | none =>
        have eC : Hid (cutF s short (n + 1) p = none) := by show cutF s short (n + 1) p = _; rw [cutF, if_pos hlt, hh]
        have hrn : Hid (r = none) := by show r = none; rw [unhide hC, unhide eC]; rfl
        have HD := hide (fun W => pah_bad (s.extract p s.size) short W ez hsh hh)
        clear eC hC hh
        go_wp2_with fail
        refine (unhide HD _).mono ?_
        rintro e w1 ⟨rfl, b1⟩
        have HB2 := hide ((unhide HB).trans (b1.mono hwl))
        clear b1 HB HO HD
        go_wp2
        go_ret2
        rw [unhide hrn]
        exact ⟨rfl, unhide HB2⟩
      | some x =>
        have eC : Hid (cutF s short (n + 1) p = (cutF s short n (p + x.q)).map (s.extract p (p + x.q) :: ·)) := by show cutF s short (n + 1) p = _; rw [cutF, if_pos hlt, hh]
        have hq := hdR_q hh
        rw [ByteArray.size_extract] at hq
        obtain ⟨t, et, hts⟩ : ∃ t, s.extract p (p + x.q) = t ∧ t.size = x.q := ⟨_, rfl, by rw [ByteArray.size_extract]; omega⟩
        have hrs : Hid (r = (cutF s short n (p + t.size)).map ((L ++ [t]) ++ ·)) := by
          show r = _
          rw [unhide hC, unhide eC, hts, et]
          cases cutF s short n (p + x.q) with
          | none => rfl
          | some M => simp
        have HD : Hid (∀ W, Calls Try.prog 32 #[.string (s.extract p s.size), .int .i64 short] W fun e w' => e = .returned (.tuple #[.string t, .bool true]) ∧ Below W.heap.size W w') := fun W => by
          have h9 := pah_ok (s.extract p s.size) short x W ez hsh hh
          rw [ex_ex s p 0 x.q (by omega) (Nat.zero_le _) hp, Nat.add_zero, et] at h9
          exact h9
        rw [← hts] at hq
        clear eC hC hh et hts
        go_wp2_with fail
        refine (unhide HD _).mono ?_
        rintro e w3 ⟨rfl, B3⟩
        have z3 := B3.size
        have HB3 := hide ((unhide HB).trans (B3.mono hwl))
        obtain ⟨HO3, hz3, hnew, hone⟩ := pushedS w.heap.size a cap L t w3 ((unhide HO).kept B3)
        have HBk := hide (fun (W : World) (hg : (w3.alloc (.cells #[.string t] 9)).grownBy W (Value.slice a L.length cap).ownBlock) => Ot.below (L := L) (unhide HO3) hg (by have := unhide hz3; omega))
        have HB4 := hide ((unhide HB3).alloc (by omega) (.cells #[.string t] 9))
        clear B3 HB HO HD HB3
        go_wp2_with (at_builtin; refine wpList_append_lies _ rfl _ _ 25 rfl w.heap.size 9 i0 (.string ⟨#[]⟩) 1 16 Try.underlying25 hi hz0 hz1 hz2 rfl (by decide) _ _ _ rfl (unhide HO3) ⟨w3.heap.size, 0, none⟩ 1 1 [.string t] rfl rfl (unhide hnew) (unhide hone) (by omega) ?c3 ?c4 ?c5 (w3.heap.size + 1) (unhide hz3) ?_)
        case c3 => unfold maxLen; omega
        case c4 => have := unhide hz3; omega
        case c5 => have := unhide hz3; omega
        intro g cap' w' hown hgrow hat hlt'
        have R1 : Hid (Ot w.heap.size w' (.slice (some ⟨g, 0, none⟩) (L.length + 1) cap') (L ++ [t])) := by
          show w'.ownsRow _ _ _ _ _ _
          rw [← sv_snoc, List.length_append]
          exact hown
        have R2 := hide ((unhide HB4).trans (unhide HBk w' hgrow))
        clear hown hgrow hat HO3 hnew hone HBk HB4
        go_wp2
        exact ⟨⟨p + t.size, n, L ++ [t], by omega, by go_num, by simp; omega, by omega, hrs, unhide R1, unhide R2⟩, by simp [intOf]; omega⟩
    · have hrn : Hid (r = some L) := by
        show r = some L
        rw [unhide hC]
        obtain ⟨n, rfl⟩ : ∃ n', n = n' + 1 := ⟨n - 1, by omega⟩
        rw [cutF, if_neg hlt]
        simp
      clear hC
      go_wp2
      go_ret2
      rw [unhide hrn]
      exact ⟨⟨_, rfl, unhide HO⟩, unhide HB⟩
end Go.Proofs.Ytbabipaipbjlbaa
