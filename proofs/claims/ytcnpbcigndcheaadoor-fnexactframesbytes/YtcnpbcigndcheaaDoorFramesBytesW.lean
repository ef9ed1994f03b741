/-
  The law on FramesBytes, walked.
-/
import Derived.Test.YtcnpbcigndcheaaDoorFsi
import Derived.Test.YtcnpbcigndcheaaDoorFby
import Derived.Deep.Slices
namespace Go.Proofs.YtcnpbcigndcheaaDoor
open Go.ChangeShapes Go.WideShapes Go.ChangeAt Go.RowKit
set_option linter.unusedVariables false
/-- both sides answer one text and one word -/
theorem fs_both (N : Nat) (G : Nat → FrD) (hN : N ≤ 1048576) (hG : ∀ i, i < N → (G i).s.size ≤ 1048576 ∧ (G i).n ≤ 1048576) : ∃ (B : ByteArray) (r : Bool),
    (∀ (b off cap : Nat) (w : World), Fs w b off N G → Calls Tryd.prog 5 #[.slice (some ⟨b, off, none⟩) N cap] w fun e w' => e = .returned (.tuple #[.string B, .bool r]) ∧ Below w.heap.size w w') ∧
    (∀ (b off cap : Nat) (w : World), Fs w b off N G → Tz w → Calls Tryd.prog 7 #[.slice (some ⟨b, off, none⟩) N cap] w fun e w' => e = .returned (.tuple #[.string B, .bool r]) ∧ Below w.heap.size w w') := by
  by_cases h40 : 40 < N
  · exact ⟨_, _, fun b off cap w _ => specFs_many b off N cap w h40 hN, fun b off cap w _ _ => implFs_many b off N cap w h40 hN⟩
  obtain ⟨m, hm, hg, hb⟩ := first_bad (fun i => gfD (G i)) N
  have each : ∀ i, i < m → ∃ L, FB (G i).k (G i).a (G i).b (G i).c (G i).fin (G i).s (G i).n (G i).F (G i).T L := fun i hi => frame_bytes _ _ _ _ _ _ _ _ _ (hg i hi)
  obtain ⟨L0, hL0⟩ := Go.Deep.choose_lt each
  let Ls : Nat → List UInt8 := fun i => if i < m then L0 i else []
  have e : ∀ i, i < m → Ls i = L0 i := fun i hi => if_pos hi
  have hL : ∀ i, (Ls i).length ≤ 1000 := by
    intro i
    by_cases hi : i < m
    · rw [e i hi]; exact (hL0 i hi).le
    · rw [show Ls i = [] from if_neg hi]; simp
  refine ⟨fsB Ls m N, fsR Ls m N, fun b off cap w h => specFs b off N cap m G Ls w (by omega) hG h hm hg hb hL ?_, fun b off cap w h htz => implFs b off N cap m G Ls w (by omega) hG h hm htz hg hb hL ?_⟩
  · intro i hi
    rw [e i hi]
    exact (hL0 i hi).spec
  · intro i hi
    rw [e i hi]
    exact (hL0 i hi).impl
end Go.Proofs.YtcnpbcigndcheaaDoor
namespace Go.Proofs.YtcnpbcigndcheaaDoor.fnExactFramesBytes
open Go.ChangeShapes Go.WideShapes Go.ChangeAt Go.RowKit
theorem each_le {N : Nat} {G : Nat → FrD} (h : N + sumG G N ≤ 1048576) (i : Nat) (hi : i < N) : (G i).s.size ≤ 1048576 ∧ (G i).n ≤ 1048576 := by
  have h1 := sumG_mono G (show i + 1 ≤ N from hi)
  have h2 : sumG G (i + 1) = sumG G i + ((G i).s.size + (G i).n) := rfl
  omega

set_option maxHeartbeats 2000000 in
theorem walk_small (a : Option Addr) (N cap : Nat) (G : Nat → FrD) (w : World) (hN : N ≤ maxLen) (hG : ∀ i, i < N → (G i).s.size ≤ maxLen ∧ (G i).n ≤ maxLen) (h : Fa w a N G) (htz : Tz w) (hl : N + sumG G N ≤ 1048576) :
    Calls Tryd.prog 3 #[.slice a N cap] w fun e w' => e = .returned (.bool true) ∧ Below w.heap.size w w' := by
  have HZ := hide (fun w h => szFrameS_any a N cap G w (by unfold maxLen at hN; omega) hG h)
  rw [show szR G N = 1048576 - (N : Int) - (sumG G N : Int) from if_neg (by omega)] at HZ
  have hn2 : N ≤ 1048576 := by omega
  have hg2 := each_le hl
  have HG := hide (fun i hi => (hg2 i hi).2)
  have HR := hide h
  have HT := hide htz
  obtain ⟨B, r, hsp, him⟩ := fs_both N G hn2 hg2
  have HS := hide hsp
  have HI := hide him
  clear hN hG h htz hsp him hg2
  go_enter Tryd.func3, Tryd.ntmps3
  go_wp2_with fail
  refine (unhide HZ _ (unhide HR)).mono ?_
  rintro e w1 ⟨rfl, hb1⟩
  go_wp2_with fail
  refine (toFrameS_any a N cap G _ hn2 (unhide HG) ((unhide HR).below hb1)).mono ?_
  rintro e w2 ⟨rfl, hm2⟩
  have B2 := hb1.trans (hm2.bel.mono hb1.size)
  have F2 := hide hm2.fs
  clear hm2
  go_wp2_with fail
  refine (unhide HS _ 0 N _ (unhide F2)).mono ?_
  rintro e w3 ⟨rfl, hb3⟩
  have B3 := B2.trans (hb3.mono B2.size)
  clear hb1 hb3 B2 F2
  go_wp2_with fail
  refine (toFrameS_any a N cap G _ hn2 (unhide HG) ((unhide HR).below B3)).mono ?_
  rintro e w4 ⟨rfl, hm4⟩
  have B4 := B3.trans (hm4.bel.mono B3.size)
  have F4 := hide hm4.fs
  clear hm4
  go_wp2_with fail
  refine (unhide HI _ 0 N _ (unhide F4) ((unhide HT).keep B4)).mono ?_
  rintro e w5 ⟨rfl, hb5⟩
  have B5 := B4.trans (hb5.mono B4.size)
  have F5 := hide ((unhide F4).below hb5)
  clear hb5 B4 F4
  go_wp2_with fail
  refine (toFrameS_any a N cap G _ hn2 (unhide HG) ((unhide HR).below B5)).mono ?_
  rintro e w6 ⟨rfl, hm6⟩
  have B6 := B5.trans (hm6.bel.mono B5.size)
  have F6 := hide ((unhide F5).below hm6.bel)
  have D6 := hide hm6.fs
  clear hm6 B5 F5
  go_wp2_with fail
  refine (eqFrameS_same _ 0 N _ _ 0 _ G _ hn2 (unhide HG) (unhide F6) (unhide D6)).mono ?_
  rintro e w7 ⟨rfl, hb7⟩
  go_wp2
  go_ret
  exact ⟨rfl, B6.trans (hb7.mono B6.size)⟩

theorem walk_big (a : Option Addr) (N cap : Nat) (G : Nat → FrD) (w : World) (hN : N ≤ maxLen) (hG : ∀ i, i < N → (G i).s.size ≤ maxLen ∧ (G i).n ≤ maxLen) (h : Fa w a N G) (hl : 1048576 < N + sumG G N) :
    Calls Tryd.prog 3 #[.slice a N cap] w fun e w' => e = .returned (.bool true) ∧ Below w.heap.size w w' := by
  have HZ := hide (fun w h => szFrameS_any a N cap G w (by unfold maxLen at hN; omega) hG h)
  rw [show szR G N = -1 from if_pos (by omega)] at HZ
  have HR := hide h
  clear hN hG h hl
  go_enter Tryd.func3, Tryd.ntmps3
  go_wp2_with fail
  refine (unhide HZ _ (unhide HR)).mono ?_
  rintro e w1 ⟨rfl, hb1⟩
  go_wp2
  go_ret
  exact ⟨rfl, hb1⟩

theorem walk (a : Option Addr) (N cap : Nat) (G : Nat → FrD) (w : World) (hN : N ≤ maxLen) (hG : ∀ i, i < N → (G i).s.size ≤ maxLen ∧ (G i).n ≤ maxLen) (h : Fa w a N G) (htz : Tz w) :
    Calls Tryd.prog 3 #[.slice a N cap] w fun e w' => e = .returned (.bool true) ∧ Below w.heap.size w w' := by
  by_cases hl : 1048576 < N + sumG G N
  · exact walk_big a N cap G w hN hG h hl
  · exact walk_small a N cap G w hN hG h htz (by omega)
end Go.Proofs.YtcnpbcigndcheaaDoor.fnExactFramesBytes
