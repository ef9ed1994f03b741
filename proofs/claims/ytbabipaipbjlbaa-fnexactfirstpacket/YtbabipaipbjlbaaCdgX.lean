/-
  Contract: CutDatagram, as the program makes it. Contract: the packet at the front of a text, as the program makes it.
-/
import Derived.Test.YtbabipaipbjlbaaRdh
namespace Go.Proofs.Ytbabipaipbjlbaa
open Go.ChangeShapes Go.WideShapes Go.ChangeAt Go.RowKit
set_option linter.unusedVariables false
set_option maxRecDepth 100000

theorem takeT_ge {s : ByteArray} {p : Nat} {c n : Int} : p ≤ (takeT s p c n).p := by
  unfold takeT
  split
  · exact Nat.le_refl _
  · split
    · exact Nat.le_refl _
    · exact Nat.le_add_right _ _
theorem idT_ge {s : ByteArray} {p : Nat} {c : Int} : p ≤ (idT s p c).p := by unfold idT; exact Nat.le_trans takeT_ge takeT_ge
theorem textT_ge {s : ByteArray} {p : Nat} {c : Int} : p ≤ (textT s p c).p := by unfold textT; exact Nat.le_trans (Nat.le_add_right _ _) takeT_ge
theorem hdR_q {s : ByteArray} {short : Nat} {x : HR} (h : hdR s short = some x) : 1 ≤ x.q ∧ x.q ≤ s.size := by
  unfold hdR at h
  by_cases h0 : s.size = 0
  · rw [if_pos h0] at h; cases h
  rw [if_neg h0] at h
  split at h
  · cases h
  split at h
  · split at h
    · injection h with h; subst h; exact ⟨by show 1 ≤ s.size; omega, Nat.le_refl _⟩
    · cases h
  split at h
  · cases h
  rename_i h5
  have p1 : (idT s 5 0).p ≤ s.size := idT_pl (by omega)
  have g1 : 5 ≤ (idT s 5 0).p := idT_ge
  generalize idT s 5 0 = a at *
  have p2 : (idT s a.p 0).p ≤ s.size := idT_pl p1
  have g2 : a.p ≤ (idT s a.p 0).p := idT_ge
  generalize idT s a.p 0 = b at *
  split at h
  · cases h
  have p3 : (textT s b.p 0).p ≤ s.size := textT_pl p2
  have g3 : b.p ≤ (textT s b.p 0).p := textT_ge
  generalize textT s b.p 0 = t at *
  have p4 : (textT s t.p 0).p ≤ s.size := textT_pl p3
  have g4 : t.p ≤ (textT s t.p 0).p := textT_ge
  generalize textT s t.p 0 = z at *
  split at h
  · split at h
    · injection h with h; subst h; exact ⟨by show 1 ≤ s.size; omega, Nat.le_refl _⟩
    · cases h
  split at h
  · split at h
    · injection h with h; subst h; exact ⟨by show 1 ≤ z.p; omega, p4⟩
    · cases h
  split at h
  · split at h
    · injection h with h; subst h; exact ⟨by show 1 ≤ s.size; omega, Nat.le_refl _⟩
    · cases h
  split at h
  · injection h with h; subst h; exact ⟨by show 1 ≤ t.p; omega, p3⟩
  · cases h

/-- the packets of a datagram from a place on -/
def cutF (s : ByteArray) (short : Nat) : Nat → Nat → Option (List ByteArray)
  | 0, _ => some []
  | n + 1, p => if p < s.size then (match hdR (s.extract p s.size) short with | none => none | some x => (cutF s short n (p + x.q)).map (s.extract p (p + x.q) :: ·)) else some []

/-- texts as values -/
def sv (L : List ByteArray) : List Value := L.map .string
theorem sv_snoc (L : List ByteArray) (t : ByteArray) : sv L ++ [.string t] = sv (L ++ [t]) := by simp [sv]
/-- a row of texts of the call's own -/
def Ot (base : Nat) (w : World) (v : Value) (L : List ByteArray) : Prop := w.ownsRow base 9 1 v L.length (sv L)
theorem Ot.below {base : Nat} {w w' : World} {v : Value} {L : List ByteArray} (h : Ot base w v L) (hg : w.grownBy w' v.ownBlock) (hb : base ≤ w.heap.size) : Below base w w' :=
  ⟨hg.os, hg.tape, hg.output, hg.size, fun k hk => hg.block k (by omega) (fun e => by have := (World.ownsRow.lt (w := w) h k e.symm).1; omega)⟩
theorem Ot.kept {base : Nat} {w w' : World} {v : Value} {L : List ByteArray} (h : Ot base w v L) (hb : Below w.heap.size w w') : Ot base w' v L := by
  refine ⟨h.1, ?_⟩
  rcases h.2 with hn | ⟨g, cap, cur, rfl, hg, hgg, rest⟩
  · exact .inl hn
  · refine .inr ⟨g, cap, cur, rfl, hg, ?_, rest⟩
    rw [hb.block g (Array.getElem?_eq_some_iff.1 hgg).1]
    exact hgg
theorem Ot.nil (base : Nat) (w : World) : Ot base w (.slice none 0 0) [] := World.ownsRow_nil _ _ _ _
theorem Ot.opens {base : Nat} {w : World} {v : Value} {L : List ByteArray} (h : Ot base w v L) : ∃ a cap, v = .slice a L.length cap := by
  rcases h.2 with ⟨rfl, e⟩ | ⟨g, cap, cur, rfl, _⟩
  · exact ⟨none, 0, by rw [e]⟩
  · exact ⟨_, _, rfl⟩
theorem infoStr : (Try.prog.info? 9).map (fun i => (i.zero, i.size, i.bytes)) = some (some (.string ⟨#[]⟩), 1, 16) := by kernel_rfl
theorem infoStr_parts : ∃ i0, Try.prog.info? 9 = some i0 ∧ i0.zero = some (.string ⟨#[]⟩) ∧ i0.size = 1 ∧ i0.bytes = 16 := by
  have h := infoStr
  cases e : Try.prog.info? 9 with
  | none => rw [e] at h; cases h
  | some i0 => rw [e] at h; simp at h; exact ⟨i0, rfl, h.1, h.2.1, h.2.2⟩
theorem ex_ex (s : ByteArray) (p i j : Nat) (h : j ≤ s.size - p) (hij : i ≤ j) (hp : p ≤ s.size) : (s.extract p s.size).extract i j = s.extract (p + i) (p + j) := by
  apply ByteArray.ext
  simp only [ByteArray.data_extract, Array.extract_extract]
  congr 1
  have : s.data.size = s.size := rfl
  omega
end Go.Proofs.Ytbabipaipbjlbaa
namespace Go.Proofs.Ytbabipaipbjlbaa
open Go.ChangeShapes Go.WideShapes Go.ChangeAt Go.RowKit
set_option linter.unusedVariables false
set_option maxRecDepth 100000

set_option maxHeartbeats 2000000 in
theorem pah_bad (s : ByteArray) (short : Nat) (w : World) (hs : s.size ≤ 1048576) (hsh : short ≤ 20) (hR : hdR s short = none) :
    Calls Try.prog 32 #[.string s, .int .i64 short] w fun e w' => e = .returned (.tuple #[.string sE, .bool false]) ∧ Below w.heap.size w w' := by
  have HD := hide (fun W => rdh_bad s short W hs hsh hR)
  clear hR
  go_enter Try.func32, Try.ntmps32
  go_wp2_with fail
  refine (unhide HD _).mono ?_
  rintro e w1 ⟨c, hc, rfl, b1⟩
  have hc0 : (c == 0) = false := by rcases hc with rfl | rfl | rfl <;> rfl
  have HB2 := hide (b1.alloc b1.size (.cells #[.int .i64 0, .int .i64 0, .int .i64 0, .string sE, .string sE, .string sE, .string sE, nilS] 49))
  clear hc b1 HD
  go_wp2
  go_ret2
  exact ⟨rfl, unhide HB2⟩
set_option maxHeartbeats 2000000 in
theorem pah_ok (s : ByteArray) (short : Nat) (x : HR) (w : World) (hs : s.size ≤ 1048576) (hsh : short ≤ 20) (hR : hdR s short = some x) :
    Calls Try.prog 32 #[.string s, .int .i64 short] w fun e w' => e = .returned (.tuple #[.string (s.extract 0 x.q), .bool true]) ∧ Below w.heap.size w w' := by
  have hq := hdR_q hR
  have HD := hide (fun W => rdh_ok s short x W hs hsh hR)
  have HE := hide (fun W => clone_text (s.extract 0 x.q) W (by rw [ByteArray.size_extract]; omega))
  clear hR
  go_enter Try.func32, Try.ntmps32
  go_wp2_with (go_at_call 18; refine (unhide HD _).mono ?_; rintro e w1 ⟨ra, rc, rfl, o1, b1⟩; clear o1)
  refine (unhide HE _).mono ?_
  rintro e w3 ⟨rfl, b3⟩
  have B3 := hide (show Below w.heap.size w w3 from (b1.alloc b1.size _).trans (b3.mono (by have := b1.size; simp; omega)))
  clear b1 b3 HD HE
  go_wp2
  go_ret2
  exact ⟨rfl, unhide B3⟩
end Go.Proofs.Ytbabipaipbjlbaa
