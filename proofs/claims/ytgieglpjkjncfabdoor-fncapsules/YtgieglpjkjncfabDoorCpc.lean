/-
  Contracts of the program: the cursor reads a capsule.
-/
import Derived.Test.YtgieglpjkjncfabDoorCpp
import Derived.Test.YtgieglpjkjncfabDoorCrs
namespace Go.Proofs.YtgieglpjkjncfabDoor.Rc
open Go.ChangeShapes Go.WideShapes Go.ChangeAt Go.RowKit Go.Deep
set_option linter.unusedVariables false
set_option maxRecDepth 100000

/-- the bytes of a text from a place on -/
def dr (s : ByteArray) (p : Nat) : List UInt8 := s.data.toList.drop p
theorem dr_len (s : ByteArray) (p : Nat) : (dr s p).length = s.size - p := by
  have : s.data.toList.length = s.size := by rw [Array.length_toList]; rfl
  unfold dr
  rw [List.length_drop, this]
theorem dr_drop (s : ByteArray) (p k : Nat) : (dr s p).drop k = dr s (p + k) := by unfold dr; rw [List.drop_drop]
theorem ext_dr (s : ByteArray) (p : Nat) : (s.extract p s.size).data.toList = dr s p := by
  unfold dr
  rw [ByteArray.data_extract, Array.toList_extract]
  have : s.data.toList.length = s.size := by rw [Array.length_toList]; rfl
  rw [List.extract_eq_take_drop, List.take_of_length_le (by rw [List.length_drop, this]; omega)]
theorem ext_txt (s : ByteArray) (p k n : Nat) : (⟨(((dr s p).drop k).take n).toArray⟩ : ByteArray) = s.extract (p + k) (p + k + n) := by
  apply ByteArray.ext
  apply Array.toList_inj.1
  rw [ByteArray.data_extract, Array.toList_extract, List.extract_eq_take_drop, show p + k + n - (p + k) = n by omega]
  unfold dr
  rw [List.drop_drop]
/-- what feeding answers -/
def FcP (base : Nat) (o : Option (List CapsuleD × Nat)) (e : Ending) (w' : World) : Prop := ∃ (a : Option Addr) (c : Nat), e = .returned (.tuple #[.slice a (o.getD ([], 0)).1.length c, .int .i64 ((o.getD ([], 0)).2 : Int), .bool o.isSome]) ∧ Ro capsuleK 30 base w' (.slice a (o.getD ([], 0)).1.length c) (o.getD ([], 0)).1
theorem FcP.no (base : Nat) (w' : World) : FcP base none (.returned (.tuple #[.slice none 0 0, .int .i64 0, .bool false])) w' := ⟨none, 0, rfl, Ro.nil _ _ _ _⟩
set_option maxHeartbeats 1000000 in
theorem num_ok (cb p : Nat) (y : Int × Nat) (s : ByteArray) (told : Int) (w : World) (hs : s.size ≤ 1048576) (hp : p ≤ s.size) (hy : tk (dr s p) = y) (h2 : ¬ y.2 = 0) (h : Cc w cb s p told) :
    Calls Tryd.prog 55 #[.pointer (some ⟨cb, 0, none⟩)] w fun e w' => e = .returned (.int .i64 y.1) ∧ Cc w' cb s (p + y.2) told ∧ Kx cb w w' := by
  have HT := hide (fun W => implTake_any (s.extract p s.size) W (by rw [ByteArray.size_extract]; unfold maxLen; omega))
  rw [ext_dr, hy] at HT
  have hq := (tk_in (dr s p)).2.2
  rw [hy, dr_len] at hq
  have c0 := h.c0
  have c1 := h.c1
  have HH := hide h
  clear h hy
  have z0 : (0 : Int) ≤ (p : Int) := by omega
  have z1 : (p : Int) ≤ (s.size : Int) := by omega
  have hx2 : ((y.2 : Int) == 0) = false := by simpa using h2
  go_enter Tryd.func55, Tryd.ntmps55
  go_wp2_with fail
  go_region_with (go_at_call 65; refine (unhide HT _).mono ?_; rintro e w1 ⟨rfl, rfl⟩)
  all_goals
    have H1 := (unhide HH).below ((Below.refl _ _).drew)
    have K1 : Kx cb w w.drew := Kx.of ((Below.refl _ _).drew)
    have d1 := H1.c1
    have f1 := H1.fz 1
    clear HH c0 c1 HT
    go_wp2
    go_ret
    exact ⟨rfl, H1.put (q := p + y.2), K1.set 1 _⟩
set_option maxHeartbeats 1000000 in
theorem num_bad (cb p : Nat) (s : ByteArray) (told : Int) (w : World) (hs : s.size ≤ 1048576) (hp : p ≤ s.size) (h2 : (tk (dr s p)).2 = 0) (h : Cc w cb s p told) :
    Calls Tryd.prog 55 #[.pointer (some ⟨cb, 0, none⟩)] w fun e w' => e = gives 1 ∧ Kx cb w w' := by
  have HT := hide (fun W => implTake_any (s.extract p s.size) W (by rw [ByteArray.size_extract]; unfold maxLen; omega))
  rw [ext_dr, h2] at HT
  generalize tk (dr s p) = x at *
  have c0 := h.c0
  have c1 := h.c1
  clear h h2
  have z0 : (0 : Int) ≤ (p : Int) := by omega
  have z1 : (p : Int) ≤ (s.size : Int) := by omega
  go_enter Tryd.func55, Tryd.ntmps55
  go_wp2_with fail
  go_region_with (go_at_call 65; refine (unhide HT _).mono ?_; rintro e w1 ⟨rfl, rfl⟩)
  all_goals
    go_wp2_with fail
    exact ⟨rfl, rfl, Kx.of ((Below.refl _ _).drew)⟩
theorem up_ok (cb p : Nat) (most : Int) (y : Int × Nat) (s : ByteArray) (told : Int) (w : World) (hs : s.size ≤ 1048576) (hp : p ≤ s.size) (hy : tk (dr s p) = y) (h2 : ¬ y.2 = 0) (h3 : ¬ most < y.1) (h : Cc w cb s p told) :
    Calls Tryd.prog 54 #[.pointer (some ⟨cb, 0, none⟩), .int .i64 most] w fun e w' => e = .returned (.int .i64 y.1) ∧ Cc w' cb s (p + y.2) told ∧ Kx cb w w' := by
  have HN := hide (num_ok cb p y s told w hs hp hy h2 h)
  clear h h2 hy
  go_enter Tryd.func54, Tryd.ntmps54
  go_wp2_with (go_at_call 55; refine (unhide HN).mono ?_; rintro e w1 ⟨rfl, h1, k1⟩)
  go_ret
  exact ⟨rfl, h1, k1⟩
theorem up_lack (cb p : Nat) (most : Int) (s : ByteArray) (told : Int) (w : World) (hs : s.size ≤ 1048576) (hp : p ≤ s.size) (h2 : (tk (dr s p)).2 = 0) (h : Cc w cb s p told) :
    Calls Tryd.prog 54 #[.pointer (some ⟨cb, 0, none⟩), .int .i64 most] w fun e w' => e = gives 1 ∧ Kx cb w w' := by
  have HN := hide (num_bad cb p s told w hs hp h2 h)
  clear h h2
  go_enter Tryd.func54, Tryd.ntmps54
  go_wp2_with (go_at_call 55; refine (unhide HN).mono ?_; rintro e w1 ⟨rfl, k1⟩)
  exact ⟨rfl, rfl, k1⟩
theorem up_form (cb p : Nat) (most : Int) (y : Int × Nat) (s : ByteArray) (told : Int) (w : World) (hs : s.size ≤ 1048576) (hp : p ≤ s.size) (hy : tk (dr s p) = y) (h2 : ¬ y.2 = 0) (h3 : most < y.1) (h : Cc w cb s p told) :
    Calls Tryd.prog 54 #[.pointer (some ⟨cb, 0, none⟩), .int .i64 most] w fun e w' => e = gives 3 ∧ Kx cb w w' := by
  have HN := hide (num_ok cb p y s told w hs hp hy h2 h)
  clear h h2 hy
  go_enter Tryd.func54, Tryd.ntmps54
  go_wp2_with (go_at_call 55; refine (unhide HN).mono ?_; rintro e w1 ⟨rfl, h1, k1⟩)
  exact ⟨rfl, rfl, k1⟩
/-- the cursor is kept, and all but its block, where another block is written -/
theorem _root_.Go.Proofs.YtgieglpjkjncfabDoor.Cc.kept16 {w : World} {cb p g : Nat} {s : ByteArray} {told : Int} (h : Cc w cb s p told) (hg : cb ≠ g) (u : Value) (i : Nat) : Cc (w.setCell ⟨g, i, none⟩ u) cb s p told := by
  have hb : (w.setCell ⟨g, i, none⟩ u).heap[cb]? = w.heap[cb]? := Below.heap_setCell w ⟨g, i, none⟩ u cb hg
  exact ⟨by simpa using h.lt, (World.cell?_of_block (a := ⟨cb, 0, none⟩) hb).trans h.c0, (World.cell?_of_block (a := ⟨cb, 1, none⟩) hb).trans h.c1, (World.cell?_of_block (a := ⟨cb, 2, none⟩) hb).trans h.c2, fun o => (World.frozen?_of_block (a := ⟨cb, o, none⟩) hb).trans (h.fz o)⟩
theorem _root_.Go.Proofs.YtgieglpjkjncfabDoor.Kx.new16 {w w' : World} {cb g : Nat} (h : Kx cb w w') (hg : w.heap.size ≤ g) (u : Value) (i : Nat) : Kx cb w (w'.setCell ⟨g, i, none⟩ u) :=
  ⟨h.os, h.tape, h.output, by simpa using h.size, fun q hq hn => (Below.heap_setCell w' ⟨g, i, none⟩ u q (by show q ≠ g; omega)).trans (h.block q hq hn)⟩
/-- what reading a capsule comes to -/
def CpP (cb p : Nat) (s : ByteArray) (told : Int) (w : World) (o : Option (Option (CapsuleD × Nat))) (e : Ending) (w' : World) : Prop := match o with
  | none => e = gives 3 ∧ Kx cb w w'
  | some none => e = gives 1 ∧ Kx cb w w'
  | some (some (D, n)) => e = .returned (capsuleV D) ∧ Cc w' cb s (p + n) told ∧ Kx cb w w'
set_option maxHeartbeats 2000000 in
theorem implCap (cb p : Nat) (s : ByteArray) (told : Int) (w : World) (hs : s.size ≤ 1048576) (hp : p ≤ s.size) (h : Cc w cb s p told) :
    Calls Tryd.prog 63 #[.pointer (some ⟨cb, 0, none⟩)] w (CpP cb p s told w (rd1 (dr s p))) := by
  obtain ⟨V, hV⟩ : ∃ V, V = w.alloc (.cells #[.int .i64 0, .string ⟨#[]⟩] 30) := ⟨_, rfl⟩
  have hA : Below w.heap.size w V := by rw [hV]; exact (Below.refl _ _).alloc (Nat.le_refl _) _
  have hbx : Bx V w.heap.size [.int .i64 0, .string ⟨#[]⟩] := by rw [hV]; exact Bx.new w _ _
  have hcb : cb < w.heap.size := h.lt
  have HC := hide (h.below hA)
  have HV := hide hV
  have HA := hide (Kx.of (cb := cb) hA)
  clear hV
  unfold rd1
  by_cases h1 : (tk (dr s p)).2 = 0
  · rw [if_pos h1]
    have HN := hide (fun W (hW : Cc W cb s p told) => num_bad cb p s told W hs hp h1 hW)
    clear h1
    go_enter Tryd.func63, Tryd.ntmps63
    go_wp2_with fail
    rw [← unhide HV]
    refine (unhide HN _ (unhide HC)).mono ?_
    rintro e w1 ⟨rfl, k1⟩
    go_wp2_with fail
    exact ⟨rfl, rfl, (unhide HA).trans k1⟩
  rw [if_neg h1]
  have i1 := tk_in (dr s p)
  rw [dr_len] at i1
  rw [dr_drop]
  obtain ⟨y, hy⟩ : ∃ y, tk (dr s p) = y := ⟨_, rfl⟩
  have HN := hide (fun W (hW : Cc W cb s p told) => num_ok cb p y s told W hs hp hy (by rw [← hy]; exact h1) hW)
  rw [hy] at h1 i1 ⊢
  have i2 := tk_in (dr s (p + y.2))
  rw [dr_len] at i2
  obtain ⟨x, hx⟩ : ∃ x, tk (dr s (p + y.2)) = x := ⟨_, rfl⟩
  rw [hx] at i2 ⊢
  have HB := hide (fun (V1 : World) (hk : Kx cb V V1) => show Bx V1 w.heap.size [.int .i64 0, .string ⟨#[]⟩] from hbx.kept hk.size (hk.block _ hbx.lt (by omega)))
  clear hbx hy
  unfold rdB
  by_cases h2 : x.2 = 0
  · rw [if_pos h2]
    have HM := hide (fun W (hW : Cc W cb s (p + y.2) told) => up_lack cb (p + y.2) 200 s told W hs (by omega) (by rw [hx]; exact h2) hW)
    clear hx h2
    go_enter Tryd.func63, Tryd.ntmps63
    go_wp2_with fail
    rw [← unhide HV]
    refine (unhide HN _ (unhide HC)).mono ?_
    rintro e w1 ⟨rfl, c1, k1⟩
    go_wp2_with fail
    refine (unhide HM _ c1).mono ?_
    rintro e w2 ⟨rfl, k2⟩
    go_wp2_with fail
    exact ⟨rfl, rfl, ((unhide HA).trans k1).trans k2⟩
  rw [if_neg h2]
  by_cases h3 : 200 < x.1
  · rw [if_pos h3]
    have HM := hide (fun W (hW : Cc W cb s (p + y.2) told) => up_form cb (p + y.2) 200 x s told W hs (by omega) hx h2 h3 hW)
    clear hx h2 h3
    go_enter Tryd.func63, Tryd.ntmps63
    go_wp2_with fail
    rw [← unhide HV]
    refine (unhide HN _ (unhide HC)).mono ?_
    rintro e w1 ⟨rfl, c1, k1⟩
    go_wp2_with fail
    refine (unhide HM _ c1).mono ?_
    rintro e w2 ⟨rfl, k2⟩
    go_wp2_with fail
    exact ⟨rfl, rfl, ((unhide HA).trans k1).trans k2⟩
  rw [if_neg h3]
  have HM := hide (fun W (hW : Cc W cb s (p + y.2) told) => up_ok cb (p + y.2) 200 x s told W hs (by omega) hx h2 h3 hW)
  clear hx h2
  by_cases h4 : ((dr s p).length : Int) - ((y.2 + x.2 : Nat) : Int) < x.1
  · rw [if_pos h4]
    rw [dr_len] at h4
    have HT := hide (fun W (hW : Cc W cb s (p + y.2 + x.2) told) => take_short cb (p + y.2 + x.2) x.1 s told W hs (by omega) (by omega) hW)
    clear h4
    go_enter Tryd.func63, Tryd.ntmps63
    go_wp2_with fail
    rw [← unhide HV]
    refine (unhide HN _ (unhide HC)).mono ?_
    rintro e w1 ⟨rfl, c1, k1⟩
    go_wp2_with fail
    refine (unhide HM _ c1).mono ?_
    rintro e w2 ⟨rfl, c2, k2⟩
    go_wp2_with fail
    refine (unhide HT _ c2).mono ?_
    rintro e w3 ⟨rfl, k3⟩
    go_wp2_with fail
    exact ⟨rfl, rfl, (((unhide HA).trans k1).trans k2).trans (Kx.of k3)⟩
  rw [if_neg h4]
  rw [dr_len] at h4
  obtain ⟨n, hn⟩ := Int.eq_ofNat_of_zero_le i2.1
  have HE := hide (ext_txt s p (y.2 + x.2) n)
  rw [hn] at HM h3 h4 ⊢
  rw [Int.toNat_natCast, unhide HE]
  have HT := hide (fun W (hW : Cc W cb s (p + y.2 + x.2) told) => take_ok cb (p + y.2 + x.2) n s told W hs (by omega) hW)
  rw [Nat.add_assoc p y.2 x.2] at HT
  rw [Nat.add_assoc p y.2 x.2] at HM
  have E := hide (show p + (y.2 + x.2) + n = p + (y.2 + x.2 + n) by omega)
  clear h4 h3 HE hn i2 h1
  go_enter Tryd.func63, Tryd.ntmps63
  go_wp2_with fail
  rw [← unhide HV]
  refine (unhide HN _ (unhide HC)).mono ?_
  rintro e w1 ⟨rfl, c1, k1⟩
  have HK1 := hide k1
  clear k1 HN HC HV
  go_wp2_with fail
  refine (unhide HM _ c1).mono ?_
  rintro e w2 ⟨rfl, c2, k2⟩
  have HK2 := hide ((unhide HK1).trans k2)
  clear k2 c1 HM HK1
  go_wp2_with fail
  refine (unhide HT _ c2).mono ?_
  rintro e w3 ⟨rfl, c3, k3⟩
  have HK3 := hide ((unhide HK2).trans k3)
  have b3 := unhide HB _ (unhide HK3)
  have HC3 := hide c3
  clear k3 c2 c3 HT HK2 HB
  have p0 := b3.cv 0
  have p1 := b3.cv 1
  have f0 := b3.fz 0
  have f1 := b3.fz 1
  have pl := b3.lt
  have HQ := hide ((unhide HA).trans (unhide HK3))
  generalize s.extract (p + (y.2 + x.2)) (p + (y.2 + x.2) + n) = d at *
  have HF := hide (show ∀ w', Kx cb w w' → Cc w' cb s (p + (y.2 + x.2) + n) told → CpP cb p s told w (some (some (⟨y.1, d⟩, y.2 + x.2 + n))) (.returned (capsuleV ⟨y.1, d⟩)) w' from fun w' k c => ⟨rfl, by rw [← unhide E]; exact c, k⟩)
  have HC4 := hide (show ∀ u0 u1, Cc ((w3.setCell ⟨w.heap.size, 0, none⟩ u0).setCell ⟨w.heap.size, 1, none⟩ u1) cb s (p + (y.2 + x.2) + n) told from fun u0 u1 => ((unhide HC3).kept16 (by omega) u0 0).kept16 (by omega) u1 1)
  have HQ4 := hide (show ∀ u0 u1, Kx cb w ((w3.setCell ⟨w.heap.size, 0, none⟩ u0).setCell ⟨w.heap.size, 1, none⟩ u1) from fun u0 u1 => ((unhide HQ).new16 (Nat.le_refl _) u0 0).new16 (Nat.le_refl _) u1 1)
  clear HC3 HQ HK3 HA b3 E hcb hp hs hA
  go_wp2_with fail
  refine bodyPost_ret (v := capsuleV ⟨y.1, d⟩) (by simp [results, Tryd.results63, go_sem, p0, p1]) rfl ?_
  exact unhide HF _ (unhide HQ4 _ _) (unhide HC4 _ _)
end Go.Proofs.YtgieglpjkjncfabDoor.Rc
