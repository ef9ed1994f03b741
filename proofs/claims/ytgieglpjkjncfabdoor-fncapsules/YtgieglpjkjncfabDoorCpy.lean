/-
  Contracts of the program: what takes one piece behind the other.
-/
import Derived.Test.YtgieglpjkjncfabDoorCpx
namespace Go.Proofs.YtgieglpjkjncfabDoor.Rc
open Go.ChangeShapes Go.WideShapes Go.ChangeAt Go.RowKit Go.Deep
set_option linter.unusedVariables false
set_option maxRecDepth 100000

/-- what taking a piece comes to -/
def TkP (bl bk cnt : Nat) (T : ByteArray) (w : World) (r : List CapsuleD × Nat × Bool) (e : Ending) (w' : World) : Prop :=
  ∃ (a : Option Addr) (c : Nat), e = .returned (.tuple #[.slice a r.1.length c, .int .i64 ((T.size : Int) - (r.2.1 : Int)), .bool (r.2.2 && decide ((cnt : Int) + (r.1.length : Int) ≤ 30))])
    ∧ Ro capsuleK 30 w.heap.size w' (.slice a r.1.length c) r.1 ∧ Bx w' bl [.string (T.extract r.2.1 T.size)] ∧ Bx w' bk [.int .i64 ((cnt + r.1.length : Nat) : Int)] ∧ Kq (fun q => q = bl ∨ q = bk) w w'
theorem below_kq {P : Nat → Prop} {w V w' : World} (h : Kq P w V) (b : Below V.heap.size V w') : Kq P w w' := h.trans (Kq.of b)
set_option maxHeartbeats 4000000 in
theorem implTk (bl bk cnt : Nat) (left piece : ByteArray) (w : World) (hs : left.size + piece.size ≤ 1048576) (hc : cnt ≤ 1048576) (hne : bl ≠ bk) (h1 : Bx w bl [.string left]) (h2 : Bx w bk [.int .i64 (cnt : Int)]) :
    Calls Tryd.prog 47 #[.string piece, .pointer (some ⟨bl, 0, none⟩), .pointer (some ⟨bk, 0, none⟩)] w (TkP bl bk cnt (left ++ piece) w (wh (left ++ piece).data.toList)) := by
  have hsz : (left ++ piece).size ≤ 1048576 := by rw [ByteArray.size_append]; exact hs
  obtain ⟨T, hT⟩ : ∃ T, left ++ piece = T := ⟨_, rfl⟩
  have HT := hide hT
  rw [hT] at hsz ⊢
  clear hT
  obtain ⟨V, hV⟩ : ∃ V, V = w.setCell ⟨bl, 0, none⟩ (.string T) := ⟨_, rfl⟩
  have hVs : V.heap.size = w.heap.size := by rw [hV]; simp
  have b1 : Bx V bl [.string T] := by rw [hV]; exact h1.set (i := 0) (by simp)
  have b2 : Bx V bk [.int .i64 (cnt : Int)] := by rw [hV]; exact h2.other (by omega)
  have k0 : Kq (fun q => q = bl ∨ q = bk) w V := by rw [hV]; exact (Kq.refl _ _).set (Or.inl rfl)
  have HV := hide hV
  have HVS := hide hVs
  have HB1 := hide b1
  have HB2 := hide b2
  have HK0 := hide k0
  clear hV b1 b2 k0 hVs
  have hl1 := h1.lt
  have hl2 := h2.lt
  have x1 := h1.cv
  have x1l := h1.lt
  have x1f := h1.fz
  have hle := wh_le T.data.toList
  rw [show T.data.toList.length = T.size by rw [Array.length_toList]; rfl] at hle
  have hfew := wh_few T.data.toList
  have HW := hide (implWC T V hsz)
  obtain ⟨⟨L, n, ok⟩, hr⟩ : ∃ r, wh T.data.toList = r := ⟨_, rfl⟩
  rw [hr] at hle hfew HW ⊢
  dsimp only at hle hfew
  clear hr h1 h2
  go_enter Tryd.func47, Tryd.ntmps47
  go_wp2_with fail
  rw [unhide HT, ← unhide HV]
  have y1 := (unhide HB1).cv
  have y1l := (unhide HB1).lt
  clear x1 x1l x1f HT HV
  go_wp2_with fail
  refine (unhide HW).mono ?_
  rintro e w1 ⟨⟨a, c, rfl, R⟩, B⟩
  have HR := hide (R.mono (base' := w.heap.size) (by rw [unhide HVS]; exact Nat.le_refl _))
  dsimp only at HR
  have c1 := hide ((unhide HB1).below B)
  have c2 := hide ((unhide HB2).below B)
  have HK1 := hide ((unhide HK0).trans (Kq.of B))
  clear R B HB1 HB2 HK0 HW y1 y1l HVS
  have y1 := (unhide c1).cv
  have y1l := (unhide c1).lt
  have y1f := (unhide c1).fz
  have z0 : (0 : Int) ≤ (n : Int) := by omega
  have z1 : (n : Int) ≤ (T.size : Int) := by omega
  have z2 : IntKind.i64.wrap (n : Int) = (n : Int) := wraps_i64 _ (by omega) (by omega)
  have z3 : ((n : Int)).toNat = n := by omega
  have e2 : T.size = T.size := rfl
  have HX2 := hide (show ∀ u, Bx (w1.setCell ⟨bl, 0, none⟩ u) bl [u] from fun u => (unhide c1).set (i := 0) (by simp))
  have HY2 := hide (show ∀ u, Bx (w1.setCell ⟨bl, 0, none⟩ u) bk [.int .i64 (cnt : Int)] from fun u => (unhide c2).other (by omega))
  have HK2 := hide (show ∀ u, Kq (fun q => q = bl ∨ q = bk) w (w1.setCell ⟨bl, 0, none⟩ u) from fun u => (unhide HK1).set (Or.inl rfl))
  have HR2 := hide (show ∀ (base' : Nat), True from fun _ => trivial)
  dsimp only
  go_upto_region 4 with fail
  clear y1 y1l y1f c1 c2 HK1 z0 z1 z2 z3
  obtain ⟨U, hU⟩ : ∃ U, U = w1.setCell ⟨bl, 0, none⟩ (.string (T.extract n T.size)) := ⟨_, rfl⟩
  rw [← hU]
  have d1 : Hid (Bx U bl [.string (T.extract n T.size)]) := by show Bx _ _ _; rw [hU]; exact unhide HX2 _
  have d2 : Hid (Bx U bk [.int .i64 (cnt : Int)]) := by show Bx _ _ _; rw [hU]; exact unhide HY2 _
  have k2 : Hid (Kq (fun q => q = bl ∨ q = bk) w U) := by show Kq _ _ _; rw [hU]; exact unhide HK2 _
  have r2 : Hid (Ro capsuleK 30 w.heap.size U (.slice a L.length c) L) := by show Ro _ _ _ _ _ _; rw [hU]; exact (unhide HR).kq ((Kq.refl (fun q => q = bl) w1).set rfl) (fun q hq => by omega)
  clear hU HX2 HY2 HK2 HR HR2 e2
  have y2 := (unhide d2).cv
  have y2l := (unhide d2).lt
  have y2f := (unhide d2).fz
  go_upto_region 5 with fail
  have E : ((cnt : Int) + (L.length : Int)) = ((cnt + L.length : Nat) : Int) := by omega
  obtain ⟨U2, hU2⟩ : ∃ U2, U2 = U.setCell ⟨bk, 0, none⟩ (.int .i64 ((cnt : Int) + (L.length : Int))) := ⟨_, rfl⟩
  rw [← hU2]
  rw [E] at hU2
  have f1 : Bx U2 bl [.string (T.extract n T.size)] := by rw [hU2]; exact (unhide d1).other (by omega)
  have f2 : Bx U2 bk [.int .i64 ((cnt + L.length : Nat) : Int)] := by rw [hU2]; exact (unhide d2).set (i := 0) (by simp)
  have f3 : Kq (fun q => q = bl ∨ q = bk) w U2 := by rw [hU2]; exact (unhide k2).set (Or.inr rfl)
  have f4 : Ro capsuleK 30 w.heap.size U2 (.slice a L.length c) L := by rw [hU2]; exact (unhide r2).kq ((Kq.refl (fun q => q = bk) U).set rfl) (fun q hq => by omega)
  have g1 := f1.cv
  have g1l := f1.lt
  have g2 := f2.cv
  have g2l := f2.lt
  rw [← E] at g2
  have hze : ((T.extract n T.size).size : Int) = (T.size : Int) - (n : Int) := by rw [ByteArray.size_extract]; omega
  have HP := hide (show ∀ (nq : Nat) (z : Int) (b : Bool), z = (T.size : Int) - (n : Int) → b = (ok && decide ((cnt : Int) + (L.length : Int) ≤ 30)) → TkP bl bk cnt T w (L, n, ok) (.returned (.tuple #[.slice a L.length c, .int .i64 z, .bool b])) (U2.drewN nq) from fun nq z b hz hb => by
    subst hz hb
    have hd := below_drewN (Below.refl U2.heap.size U2) nq
    exact ⟨a, c, rfl, f4.below hd, f1.below hd, f2.below hd, f3.trans (Kq.of hd)⟩)
  have HZE := hide hze
  clear f1 f2 f3 f4 hU2 d1 d2 k2 r2 y2 y2l y2f E hze
  cases ok with
  | false =>
    go_quiet (fail)
    all_goals
      go_wp2
      refine bodyPost_ret (v := .tuple #[.slice a L.length c, .int .i64 ((T.extract n T.size).size : Int), .bool false]) (by simp [results, Tryd.results47, go_sem]) rfl (unhide HP _ _ _ (unhide HZE) rfl)
  | true =>
    by_cases hm : (cnt : Int) + (L.length : Int) ≤ 30
    · have hd : decide ((cnt : Int) + (L.length : Int) ≤ 30) = true := decide_eq_true hm
      clear hm
      go_quiet (fail)
      all_goals
        go_wp2
        refine bodyPost_ret (v := .tuple #[.slice a L.length c, .int .i64 ((T.extract n T.size).size : Int), .bool true]) (by simp [results, Tryd.results47, go_sem]) rfl (unhide HP _ _ _ (unhide HZE) (by rw [hd]; rfl))
    · have hd : decide ((cnt : Int) + (L.length : Int) ≤ 30) = false := decide_eq_false hm
      clear hm
      go_quiet (fail)
      all_goals
        go_wp2
        refine bodyPost_ret (v := .tuple #[.slice a L.length c, .int .i64 ((T.extract n T.size).size : Int), .bool false]) (by simp [results, Tryd.results47, go_sem]) rfl (unhide HP _ _ _ (unhide HZE) (by rw [hd]; rfl))
/-- a new one -/
theorem implNT (w : World) : Calls Tryd.prog 28 #[] w fun e w' => e = .returned (.func (.func 47) #[] #[.pointer (some ⟨w.heap.size, 0, none⟩), .pointer (some ⟨w.heap.size + 1, 0, none⟩)]) ∧ Bx w' w.heap.size [.string ⟨#[]⟩] ∧ Bx w' (w.heap.size + 1) [.int .i64 0] ∧ Below w.heap.size w w' ∧ w'.heap.size = w.heap.size + 2 := by
  have hmf : ∀ (fn : Fn) (first cap : Array Value) (w : World), (Instr.makeFunc fn first cap).run Tryd.prog w = .ok (.func fn first cap) w := fun _ _ _ _ => rfl
  have B0 := (Bx.new w [.string ⟨#[]⟩] 9).alloc (.cells #[.int .i64 0] 3)
  have B1 := Bx.newAt (w.alloc (.cells #[.string ⟨#[]⟩] 9)) (w.heap.size + 1) [.int .i64 0] 3 (by simp)
  have BL := (((Below.refl w.heap.size w).alloc (Nat.le_refl _) (.cells #[.string ⟨#[]⟩] 9)).alloc (by simp) (.cells #[.int .i64 0] 3))
  have HP := hide (And.intro B0 (And.intro B1 BL))
  clear B0 B1 BL
  go_enter Tryd.func28, Tryd.ntmps28
  go_wp2
  go_ret
  exact ⟨rfl, (unhide HP).1, (unhide HP).2.1, (unhide HP).2.2, by simp⟩
end Go.Proofs.YtgieglpjkjncfabDoor.Rc
