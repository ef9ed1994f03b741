/-
  Contract of the program: all whole capsules at the front of a text.
-/
import Derived.Test.YtgieglpjkjncfabDoorCpw
import Derived.Test.YtgieglpjkjncfabDoorFlt
namespace Go.Proofs.YtgieglpjkjncfabDoor.Rc
open Go.ChangeShapes Go.WideShapes Go.ChangeAt Go.RowKit Go.Deep
set_option linter.unusedVariables false
set_option maxRecDepth 100000

theorem fwh (caps : Array Value) (w : World) (P : Int → World → Prop) (hP : ∀ c w', P c w' → w'.cell? ⟨w.heap.size, 0, none⟩ = some (.int .i64 0) ∧ w'.frozen? ⟨w.heap.size, 0, none⟩ = false)
    (h : Calls Tryd.prog 62 caps (w.alloc (.cells #[.int .i64 0] 3)) fun e w' => ∃ c : Int, (c = 0 ∧ e = .returned (.tuple #[]) ∨ e = gives c) ∧ P c w') :
    Calls Tryd.prog 35 #[.func (.func 62) #[] caps] w fun e w' => ∃ c : Int, e = .returned (.int .i64 c) ∧ ∃ w1, P c w1 ∧ w' = w1.setCell ⟨w.heap.size, 0, none⟩ (.int .i64 c) := by
  have hmf : ∀ (fn : Fn) (first cap : Array Value) (w : World), (Instr.makeFunc fn first cap).run Tryd.prog w = .ok (.func fn first cap) w := fun _ _ _ _ => rfl
  go_enter_defers Tryd.func35, Tryd.ntmps35
  go_wp2_with fail
  refine h.mono ?_
  rintro e w1 ⟨c, ⟨rfl, rfl⟩ | rfl, hp⟩
  · obtain ⟨hc, hz⟩ := hP _ _ hp
    go_wp2_with fail
    refine leaves_cons (f := 53) (args := #[.pointer (some ⟨w.heap.size, 0, none⟩)]) (by simp) (by simp [go_sem]) ?_
    refine (catch_idle ⟨w.heap.size, 0, none⟩ _).mono ?_
    rintro e u' w'' ⟨rfl, rfl, rfl⟩
    simp [Leaves, settle, results, Tryd.results35, go_sem, hc]
    exact ⟨w1, hp, rfl⟩
  · obtain ⟨hc, hz⟩ := hP _ _ hp
    go_wp2_with fail
    refine leaves_cons (f := 53) (args := #[.pointer (some ⟨w.heap.size, 0, none⟩)]) (by simp) (by simp [go_sem]) ?_
    refine (catch_panicking ⟨w.heap.size, 0, none⟩ 0 c [] _ hc hz).mono ?_
    rintro e u' w'' ⟨rfl, rfl, rfl⟩
    simp [Leaves, settle, results, Tryd.results35, go_sem, hc]
    exact ⟨w1, hp, rfl⟩
/-- what wholeCapsules answers -/
def WcP (base : Nat) (r : List CapsuleD × Nat × Bool) (e : Ending) (w' : World) : Prop := ∃ (a : Option Addr) (c : Nat), e = .returned (.tuple #[.slice a r.1.length c, .int .i64 (r.2.1 : Int), .bool r.2.2]) ∧ Ro capsuleK 30 base w' (.slice a r.1.length c) r.1
/-- the boxes of wholeCapsules -/
def wW (s : ByteArray) (w : World) : World := (((((w.alloc (.cells #[.string s] 9)).alloc (.cells #[.string s, .int .i64 0, .int .i64 0] 64)).alloc (.cells #[.pointer (some ⟨w.heap.size + 1, 0, none⟩)] 62)).alloc (.cells #[.slice none 0 0] 23)).alloc (.cells #[.int .i64 0] 3))
theorem wW_size (s : ByteArray) (w : World) : (wW s w).heap.size = w.heap.size + 1 + 1 + 1 + 1 + 1 := by unfold wW; simp
theorem wW_below (s : ByteArray) (w : World) : Below w.heap.size w (wW s w) := by
  unfold wW
  exact (((((Below.refl _ _).alloc (Nat.le_refl _) _).alloc (by simp) _).alloc (by simp; omega) _).alloc (by simp; omega) _).alloc (by simp; omega) _
theorem wW_ws (s : ByteArray) (w : World) : Ws ((wW s w).alloc (.cells #[.int .i64 0] 3)) ((wW s w).alloc (.cells #[.int .i64 0] 3)) (w.heap.size + 1) (w.heap.size + 1 + 1) w.heap.size (w.heap.size + 1 + 1 + 1) (w.heap.size + 1 + 1 + 1 + 1) s 0 0 0 [] := by
  have b0 : Bx ((wW s w).alloc (.cells #[.int .i64 0] 3)) w.heap.size [.string s] := (Bx.new w [.string s] _).alloc _ |>.alloc _ |>.alloc _ |>.alloc _ |>.alloc _
  have b1 : Bx ((wW s w).alloc (.cells #[.int .i64 0] 3)) (w.heap.size + 1) [.string s, .int .i64 0, .int .i64 0] := (Bx.newAt (w.alloc (.cells #[.string s] 9)) _ [.string s, .int .i64 0, .int .i64 0] _ (by simp)).alloc _ |>.alloc _ |>.alloc _ |>.alloc _
  have b2 : Bx ((wW s w).alloc (.cells #[.int .i64 0] 3)) (w.heap.size + 1 + 1) [.pointer (some ⟨w.heap.size + 1, 0, none⟩)] := (Bx.newAt _ _ [.pointer (some ⟨w.heap.size + 1, 0, none⟩)] _ (by simp)).alloc _ |>.alloc _ |>.alloc _
  have b3 : Bx ((wW s w).alloc (.cells #[.int .i64 0] 3)) (w.heap.size + 1 + 1 + 1) [.slice none 0 0] := (Bx.newAt _ _ [.slice none 0 0] _ (by simp)).alloc _ |>.alloc _
  have b4 : Bx ((wW s w).alloc (.cells #[.int .i64 0] 3)) (w.heap.size + 1 + 1 + 1 + 1) [.int .i64 0] := (Bx.newAt _ _ [.int .i64 0] _ (by simp)).alloc _
  exact ⟨⟨b1.lt, b1.cv 0, b1.cv 1, b1.cv 2, b1.fz⟩, b2, b0, b4, ⟨_, b3, Ro.nil _ _ _ _⟩, Kq.refl _ _⟩
set_option maxHeartbeats 8000000 in
theorem implWC (s : ByteArray) (w : World) (hs : s.size ≤ 1048576) :
    Calls Tryd.prog 48 #[.string s] w fun e w' => WcP w.heap.size (wh s.data.toList) e w' ∧ Below w.heap.size w w' := by
  have hmf : ∀ (fn : Fn) (first cap : Array Value) (w : World), (Instr.makeFunc fn first cap).run Tryd.prog w = .ok (.func fn first cap) w := fun _ _ _ _ => rfl
  have zF := wW_size s w
  have hz0 : ((wW s w).alloc (.cells #[.int .i64 0] 3)).heap.size = w.heap.size + 1 + 1 + 1 + 1 + 1 + 1 := by simp [zF]
  have HB := hide (wW_below s w)
  have HL := hide (implW1 (w.heap.size + 1) (w.heap.size + 1 + 1) w.heap.size (w.heap.size + 1 + 1 + 1) (w.heap.size + 1 + 1 + 1 + 1) s 0 _ hs (by omega) (by rw [hz0]; omega) (wW_ws s w))
  rw [show dr s 0 = s.data.toList from rfl] at HL
  have HK := hide (fun (w1 : World) (hk : Kq (fun q => q = w.heap.size + 1 ∨ q = w.heap.size + 1 + 1 + 1 ∨ q = w.heap.size + 1 + 1 + 1 + 1) ((wW s w).alloc (.cells #[.int .i64 0] 3)) w1) => show w1.cell? ⟨(wW s w).heap.size, 0, none⟩ = some (.int .i64 0) ∧ w1.frozen? ⟨(wW s w).heap.size, 0, none⟩ = false from ⟨((Bx.new (wW s w) [.int .i64 0] 3).kept hk.size (hk.block _ (by simp) (by rw [zF]; omega))).cv 0, ((Bx.new (wW s w) [.int .i64 0] 3).kept hk.size (hk.block _ (by simp) (by rw [zF]; omega))).fz 0⟩)
  have HE := hide (fun (w1 : World) (c : Int) (hk : Kq (fun q => q = w.heap.size + 1 ∨ q = w.heap.size + 1 + 1 + 1 ∨ q = w.heap.size + 1 + 1 + 1 + 1) ((wW s w).alloc (.cells #[.int .i64 0] 3)) w1) => show Below w.heap.size w (w1.setCell ⟨(wW s w).heap.size, 0, none⟩ (.int .i64 c)) from ((((unhide HB).alloc (by rw [zF]; omega) _).trans (hk.below (by rw [hz0]; omega) (fun q hq => by omega)) |>.setCell (by show _ ≤ (wW s w).heap.size; rw [zF]; omega) _)))
  generalize wh s.data.toList = r at *
  have HF := hide (fwh #[.pointer (some ⟨w.heap.size + 1 + 1, 0, none⟩), .pointer (some ⟨w.heap.size, 0, none⟩), .pointer (some ⟨w.heap.size + 1 + 1 + 1, 0, none⟩), .pointer (some ⟨w.heap.size + 1 + 1 + 1 + 1, 0, none⟩)] (wW s w)
    (fun c w' => (c = 0 ∨ c = 1 ∨ c = 3) ∧ r.2.2 = decide (c ≠ 3) ∧ ∃ v, Bx w' (w.heap.size + 1 + 1 + 1) [v] ∧ Ro capsuleK 30 ((wW s w).alloc (.cells #[.int .i64 0] 3)).heap.size w' v r.1 ∧ Bx w' (w.heap.size + 1 + 1 + 1 + 1) [.int .i64 (r.2.1 : Int)] ∧ Kq (fun q => q = w.heap.size + 1 ∨ q = w.heap.size + 1 + 1 + 1 ∨ q = w.heap.size + 1 + 1 + 1 + 1) ((wW s w).alloc (.cells #[.int .i64 0] 3)) w')
    (fun c w' ⟨_, _, _, _, _, _, hk⟩ => unhide HK _ hk)
    ((unhide HL).mono (fun e w' ⟨⟨c, he, hc, hr⟩, h⟩ => ⟨c, he, hc, hr, h⟩)))
  clear HL
  go_enter Tryd.func48, Tryd.ntmps48
  go_upto_region 4 with fail
  go_wp2_with fail
  refine (unhide HF).mono ?_
  rintro e w2 ⟨c, rfl, w1, ⟨hc, hr, v, X, R, Z, k1⟩, rfl⟩
  have B := unhide HE w1 c k1
  obtain ⟨a, cap, rfl⟩ := R.opens
  have X2 := X.other (c := (wW s w).heap.size) (i := 0) (u := .int .i64 c) (by omega)
  have Z2 := Z.other (c := (wW s w).heap.size) (i := 0) (u := .int .i64 c) (by omega)
  have R2 := (R.kq ((Kq.refl (fun q => q = (wW s w).heap.size) w1).set (i := 0) (u := .int .i64 c) rfl) (fun q hq => by omega)).mono (base' := w.heap.size) (by omega)
  generalize w1.setCell ⟨(wW s w).heap.size, 0, none⟩ (.int .i64 c) = w3 at B X2 Z2 R2 ⊢
  have y0 := X2.cv
  have yl := X2.lt
  have z0 := Z2.cv
  have zl := Z2.lt
  have HP := hide (show ∀ n, WcP w.heap.size r (.returned (.tuple #[.slice a r.1.length cap, .int .i64 (r.2.1 : Int), .bool r.2.2])) (w3.drewN n) ∧ Below w.heap.size w (w3.drewN n) from fun n => ⟨⟨a, cap, rfl, R2.below (below_drewN (Below.refl _ _) _)⟩, below_drewN B _⟩)
  rw [hr] at HP
  clear R R2 X X2 Z Z2 k1 B HK HE HF HB hr
  rcases hc with rfl | rfl | rfl
  all_goals
    go_upto_region 5 with fail
    go_quiet (fail)
    all_goals
      go_wp2
      refine bodyPost_ret (v := .tuple #[.slice a r.1.length cap, .int .i64 (r.2.1 : Int), .bool _]) (by simp [results, Tryd.results48, go_sem]) rfl (unhide HP _)
end Go.Proofs.YtgieglpjkjncfabDoor.Rc
