/-
  Contract of the program: what bytes tell as fields.
-/
import Derived.Test.YtidgjjbdabifnabDoorFrz2
import Derived.Test.YtidgjjbdabifnabDoorFlt
namespace Go.Proofs.YtidgjjbdabifnabDoor.Rc
open Go.ChangeShapes Go.WideShapes Go.ChangeAt Go.RowKit Go.Deep
set_option linter.unusedVariables false
set_option maxRecDepth 100000

theorem ffld_ok (caps : Array Value) (w : World) (P : World → Prop) (hP : ∀ w', P w' → w'.cell? ⟨w.heap.size, 0, none⟩ = some (.int .i64 0) ∧ w'.frozen? ⟨w.heap.size, 0, none⟩ = false)
    (h : Calls Tryd.prog 33 caps (w.alloc (.cells #[.int .i64 0] 3)) fun e w' => e = .returned (.tuple #[]) ∧ P w') :
    Calls Tryd.prog 32 #[.func (.func 33) #[] caps] w fun e w' => e = .returned (.int .i64 0) ∧ ∃ w1, P w1 ∧ w' = w1.setCell ⟨w.heap.size, 0, none⟩ (.int .i64 0) := by
  have hmf : ∀ (fn : Fn) (first cap : Array Value) (w : World), (Instr.makeFunc fn first cap).run Tryd.prog w = .ok (.func fn first cap) w := fun _ _ _ _ => rfl
  go_enter_defers Tryd.func32, Tryd.ntmps32
  go_wp2_with fail
  refine h.mono ?_
  rintro e w1 ⟨rfl, hp⟩
  obtain ⟨hc, hz⟩ := hP _ hp
  go_wp2_with fail
  refine leaves_cons (f := 44) (args := #[.pointer (some ⟨w.heap.size, 0, none⟩)]) (by simp) (by simp [go_sem]) ?_
  refine (catch_idle ⟨w.heap.size, 0, none⟩ _).mono ?_
  rintro e u' w'' ⟨rfl, rfl, rfl⟩
  simp [Leaves, settle, results, Tryd.results32, go_sem, hc]
  exact ⟨w1, hp, rfl⟩
theorem ffld_bad (caps : Array Value) (C : Int → Prop) (w : World) (P : World → Prop) (hP : ∀ w', P w' → w'.cell? ⟨w.heap.size, 0, none⟩ = some (.int .i64 0) ∧ w'.frozen? ⟨w.heap.size, 0, none⟩ = false)
    (h : Calls Tryd.prog 33 caps (w.alloc (.cells #[.int .i64 0] 3)) fun e w' => ∃ c, C c ∧ e = gives c ∧ P w') :
    Calls Tryd.prog 32 #[.func (.func 33) #[] caps] w fun e w' => ∃ c, C c ∧ e = .returned (.int .i64 c) ∧ ∃ w1, P w1 ∧ w' = w1.setCell ⟨w.heap.size, 0, none⟩ (.int .i64 c) := by
  have hmf : ∀ (fn : Fn) (first cap : Array Value) (w : World), (Instr.makeFunc fn first cap).run Tryd.prog w = .ok (.func fn first cap) w := fun _ _ _ _ => rfl
  go_enter_defers Tryd.func32, Tryd.ntmps32
  go_wp2_with fail
  refine h.mono ?_
  rintro e w1 ⟨c, hC, rfl, hp⟩
  obtain ⟨hc, hz⟩ := hP _ hp
  go_wp2_with fail
  refine leaves_cons (f := 44) (args := #[.pointer (some ⟨w.heap.size, 0, none⟩)]) (by simp) (by simp [go_sem]) ?_
  refine (catch_panicking ⟨w.heap.size, 0, none⟩ 0 c [] _ hc hz).mono ?_
  rintro e u' w'' ⟨rfl, rfl, rfl⟩
  simp [Leaves, settle, results, Tryd.results32, go_sem, hc]
  exact ⟨c, hC, rfl, w1, hp, rfl⟩
/-- where reading begins -/
def pB (s : ByteArray) : Nat := if s.size < 2 then s.size else 2
theorem dr_pB (s : ByteArray) : dr s (pB s) = s.data.toList.drop 2 := by
  have hl : s.data.toList.length = s.size := by rw [Array.length_toList]; rfl
  unfold dr pB
  split
  · rw [List.drop_eq_nil_of_le (by omega), List.drop_eq_nil_of_le (by omega)]
  · rfl
theorem pB_le (s : ByteArray) : pB s ≤ s.size := by unfold pB; split <;> omega
/-- what fieldsTold answers -/
def FtP (base : Nat) (o : Option (List FieldD)) (e : Ending) (w' : World) : Prop := ∃ (a : Option Addr) (n c : Nat) (out : List FieldD), e = .returned (.tuple #[.slice a n c, .bool o.isSome]) ∧ Ro fieldK 33 base w' (.slice a n c) out ∧ ∀ L, o = some L → out = L
/-- the boxes of fieldsTold -/
def wF (s : ByteArray) (p : Nat) (w : World) : World := ((((w.alloc (.cells #[.string s] 9)).alloc (.cells #[.string s, .int .i64 (p : Int), .int .i64 0] 55)).alloc (.cells #[.pointer (some ⟨w.heap.size + 1, 0, none⟩)] 53)).alloc (.cells #[.slice none 0 0] 22))
theorem wF_size (s : ByteArray) (p : Nat) (w : World) : (wF s p w).heap.size = w.heap.size + 1 + 1 + 1 + 1 := by unfold wF; simp
theorem wF_below (s : ByteArray) (p : Nat) (w : World) : Below w.heap.size w (wF s p w) := by
  unfold wF
  exact ((((Below.refl _ _).alloc (Nat.le_refl _) _).alloc (by simp) _).alloc (by simp; omega) _).alloc (by simp; omega) _
theorem wF_fs (s : ByteArray) (p : Nat) (w : World) (hS : Sf w) : Fs ((wF s p w).alloc (.cells #[.int .i64 0] 3)) ((wF s p w).alloc (.cells #[.int .i64 0] 3)) (w.heap.size + 1) (w.heap.size + 1 + 1) w.heap.size (w.heap.size + 1 + 1 + 1) s 0 p [] := by
  have b0 : Bx ((wF s p w).alloc (.cells #[.int .i64 0] 3)) w.heap.size [.string s] := (Bx.new w [.string s] _).alloc _ |>.alloc _ |>.alloc _ |>.alloc _
  have b1 : Bx ((wF s p w).alloc (.cells #[.int .i64 0] 3)) (w.heap.size + 1) [.string s, .int .i64 (p : Int), .int .i64 0] := (Bx.newAt (w.alloc (.cells #[.string s] 9)) _ [.string s, .int .i64 (p : Int), .int .i64 0] _ (by simp)).alloc _ |>.alloc _ |>.alloc _
  have b2 : Bx ((wF s p w).alloc (.cells #[.int .i64 0] 3)) (w.heap.size + 1 + 1) [.pointer (some ⟨w.heap.size + 1, 0, none⟩)] := (Bx.newAt _ _ [.pointer (some ⟨w.heap.size + 1, 0, none⟩)] _ (by simp)).alloc _ |>.alloc _
  have b3 : Bx ((wF s p w).alloc (.cells #[.int .i64 0] 3)) (w.heap.size + 1 + 1 + 1) [.slice none 0 0] := (Bx.newAt _ _ [.slice none 0 0] _ (by simp)).alloc _
  refine ⟨⟨b1.lt, b1.cv 0, b1.cv 1, b1.cv 2, b1.fz⟩, b2, b0, ⟨_, b3, Ro.nil _ _ _ _⟩, (hS.below (wF_below s p w)).below ((Below.refl _ _).alloc (Nat.le_refl _) _), Kq.refl _ _⟩
set_option maxHeartbeats 8000000 in
theorem implFT (s : ByteArray) (w : World) (hs : s.size ≤ 1048576) (hS : Sf w) :
    Calls Tryd.prog 18 #[.string s] w fun e w' => FtP w.heap.size (rlI 30 (s.data.toList.drop 2) []) e w' ∧ Below w.heap.size w w' := by
  have hpb := pB_le s
  have hmin : min (2 : Int) (s.size : Int) = (pB s : Int) := by unfold pB; split <;> omega
  have hmf : ∀ (fn : Fn) (first cap : Array Value) (w : World), (Instr.makeFunc fn first cap).run Tryd.prog w = .ok (.func fn first cap) w := fun _ _ _ _ => rfl
  obtain ⟨p0, hp0⟩ : ∃ p0, pB s = p0 := ⟨_, rfl⟩
  rw [← dr_pB, hp0]
  rw [hp0] at hpb hmin
  clear hp0
  have hlt := hS.1
  have zF := wF_size s p0 w
  have hz0 : ((wF s p0 w).alloc (.cells #[.int .i64 0] 3)).heap.size = w.heap.size + 1 + 1 + 1 + 1 + 1 := by simp [zF]
  have HB := hide (wF_below s p0 w)
  have HL := hide (implF1 (w.heap.size + 1) (w.heap.size + 1 + 1) w.heap.size (w.heap.size + 1 + 1 + 1) p0 s 0 _ hs (by omega) (by omega) hpb (by rw [hz0]; omega) (wF_fs s p0 w hS))
  have HK := hide (fun (w1 : World) (hk : Kq (fun q => q = w.heap.size + 1 ∨ q = w.heap.size + 1 + 1 + 1) ((wF s p0 w).alloc (.cells #[.int .i64 0] 3)) w1) => show w1.cell? ⟨(wF s p0 w).heap.size, 0, none⟩ = some (.int .i64 0) ∧ w1.frozen? ⟨(wF s p0 w).heap.size, 0, none⟩ = false from ⟨((Bx.new (wF s p0 w) [.int .i64 0] 3).kept hk.size (hk.block _ (by simp) (by rw [zF]; omega))).cv 0, ((Bx.new (wF s p0 w) [.int .i64 0] 3).kept hk.size (hk.block _ (by simp) (by rw [zF]; omega))).fz 0⟩)
  have HE := hide (fun (w1 : World) (c : Int) (hk : Kq (fun q => q = w.heap.size + 1 ∨ q = w.heap.size + 1 + 1 + 1) ((wF s p0 w).alloc (.cells #[.int .i64 0] 3)) w1) => show Below w.heap.size w (w1.setCell ⟨(wF s p0 w).heap.size, 0, none⟩ (.int .i64 c)) from ((((unhide HB).alloc (by rw [zF]; omega) _).trans (hk.below (by rw [hz0]; omega) (fun q hq => by omega)) |>.setCell (by show _ ≤ (wF s p0 w).heap.size; rw [zF]; omega) _)))
  cases ho : rlI 30 (dr s p0) [] with
  | some out =>
    rw [ho] at HL
    have HF := hide (ffld_ok #[.pointer (some ⟨w.heap.size + 1 + 1, 0, none⟩), .pointer (some ⟨w.heap.size, 0, none⟩), .pointer (some ⟨w.heap.size + 1 + 1 + 1, 0, none⟩)] (wF s p0 w) (fun w' => ∃ p, Fs ((wF s p0 w).alloc (.cells #[.int .i64 0] 3)) w' (w.heap.size + 1) (w.heap.size + 1 + 1) w.heap.size (w.heap.size + 1 + 1 + 1) s 0 p out) (fun w' ⟨_, hw⟩ => unhide HK _ hw.kq) (unhide HL))
    clear HL
    go_enter Tryd.func18, Tryd.ntmps18
    go_upto_region 3 with fail
    go_wp2_with fail
    refine (unhide HF).mono ?_
    rintro e w2 ⟨rfl, w1, ⟨p, F1⟩, rfl⟩
    have B := unhide HE w1 0 F1.kq
    obtain ⟨v, X, R⟩ := F1.row
    obtain ⟨a, c, rfl⟩ := R.opens
    have X2 := X.other (c := (wF s p0 w).heap.size) (i := 0) (u := .int .i64 0) (by omega)
    have R2 := (R.kq ((Kq.refl (fun q => q = (wF s p0 w).heap.size) w1).set (i := 0) (u := .int .i64 0) rfl) (fun q hq => by omega)).mono (base' := w.heap.size) (by omega)
    generalize w1.setCell ⟨(wF s p0 w).heap.size, 0, none⟩ (.int .i64 0) = w3 at B X2 R2 ⊢
    have y0 := X2.cv
    have yl := X2.lt
    have yf := X2.fz
    have HP := hide (show ∀ e, e = .returned (.tuple #[.slice a out.length c, .bool true]) → FtP w.heap.size (some out) e w3 ∧ Below w.heap.size w w3 from fun e he => ⟨⟨a, _, c, out, he, R2, fun L h => by injection h⟩, B⟩)
    clear R R2 X X2 F1 B HK HE HF HB
    go_wp2_with fail
    refine bodyPost_ret (v := .tuple #[.slice a out.length c, .bool true]) (by simp [results, Tryd.results18, go_sem]) rfl (unhide HP _ rfl)
  | none =>
    rw [ho] at HL
    have HF := hide (ffld_bad #[.pointer (some ⟨w.heap.size + 1 + 1, 0, none⟩), .pointer (some ⟨w.heap.size, 0, none⟩), .pointer (some ⟨w.heap.size + 1 + 1 + 1, 0, none⟩)] (fun c => c = 1 ∨ c = 2 ∨ c = 4) (wF s p0 w) (fun w' => ∃ v, Bx w' (w.heap.size + 1 + 1 + 1) [v] ∧ (∃ out : List FieldD, Ro fieldK 33 ((wF s p0 w).alloc (.cells #[.int .i64 0] 3)).heap.size w' v out) ∧ Kq (fun q => q = w.heap.size + 1 ∨ q = w.heap.size + 1 + 1 + 1) ((wF s p0 w).alloc (.cells #[.int .i64 0] 3)) w') (fun w' ⟨_, _, _, hw⟩ => unhide HK _ hw) ((unhide HL).mono (fun e w' ⟨⟨c, hc, he⟩, h⟩ => ⟨c, hc, he, h⟩)))
    clear HL
    go_enter Tryd.func18, Tryd.ntmps18
    go_upto_region 3 with fail
    go_wp2_with fail
    refine (unhide HF).mono ?_
    rintro e w2 ⟨k, hk, rfl, w1, ⟨v, X, ⟨out, R⟩, F1⟩, rfl⟩
    have B := unhide HE w1 k F1
    obtain ⟨a, c, rfl⟩ := R.opens
    have X2 := X.other (c := (wF s p0 w).heap.size) (i := 0) (u := .int .i64 k) (by omega)
    have R2 := (R.kq ((Kq.refl (fun q => q = (wF s p0 w).heap.size) w1).set (i := 0) (u := .int .i64 k) rfl) (fun q hq => by omega)).mono (base' := w.heap.size) (by omega)
    generalize w1.setCell ⟨(wF s p0 w).heap.size, 0, none⟩ (.int .i64 k) = w3 at B X2 R2 ⊢
    have y0 := X2.cv
    have yl := X2.lt
    have yf := X2.fz
    have HP := hide (show ∀ e, e = .returned (.tuple #[.slice a out.length c, .bool false]) → FtP w.heap.size none e w3 ∧ Below w.heap.size w w3 from fun e he => ⟨⟨a, _, c, out, he, R2, fun L h => by cases h⟩, B⟩)
    clear R R2 X X2 F1 B HK HE HF HB
    rcases hk with rfl | rfl | rfl
    all_goals
      go_wp2_with fail
      refine bodyPost_ret (v := .tuple #[.slice a out.length c, .bool false]) (by simp [results, Tryd.results18, go_sem]) rfl (unhide HP _ rfl)
end Go.Proofs.YtidgjjbdabifnabDoor.Rc
