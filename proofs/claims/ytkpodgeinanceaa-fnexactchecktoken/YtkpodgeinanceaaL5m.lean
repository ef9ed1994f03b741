/-
  Contracts: the model's products of blocks.
-/
import Derived.Test.YtkpodgeinanceaaL5w
import Derived.Laws.Concat
namespace Go.Proofs.Ytkpodgeinanceaa
open Go.ChangeShapes Go.WideShapes Go.ChangeAt Go.RowKit
set_option linter.unusedVariables false

/-- the two words of a block -/
def hiW (s : ByteArray) : Nat := nbW (s.extract 0 8) 8
def lo5W (s : ByteArray) : Nat := nbW (s.extract 8 16) 8
theorem hiW_lt (s : ByteArray) : hiW s < 18446744073709551616 := nbW_lt _ 8
theorem lo5W_lt (s : ByteArray) : lo5W s < 18446744073709551616 := nbW_lt _ 8
theorem u64_of (h : Nat) (hh : h < 18446744073709551616) : IntKind.u64.wrap (IntKind.i64.wrap (h : Int)) = (h : Int) := by
  rw [IntKind.wrap_u64, IntKind.wrap_i64]
  omega
/-- two words lie in a block -/
structure Q2 (w : World) (b x y : Nat) : Prop where
  c0 : w.cell? ⟨b, 0, none⟩ = some (.int .u64 (x : Nat))
  c1 : w.cell? ⟨b, 1, none⟩ = some (.int .u64 (y : Nat))
  f0 : w.frozen? ⟨b, 0, none⟩ = false
  f1 : w.frozen? ⟨b, 1, none⟩ = false
theorem q2_new (w : World) (x y : Nat) (t : TypeId) : Q2 (w.alloc (.cells #[.int .u64 (x : Nat), .int .u64 (y : Nat)] t)).drew w.heap.size x y :=
  ⟨by simp, by simp, by simp, by simp⟩
theorem Q2.range {w : World} {b x y : Nat} (h : Q2 w b x y) : w.rangeAt b 0 [.int .u64 (x : Nat), .int .u64 (y : Nat)] := fun j u hu => by
  rw [Nat.zero_add]
  match j, hu with
  | 0, hu => simp at hu; subst hu; exact h.c0
  | 1, hu => simp at hu; subst hu; exact h.c1
theorem ret_two {P : Program} {fn : Func} {R : Ending → World → Prop} {a : Act} {w : World} (s rb x y : Nat) (t : TypeId) (d : TypeDesc) (hres : fn.results = #[.cell s t]) (ha : a.tmps.getD s undef = .pointer (some ⟨rb, 0, none⟩)) (hd : a.defers = [])
    (h : Q2 w rb x y) (hu : P.underlying t = some d) (hrow : d.isRow = true) (hi : (P.info? t).map (·.size) = some 2) (hR : R (.returned (.agg #[.int .u64 (x : Nat), .int .u64 (y : Nat)])) w) : bodyPost P fn R .ret a w := by
  refine bodyPost_ret (v := .agg #[.int .u64 (x : Nat), .int .u64 (y : Nat)]) ?_ hd hR
  have hl := run_loadVar_mid (P := P) w rb 0 t [.int .u64 (x : Nat), .int .u64 (y : Nat)] d h.range hu hrow hi
  unfold results
  rw [hres]
  simp only [Sem.run_bind, Array.mapM_eq_mapM_toList, List.mapM_cons, List.mapM_nil, ha]
  simp [asAddr, hl]
theorem info_l5 : (Try.prog.info? 113).map (·.size) = some 2 := by kernel_rfl
set_option maxRecDepth 100000 in
set_option maxHeartbeats 1000000 in
theorem specOf (s : ByteArray) (hs : s.size = 16) (w : World) :
    Calls Try.prog 96 #[.string s] w fun e w' => e = .returned (.agg #[.int .u64 (hiW s : Nat), .int .u64 (lo5W s : Nat)]) ∧ Below w.heap.size w w' := by
  have H1 := hide (fun W => specBig8 (s.extract 0 8) (by rw [ByteArray.size_extract]; omega) W)
  have H2 := hide (fun W => specBig8 (s.extract 8 16) (by rw [ByteArray.size_extract]; omega) W)
  have e1 := u64_of _ (hiW_lt s)
  have e2 := u64_of _ (lo5W_lt s)
  unfold hiW at e1 ⊢
  unfold lo5W at e2 ⊢
  generalize nbW (s.extract 0 8) 8 = h at *
  generalize nbW (s.extract 8 16) 8 = l at *
  go_enter Try.func96, Try.ntmps96
  go_wp2_with fail
  have N0 : Q2 (w.alloc (.cells #[.int .u64 0, .int .u64 0] 113)).drew w.heap.size 0 0 := q2_new w 0 0 _
  have hc0 := N0.c0
  have hc1 := N0.c1
  have hf0 := N0.f0
  have hf1 := N0.f1
  clear N0
  go_region_with (first
    | (go_at_call 38; with_reducible refine (unhide H1 _).mono ?_; rintro e w9 ⟨rfl, h9⟩; rw [h9]; clear h9 w9)
    | (go_at_call 38; with_reducible refine (unhide H2 _).mono ?_; rintro e w9 ⟨rfl, h9⟩; rw [h9]; clear h9 w9))
  all_goals
    clear hc0 hc1 hf0 hf1
    have HH := hide (q2_new w h l 113)
    have HB := hide (((Below.refl w.heap.size w).alloc (Nat.le_refl _) (.cells #[.int .u64 (h : Nat), .int .u64 (l : Nat)] 113)).drew)
    generalize (w.alloc (.cells #[.int .u64 (h : Nat), .int .u64 (l : Nat)] 113)).drew = W at HH HB ⊢
    go_wp2
    refine ret_two 2 w.heap.size h l 113 _ ?r1 ?r2 ?r3 (unhide HH) Try.underlying113 rfl info_l5 ?_
    case r1 => rfl
    case r2 => rfl
    case r3 => rfl
    exact ⟨rfl, unhide HB⟩
end Go.Proofs.Ytkpodgeinanceaa
