/-
  Contracts: the program's words of the rounds.
-/
import Derived.Test.YtcedecmapgfkhaaDoorWds
import Derived.Test.YtcedecmapgfkhaaDoorUls
namespace Go.Proofs.YtcedecmapgfkhaaDoor
open Go.ChangeShapes Go.WideShapes Go.ChangeAt Go.RowKit
set_option linter.unusedVariables false

/-- the program's table lies where the translation lays it -/
def Rt (w : World) : Prop := Rw w 0 0 64 KW
theorem info_rw : (Tryd.prog.info? 63).map (·.size) = some 64 := by kernel_rfl
theorem zeros64 : (#[Value.int .u32 0, Value.int .u32 0, Value.int .u32 0, Value.int .u32 0, Value.int .u32 0, Value.int .u32 0, Value.int .u32 0, Value.int .u32 0, Value.int .u32 0, Value.int .u32 0, Value.int .u32 0, Value.int .u32 0, Value.int .u32 0, Value.int .u32 0, Value.int .u32 0, Value.int .u32 0, Value.int .u32 0, Value.int .u32 0, Value.int .u32 0, Value.int .u32 0, Value.int .u32 0, Value.int .u32 0, Value.int .u32 0, Value.int .u32 0, Value.int .u32 0, Value.int .u32 0, Value.int .u32 0, Value.int .u32 0, Value.int .u32 0, Value.int .u32 0, Value.int .u32 0, Value.int .u32 0, Value.int .u32 0, Value.int .u32 0, Value.int .u32 0, Value.int .u32 0, Value.int .u32 0, Value.int .u32 0, Value.int .u32 0, Value.int .u32 0, Value.int .u32 0, Value.int .u32 0, Value.int .u32 0, Value.int .u32 0, Value.int .u32 0, Value.int .u32 0, Value.int .u32 0, Value.int .u32 0, Value.int .u32 0, Value.int .u32 0, Value.int .u32 0, Value.int .u32 0, Value.int .u32 0, Value.int .u32 0, Value.int .u32 0, Value.int .u32 0, Value.int .u32 0, Value.int .u32 0, Value.int .u32 0, Value.int .u32 0, Value.int .u32 0, Value.int .u32 0, Value.int .u32 0, Value.int .u32 0] : Array Value) = (uw 64 fun _ => 0).toArray := by rw [uw_def]; rfl
set_option maxRecDepth 100000 in
set_option maxHeartbeats 400000 in
theorem implRoundWords (w : World) (hT : Rt w) :
    Calls Tryd.prog 13 #[] w fun e w' => e = .returned (.slice (some ⟨w.heap.size, 0, none⟩) 64 64) ∧ Aw w' w.heap.size 0 64 KW ∧ Below w.heap.size w w' := by
  have HT := hide hT
  clear hT
  go_enter Tryd.func13, Tryd.ntmps13
  go_upto_region 1 with fail
  refine wp_region_list ?_
  refine wpList_load_mid rfl 63 (.global 0) rfl 0 0 rfl (uw 64 KW) _ (unhide HT).range Tryd.underlying63 rfl (by rw [uw_length]; exact info_rw) ?_
  have hl : (uw 64 KW).length = 64 := uw_length _ _
  have h0 := Aw.new w 64 (fun _ => 0) 63
  have hB := (Below.refl w.heap.size w).alloc (Nat.le_refl _) (.cells (uw 64 fun _ => 0).toArray 63)
  generalize hK : KW = K at *
  go_wp2_with fail
  rw [zeros64, h0.cellsPut]
  have h1 := h0.puts (g := K)
  have h2 := Go.Proofs.YtcedecmapgfkhaaDoor.below_setCells (b := w.heap.size) (Nat.le_refl _) (uw 64 K) 0 _ hB
  generalize (w.alloc (.cells (uw 64 fun _ => 0).toArray 63)).setCells w.heap.size 0 (uw 64 K) = W at h1 h2 ⊢
  clear h0 hB HT
  go_wp2_with fail
  go_ret
  exact ⟨rfl, by rw [hK]; exact h1, h2⟩
end Go.Proofs.YtcedecmapgfkhaaDoor
