/-
  The shelf's contract of slices.insertionSortCmpFunc at the program's own struct, laid at this program in plain words.
-/
import Derived.Shelf.SlSortCmp.InsertionK
import Derived.Test.YtpjmnnaiegdjmaaDoorProg
namespace Go.Proofs
open Go.Shelf
def Tryd.laysF20_ren : Go.Shelf.Ren := ⟨fun | 20 => 82 | n => n, fun | 0 => 0 | 3 => 3 | 4 => 4 | 22 => 54 | 24 => 47 | 25 => 57 | n => n, fun | n => n⟩
theorem Tryd.laysF20 : SlLaysF0.n20 Tryd.prog Tryd.laysF20_ren := {
  mixed := by kernel_rfl
  f20 := ⟨"slices.insertionSortCmpFunc[loop.example/g00206/impl.scored]", by kernel_rfl, Tryd.func82.trans (congrArg some (by kernel_rfl))⟩
  t0 := Tryd.underlying0
  a0 := Tryd.isAgg0
  z0 := Tryd.sizeOf0
  v0 := Tryd.zeroValue0
  t3 := Tryd.underlying3
  a3 := Tryd.isAgg3
  z3 := Tryd.sizeOf3
  v3 := Tryd.zeroValue3
  t4 := Tryd.underlying4
  a4 := Tryd.isAgg4
  z4 := Tryd.sizeOf4
  v4 := Tryd.zeroValue4
  t22 := Tryd.underlying54
  a22 := Tryd.isAgg54
  z22 := Tryd.sizeOf54
  v22 := Tryd.zeroValue54
  t25 := Tryd.underlying57
  a25 := Tryd.isAgg57
  z25 := Tryd.sizeOf57
  v25 := Tryd.zeroValue57 }
end Go.Proofs
