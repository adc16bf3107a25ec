/- slices.DeleteFunc and slices.Clone laid at this program. No condition. -/
import Derived.Shelf.SlicesE.DeleteFunc
import Derived.Test.YtdpapnfjpefhkaaGreatProg
namespace Go.Proofs
open Go.Shelf
set_option maxRecDepth 100000
def Tryz.deleteIt_ren : Go.Shelf.Ren := ⟨fun | 6 => 101 | 10 => 80 | n => n, fun | 22 => 111 | 23 => 3 | 25 => 129 | n => n, fun | n => n⟩
theorem Tryz.deleteIt : Go.Proofs.SlLaysH.n10 Tryz.prog Tryz.deleteIt_ren := {
 mixed := by kernel_rfl
 f6 := ⟨Tryz.f101.name, by decide, Tryz.func101.trans (congrArg some (by kernel_rfl))⟩
 f10 := ⟨Tryz.f80.name, by decide, Tryz.func80.trans (congrArg some (by kernel_rfl))⟩
 t0 := Tryz.underlying0
 a0 := Tryz.isAgg0
 z0 := Tryz.sizeOf0
 v0 := Tryz.zeroValue0
 t3 := Tryz.underlying3
 a3 := Tryz.isAgg3
 z3 := Tryz.sizeOf3
 v3 := Tryz.zeroValue3
 t4 := Tryz.underlying4
 a4 := Tryz.isAgg4
 z4 := Tryz.sizeOf4
 v4 := Tryz.zeroValue4
 t22 := Tryz.underlying111
 a22 := Tryz.isAgg111
 z22 := Tryz.sizeOf111
 v22 := Tryz.zeroValue111
 a23 := Tryz.isAgg3
 z23 := Tryz.sizeOf3
 t25 := Tryz.underlying129
 a25 := Tryz.isAgg129
 z25 := Tryz.sizeOf129
 v25 := Tryz.zeroValue129 }
end Go.Proofs
