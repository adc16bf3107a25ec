/- slices.DeleteFunc and slices.Clone laid at this program. No condition. -/
import Derived.Shelf.SlicesE.DeleteFunc
import Derived.Shelf.SlicesE.Clone
import Derived.Test.YtplckaodenpdbaaProg
namespace Go.Proofs
open Go.Shelf
def Try.cloneIt_ren : Go.Shelf.Ren := ⟨fun | 41 => 26 | n => n, fun | 22 => 41 | 23 => 3 | n => n, fun | n => n⟩
theorem Try.cloneIt : Go.Proofs.SlLaysE0.n41 Try.prog Try.cloneIt_ren := {
  mixed := by kernel_rfl
  f41 := ⟨Try.f26.name, by decide, Try.func26.trans (congrArg some (by kernel_rfl))⟩
  t4 := Try.underlying4
  a4 := Try.isAgg4
  z4 := Try.sizeOf4
  v4 := Try.zeroValue4
  t22 := Try.underlying41
  a22 := Try.isAgg41
  z22 := Try.sizeOf41
  v22 := Try.zeroValue41 }
def Try.deleteIt_ren : Go.Shelf.Ren := ⟨fun | 6 => 28 | 10 => 24 | n => n, fun | 22 => 41 | 23 => 3 | 25 => 37 | n => n, fun | n => n⟩
theorem Try.deleteIt : Go.Proofs.SlLaysH.n10 Try.prog Try.deleteIt_ren := {
  mixed := by kernel_rfl
  f6 := ⟨Try.f28.name, by decide, Try.func28.trans (congrArg some (by kernel_rfl))⟩
  f10 := ⟨Try.f24.name, by decide, Try.func24.trans (congrArg some (by kernel_rfl))⟩
  t0 := Try.underlying0
  a0 := Try.isAgg0
  z0 := Try.sizeOf0
  v0 := Try.zeroValue0
  t3 := Try.underlying3
  a3 := Try.isAgg3
  z3 := Try.sizeOf3
  v3 := Try.zeroValue3
  t4 := Try.underlying4
  a4 := Try.isAgg4
  z4 := Try.sizeOf4
  v4 := Try.zeroValue4
  t22 := Try.underlying41
  a22 := Try.isAgg41
  z22 := Try.sizeOf41
  v22 := Try.zeroValue41
  a23 := Try.isAgg3
  z23 := Try.sizeOf3
  t25 := Try.underlying37
  a25 := Try.isAgg37
  z25 := Try.sizeOf37
  v25 := Try.zeroValue37 }
end Go.Proofs
