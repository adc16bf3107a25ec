/- The laws' own examples hold. No condition. -/
import Derived.Test.YtfmjnhiipcocnaaOpI
import Derived.Test.YtfmjnhiipcocnaaOpS
import Derived.Test.YtfmjnhiipcocnaaOpP
namespace Go.Proofs.Ytfmjnhiipcocnaa
open Go.RowKit
set_option linter.unusedVariables false

theorem I.start {m : Nat} {W w' : World} {e : Ending} (h : I.NewR m W e w') : ST 3 54 1 W W.heap.size m 0 none 0 [] w' := ⟨h.2.2.1, h.2.1 _ (Nat.le_refl _)⟩
theorem S.start {m : Nat} {W w' : World} {e : Ending} (h : S.NewR m W e w') : ST 9 57 1 W W.heap.size m 0 none 0 [] w' := ⟨h.2.2.1, h.2.1 _ (Nat.le_refl _)⟩

set_option maxRecDepth 100000 in
set_option maxHeartbeats 2000000 in
theorem awake_any (W : World) : Calls Try.prog 6 #[] W (BoolR true W) := by
  go_enter Try.func6, Try.ntmps6
  go_wp2_with fail
  refine (S.new_yes 1 W (by omega) (by omega)).mono ?_
  rintro e w1 h1
  obtain rfl := h1.1
  have S1 := Lib.hid (S.start h1)
  clear h1
  go_wp2_with fail
  refine (I.new_no 0 w1 (.inl (by omega))).mono ?_
  rintro e w' ⟨rfl, rfl⟩
  go_wp2_with fail
  refine (S.add_room ⟨#[120]⟩ w1 S1.out.ar (by omega) (by omega) S1.out.bel.size).mono ?_
  rintro e w2 ⟨rfl, g, c, r2⟩
  have S2 : Hid (ST 9 57 1 W W.heap.size 1 1 (some ⟨g, 0, none⟩) c [.string ⟨#[120]⟩] w2) := S1.out.go r2
  clear r2 S1
  go_wp2_with fail
  refine (S.add_full ⟨#[121]⟩ w2 S2.out.ar (by omega) rfl).mono ?_
  rintro e w3 ⟨rfl, b3⟩
  have S3 := Lib.hid (S2.out.later b3)
  clear b3 S2
  go_wp2_with fail
  refine (S.set_yes ⟨#[122]⟩ ⟨#[120]⟩ w3 S3.out.ar 0 (by omega) rfl).mono ?_
  rintro e w4 ⟨rfl, r4⟩
  have S4 : Hid (ST 9 57 1 W W.heap.size 1 1 (some ⟨g, 0, none⟩) c [.string ⟨#[122]⟩] w4) := S3.out.go r4
  clear r4 S3
  go_wp2_with fail
  refine (S.get_yes ⟨#[122]⟩ w4 S4.out.ar 0 (by omega) rfl).mono ?_
  rintro e w' ⟨rfl, rfl⟩
  go_wp2_with fail
  refine (S.get_no w4 S4.out.ar 1 (.inr (by omega))).mono ?_
  rintro e w' ⟨rfl, rfl⟩
  go_wp2_with fail
  refine (I.add_nil 1 w4).mono ?_
  rintro e w' ⟨rfl, rfl⟩
  go_wp2_with fail
  refine (S.set_no ⟨#[113]⟩ w4 S4.out.ar (-1) (.inl (by omega))).mono ?_
  rintro e w' ⟨rfl, rfl⟩
  go_wp2_with fail
  refine (S.len_any w4 S4.out.ar).mono ?_
  rintro e w' ⟨rfl, rfl⟩
  go_wp2_with fail
  refine (S.left_any w4 S4.out.ar (by omega)).mono ?_
  rintro e w' ⟨rfl, q, rfl⟩
  have S5 := Lib.hid (S4.out.drewN q)
  generalize w4.drewN q = w5 at *
  clear S4
  go_wp2_with fail
  refine (I.left_nil w5).mono ?_
  rintro e w' ⟨rfl, rfl⟩
  go_wp2_with fail
  go_ret
  exact ⟨rfl, S5.out.bel⟩
end Go.Proofs.Ytfmjnhiipcocnaa
