/- The walk of RingNone. No condition. -/
import Derived.Test.YtmjogkjdjhhilaaAwk
namespace Go.Proofs.Ytmjogkjdjhhilaa
open Go.RowKit
set_option linter.unusedVariables false

theorem bool_later {b : Bool} {W w : World} {e : Ending} {w' : World} (hB : Below W.heap.size W w) (h : BoolR b w e w') : BoolR b W e w' := ⟨h.1, hB.trans (h.2.mono hB.size)⟩
set_option maxHeartbeats 1000000 in
theorem none_walk (size v : Int) (W : World) : Calls Try.prog 6 #[.int .i64 size, .int .i64 v] W (BoolR true W) := by
  by_cases c1 : size < 0
  · go_enter Try.func6, Try.ntmps6
    go_wp2_with fail
    refine (new_no size W (.inl c1)).mono ?_
    rintro e w' ⟨rfl, rfl⟩
    go_wp2_with fail
    refine (awake_any W).mono ?_
    rintro e w' ⟨rfl, hb⟩
    have HB := Lib.hid hb
    clear hb
    go_wp2_with fail
    go_ret
    exact ⟨rfl, HB.out⟩
  by_cases c2 : 64 < size
  · go_enter Try.func6, Try.ntmps6
    go_wp2_with fail
    refine (new_no size W (.inr c2)).mono ?_
    rintro e w' ⟨rfl, rfl⟩
    go_wp2_with fail
    refine (awake_any W).mono ?_
    rintro e w' ⟨rfl, hb⟩
    have HB := Lib.hid hb
    clear hb
    go_wp2_with fail
    go_ret
    exact ⟨rfl, HB.out⟩
  obtain ⟨n, rfl⟩ := Int.eq_ofNat_of_zero_le (show 0 ≤ size by omega)
  have hn : n ≤ 64 := by omega
  have hn1 : (n : Int) ≤ 64 := by omega
  by_cases c3 : n = 0
  · subst c3
    go_enter Try.func6, Try.ntmps6
    go_wp2_with fail
    refine (new_yes 0 W (by omega)).mono ?_
    rintro e w1 h1
    obtain rfl := h1.1
    have S1 := Lib.hid (ST.start h1)
    clear h1
    go_wp2_with fail
    refine (size_any w1 S1.out.rg).mono ?_
    rintro e w' ⟨rfl, rfl⟩
    go_wp2_with fail
    refine (push_full v w1 S1.out.rg rfl).mono ?_
    rintro e w2 ⟨rfl, r2, o2⟩
    have S2 := Lib.hid (S1.out.go r2 o2)
    clear r2 o2 S1
    go_wp2_with fail
    refine (pop_none w2 S2.out.rg).mono ?_
    rintro e w3 ⟨rfl, r3, o3⟩
    have S3 := Lib.hid (S2.out.go r3 o3)
    clear r3 o3 S2
    go_wp2_with fail
    refine (len_any w3 S3.out.rg).mono ?_
    rintro e w' ⟨rfl, rfl⟩
    go_wp2_with fail
    refine (awake_any w3).mono ?_
    rintro e w4 ⟨rfl, hb⟩
    have HB := Lib.hid (S3.out.later hb)
    clear hb
    go_wp2_with fail
    go_ret
    exact ⟨rfl, HB.out.bel⟩
  · have c4 : (0 : Int) < (n : Int) := by omega
    have c5 : 0 < n := by omega
    go_enter Try.func6, Try.ntmps6
    go_wp2_with fail
    refine (new_yes n W hn).mono ?_
    rintro e w1 h1
    obtain rfl := h1.1
    have S1 := Lib.hid (ST.start h1)
    clear h1
    go_wp2_with fail
    refine (size_any w1 S1.out.rg).mono ?_
    rintro e w' ⟨rfl, rfl⟩
    go_wp2_with fail
    refine (push_room v w1 S1.out.rg hn c5).mono ?_
    rintro e w2 ⟨rfl, r2, o2⟩
    have S2 : Hid (ST W (W.heap.size + 1) W.heap.size n [v] w2) := S1.out.go r2 o2
    clear r2 o2 S1
    go_wp2_with fail
    refine (pop_some w2 S2.out.rg hn).mono ?_
    rintro e w3 ⟨rfl, r3, o3⟩
    have S3 := Lib.hid (S2.out.go r3 o3)
    clear r3 o3 S2
    go_wp2_with fail
    refine (len_any w3 S3.out.rg).mono ?_
    rintro e w' ⟨rfl, rfl⟩
    go_wp2_with fail
    refine (awake_any w3).mono ?_
    rintro e w4 ⟨rfl, hb⟩
    have HB := Lib.hid (S3.out.later hb)
    clear hb
    go_wp2_with fail
    go_ret
    exact ⟨rfl, HB.out.bel⟩
end Go.Proofs.Ytmjogkjdjhhilaa
