/- The document's own names and lists. Conditions: each theorem's own premises. -/
import Derived.Test.YtifmamobhkgmfaaDoorFmr
namespace Go.Proofs.YtifmamobhkgmfaaDoor
open Go.RowKit
set_option linter.unusedVariables false

set_option maxRecDepth 100000 in
set_option maxHeartbeats 1000000 in
theorem name_ref_out (op : Int) (h : op < 0 ∨ 33 ≤ op) (w : World) : Calls Tryd.prog 13 #[.int .i64 op] w (StrR ⟨#[]⟩ w) := by
  rcases h with h | h
  · go_enter Tryd.func13, Tryd.ntmps13
    go_wp2
    go_ret
    exact ⟨rfl, below_al _ _⟩
  · have h0 : ¬ op < 0 := by omega
    go_enter Tryd.func13, Tryd.ntmps13
    go_wp2
    go_ret
    exact ⟨rfl, below_al _ _⟩
set_option maxRecDepth 100000 in
set_option maxHeartbeats 1000000 in
theorem name_ref0 (w : World) : Calls Tryd.prog 13 #[.int .i64 0] w (StrR ⟨(row 0).nm.toArray⟩ w) := by
  go_enter Tryd.func13, Tryd.ntmps13
  go_wp2
  go_ret
  exact ⟨rfl, below_al _ _⟩
set_option maxRecDepth 100000 in
set_option maxHeartbeats 1000000 in
theorem name_ref1 (w : World) : Calls Tryd.prog 13 #[.int .i64 1] w (StrR ⟨(row 1).nm.toArray⟩ w) := by
  go_enter Tryd.func13, Tryd.ntmps13
  go_wp2
  go_ret
  exact ⟨rfl, below_al _ _⟩
set_option maxRecDepth 100000 in
set_option maxHeartbeats 1000000 in
theorem name_ref2 (w : World) : Calls Tryd.prog 13 #[.int .i64 2] w (StrR ⟨(row 2).nm.toArray⟩ w) := by
  go_enter Tryd.func13, Tryd.ntmps13
  go_wp2
  go_ret
  exact ⟨rfl, below_al _ _⟩
set_option maxRecDepth 100000 in
set_option maxHeartbeats 1000000 in
theorem name_ref3 (w : World) : Calls Tryd.prog 13 #[.int .i64 3] w (StrR ⟨(row 3).nm.toArray⟩ w) := by
  go_enter Tryd.func13, Tryd.ntmps13
  go_wp2
  go_ret
  exact ⟨rfl, below_al _ _⟩
set_option maxRecDepth 100000 in
set_option maxHeartbeats 1000000 in
theorem name_ref4 (w : World) : Calls Tryd.prog 13 #[.int .i64 4] w (StrR ⟨(row 4).nm.toArray⟩ w) := by
  go_enter Tryd.func13, Tryd.ntmps13
  go_wp2
  go_ret
  exact ⟨rfl, below_al _ _⟩
set_option maxRecDepth 100000 in
set_option maxHeartbeats 1000000 in
theorem name_ref5 (w : World) : Calls Tryd.prog 13 #[.int .i64 5] w (StrR ⟨(row 5).nm.toArray⟩ w) := by
  go_enter Tryd.func13, Tryd.ntmps13
  go_wp2
  go_ret
  exact ⟨rfl, below_al _ _⟩
set_option maxRecDepth 100000 in
set_option maxHeartbeats 1000000 in
theorem name_ref6 (w : World) : Calls Tryd.prog 13 #[.int .i64 6] w (StrR ⟨(row 6).nm.toArray⟩ w) := by
  go_enter Tryd.func13, Tryd.ntmps13
  go_wp2
  go_ret
  exact ⟨rfl, below_al _ _⟩
set_option maxRecDepth 100000 in
set_option maxHeartbeats 1000000 in
theorem name_ref7 (w : World) : Calls Tryd.prog 13 #[.int .i64 7] w (StrR ⟨(row 7).nm.toArray⟩ w) := by
  go_enter Tryd.func13, Tryd.ntmps13
  go_wp2
  go_ret
  exact ⟨rfl, below_al _ _⟩
set_option maxRecDepth 100000 in
set_option maxHeartbeats 1000000 in
theorem name_ref8 (w : World) : Calls Tryd.prog 13 #[.int .i64 8] w (StrR ⟨(row 8).nm.toArray⟩ w) := by
  go_enter Tryd.func13, Tryd.ntmps13
  go_wp2
  go_ret
  exact ⟨rfl, below_al _ _⟩
set_option maxRecDepth 100000 in
set_option maxHeartbeats 1000000 in
theorem name_ref9 (w : World) : Calls Tryd.prog 13 #[.int .i64 9] w (StrR ⟨(row 9).nm.toArray⟩ w) := by
  go_enter Tryd.func13, Tryd.ntmps13
  go_wp2
  go_ret
  exact ⟨rfl, below_al _ _⟩
set_option maxRecDepth 100000 in
set_option maxHeartbeats 1000000 in
theorem name_ref10 (w : World) : Calls Tryd.prog 13 #[.int .i64 10] w (StrR ⟨(row 10).nm.toArray⟩ w) := by
  go_enter Tryd.func13, Tryd.ntmps13
  go_wp2
  go_ret
  exact ⟨rfl, below_al _ _⟩
set_option maxRecDepth 100000 in
set_option maxHeartbeats 1000000 in
theorem name_ref11 (w : World) : Calls Tryd.prog 13 #[.int .i64 11] w (StrR ⟨(row 11).nm.toArray⟩ w) := by
  go_enter Tryd.func13, Tryd.ntmps13
  go_wp2
  go_ret
  exact ⟨rfl, below_al _ _⟩
set_option maxRecDepth 100000 in
set_option maxHeartbeats 1000000 in
theorem name_ref12 (w : World) : Calls Tryd.prog 13 #[.int .i64 12] w (StrR ⟨(row 12).nm.toArray⟩ w) := by
  go_enter Tryd.func13, Tryd.ntmps13
  go_wp2
  go_ret
  exact ⟨rfl, below_al _ _⟩
set_option maxRecDepth 100000 in
set_option maxHeartbeats 1000000 in
theorem name_ref13 (w : World) : Calls Tryd.prog 13 #[.int .i64 13] w (StrR ⟨(row 13).nm.toArray⟩ w) := by
  go_enter Tryd.func13, Tryd.ntmps13
  go_wp2
  go_ret
  exact ⟨rfl, below_al _ _⟩
set_option maxRecDepth 100000 in
set_option maxHeartbeats 1000000 in
theorem name_ref14 (w : World) : Calls Tryd.prog 13 #[.int .i64 14] w (StrR ⟨(row 14).nm.toArray⟩ w) := by
  go_enter Tryd.func13, Tryd.ntmps13
  go_wp2
  go_ret
  exact ⟨rfl, below_al _ _⟩
set_option maxRecDepth 100000 in
set_option maxHeartbeats 1000000 in
theorem name_ref15 (w : World) : Calls Tryd.prog 13 #[.int .i64 15] w (StrR ⟨(row 15).nm.toArray⟩ w) := by
  go_enter Tryd.func13, Tryd.ntmps13
  go_wp2
  go_ret
  exact ⟨rfl, below_al _ _⟩
set_option maxRecDepth 100000 in
set_option maxHeartbeats 1000000 in
theorem name_ref16 (w : World) : Calls Tryd.prog 13 #[.int .i64 16] w (StrR ⟨(row 16).nm.toArray⟩ w) := by
  go_enter Tryd.func13, Tryd.ntmps13
  go_wp2
  go_ret
  exact ⟨rfl, below_al _ _⟩
set_option maxRecDepth 100000 in
set_option maxHeartbeats 1000000 in
theorem name_ref17 (w : World) : Calls Tryd.prog 13 #[.int .i64 17] w (StrR ⟨(row 17).nm.toArray⟩ w) := by
  go_enter Tryd.func13, Tryd.ntmps13
  go_wp2
  go_ret
  exact ⟨rfl, below_al _ _⟩
set_option maxRecDepth 100000 in
set_option maxHeartbeats 1000000 in
theorem name_ref18 (w : World) : Calls Tryd.prog 13 #[.int .i64 18] w (StrR ⟨(row 18).nm.toArray⟩ w) := by
  go_enter Tryd.func13, Tryd.ntmps13
  go_wp2
  go_ret
  exact ⟨rfl, below_al _ _⟩
set_option maxRecDepth 100000 in
set_option maxHeartbeats 1000000 in
theorem name_ref19 (w : World) : Calls Tryd.prog 13 #[.int .i64 19] w (StrR ⟨(row 19).nm.toArray⟩ w) := by
  go_enter Tryd.func13, Tryd.ntmps13
  go_wp2
  go_ret
  exact ⟨rfl, below_al _ _⟩
set_option maxRecDepth 100000 in
set_option maxHeartbeats 1000000 in
theorem name_ref20 (w : World) : Calls Tryd.prog 13 #[.int .i64 20] w (StrR ⟨(row 20).nm.toArray⟩ w) := by
  go_enter Tryd.func13, Tryd.ntmps13
  go_wp2
  go_ret
  exact ⟨rfl, below_al _ _⟩
set_option maxRecDepth 100000 in
set_option maxHeartbeats 1000000 in
theorem name_ref21 (w : World) : Calls Tryd.prog 13 #[.int .i64 21] w (StrR ⟨(row 21).nm.toArray⟩ w) := by
  go_enter Tryd.func13, Tryd.ntmps13
  go_wp2
  go_ret
  exact ⟨rfl, below_al _ _⟩
set_option maxRecDepth 100000 in
set_option maxHeartbeats 1000000 in
theorem name_ref22 (w : World) : Calls Tryd.prog 13 #[.int .i64 22] w (StrR ⟨(row 22).nm.toArray⟩ w) := by
  go_enter Tryd.func13, Tryd.ntmps13
  go_wp2
  go_ret
  exact ⟨rfl, below_al _ _⟩
set_option maxRecDepth 100000 in
set_option maxHeartbeats 1000000 in
theorem name_ref23 (w : World) : Calls Tryd.prog 13 #[.int .i64 23] w (StrR ⟨(row 23).nm.toArray⟩ w) := by
  go_enter Tryd.func13, Tryd.ntmps13
  go_wp2
  go_ret
  exact ⟨rfl, below_al _ _⟩
set_option maxRecDepth 100000 in
set_option maxHeartbeats 1000000 in
theorem name_ref24 (w : World) : Calls Tryd.prog 13 #[.int .i64 24] w (StrR ⟨(row 24).nm.toArray⟩ w) := by
  go_enter Tryd.func13, Tryd.ntmps13
  go_wp2
  go_ret
  exact ⟨rfl, below_al _ _⟩
set_option maxRecDepth 100000 in
set_option maxHeartbeats 1000000 in
theorem name_ref25 (w : World) : Calls Tryd.prog 13 #[.int .i64 25] w (StrR ⟨(row 25).nm.toArray⟩ w) := by
  go_enter Tryd.func13, Tryd.ntmps13
  go_wp2
  go_ret
  exact ⟨rfl, below_al _ _⟩
set_option maxRecDepth 100000 in
set_option maxHeartbeats 1000000 in
theorem name_ref26 (w : World) : Calls Tryd.prog 13 #[.int .i64 26] w (StrR ⟨(row 26).nm.toArray⟩ w) := by
  go_enter Tryd.func13, Tryd.ntmps13
  go_wp2
  go_ret
  exact ⟨rfl, below_al _ _⟩
set_option maxRecDepth 100000 in
set_option maxHeartbeats 1000000 in
theorem name_ref27 (w : World) : Calls Tryd.prog 13 #[.int .i64 27] w (StrR ⟨(row 27).nm.toArray⟩ w) := by
  go_enter Tryd.func13, Tryd.ntmps13
  go_wp2
  go_ret
  exact ⟨rfl, below_al _ _⟩
set_option maxRecDepth 100000 in
set_option maxHeartbeats 1000000 in
theorem name_ref28 (w : World) : Calls Tryd.prog 13 #[.int .i64 28] w (StrR ⟨(row 28).nm.toArray⟩ w) := by
  go_enter Tryd.func13, Tryd.ntmps13
  go_wp2
  go_ret
  exact ⟨rfl, below_al _ _⟩
set_option maxRecDepth 100000 in
set_option maxHeartbeats 1000000 in
theorem name_ref29 (w : World) : Calls Tryd.prog 13 #[.int .i64 29] w (StrR ⟨(row 29).nm.toArray⟩ w) := by
  go_enter Tryd.func13, Tryd.ntmps13
  go_wp2
  go_ret
  exact ⟨rfl, below_al _ _⟩
set_option maxRecDepth 100000 in
set_option maxHeartbeats 1000000 in
theorem name_ref30 (w : World) : Calls Tryd.prog 13 #[.int .i64 30] w (StrR ⟨(row 30).nm.toArray⟩ w) := by
  go_enter Tryd.func13, Tryd.ntmps13
  go_wp2
  go_ret
  exact ⟨rfl, below_al _ _⟩
set_option maxRecDepth 100000 in
set_option maxHeartbeats 1000000 in
theorem name_ref31 (w : World) : Calls Tryd.prog 13 #[.int .i64 31] w (StrR ⟨(row 31).nm.toArray⟩ w) := by
  go_enter Tryd.func13, Tryd.ntmps13
  go_wp2
  go_ret
  exact ⟨rfl, below_al _ _⟩
set_option maxRecDepth 100000 in
set_option maxHeartbeats 1000000 in
theorem name_ref32 (w : World) : Calls Tryd.prog 13 #[.int .i64 32] w (StrR ⟨(row 32).nm.toArray⟩ w) := by
  go_enter Tryd.func13, Tryd.ntmps13
  go_wp2
  go_ret
  exact ⟨rfl, below_al _ _⟩
theorem name_ref (op : Int) (w : World) : Calls Tryd.prog 13 #[.int .i64 op] w (StrR (nmB op) w) := by
  by_cases h : op < 0 ∨ 33 ≤ op
  · have e : nmB op = ⟨#[]⟩ := by unfold nmB rowI; rw [if_neg (by omega)]
    rw [e]; exact name_ref_out op h w
  · obtain ⟨k, rfl⟩ := Int.eq_ofNat_of_zero_le (show 0 ≤ op by omega)
    have hk : k < 33 := by omega
    have e : nmB k = ⟨(row k).nm.toArray⟩ := by
      by_cases h0 : k = 0
      · subst h0; rfl
      · unfold nmB; rw [rowI_nat k (by omega) (by omega)]
    rw [e]
    clear h e
    match k, hk with
    | 0, _ => exact name_ref0 w
    | 1, _ => exact name_ref1 w
    | 2, _ => exact name_ref2 w
    | 3, _ => exact name_ref3 w
    | 4, _ => exact name_ref4 w
    | 5, _ => exact name_ref5 w
    | 6, _ => exact name_ref6 w
    | 7, _ => exact name_ref7 w
    | 8, _ => exact name_ref8 w
    | 9, _ => exact name_ref9 w
    | 10, _ => exact name_ref10 w
    | 11, _ => exact name_ref11 w
    | 12, _ => exact name_ref12 w
    | 13, _ => exact name_ref13 w
    | 14, _ => exact name_ref14 w
    | 15, _ => exact name_ref15 w
    | 16, _ => exact name_ref16 w
    | 17, _ => exact name_ref17 w
    | 18, _ => exact name_ref18 w
    | 19, _ => exact name_ref19 w
    | 20, _ => exact name_ref20 w
    | 21, _ => exact name_ref21 w
    | 22, _ => exact name_ref22 w
    | 23, _ => exact name_ref23 w
    | 24, _ => exact name_ref24 w
    | 25, _ => exact name_ref25 w
    | 26, _ => exact name_ref26 w
    | 27, _ => exact name_ref27 w
    | 28, _ => exact name_ref28 w
    | 29, _ => exact name_ref29 w
    | 30, _ => exact name_ref30 w
    | 31, _ => exact name_ref31 w
    | 32, _ => exact name_ref32 w
    | k + 33, hk => exact absurd hk (by omega)
end Go.Proofs.YtifmamobhkgmfaaDoor
