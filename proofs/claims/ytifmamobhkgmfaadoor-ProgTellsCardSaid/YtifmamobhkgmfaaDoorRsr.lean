/- The document's own list of registers. Conditions: each theorem's own premises. -/
import Derived.Test.YtifmamobhkgmfaaDoorFmr
namespace Go.Proofs.YtifmamobhkgmfaaDoor
open Go.RowKit
set_option linter.unusedVariables false

set_option maxHeartbeats 1000000 in
theorem rising_ref (g : Nat → Bool) (w : World) : Calls Tryd.prog 29 #[.agg #[.bool (g 0), .bool (g 1), .bool (g 2), .bool (g 3), .bool (g 4), .bool (g 5), .bool (g 6), .bool (g 7)]] w (ListR (risP g 8) w) := by
  obtain ⟨i0, hi, hz0, hz1, hz2⟩ := info_parts Tryd.inf3
  have HB0 := Lib.hid (below_al w (.cells #[.bool (g 0), .bool (g 1), .bool (g 2), .bool (g 3), .bool (g 4), .bool (g 5), .bool (g 6), .bool (g 7)] 54))
  have HC : Hid (∀ k, k < 8 → ∀ w', Below (w.heap.size + 1) (w.alloc (.cells #[.bool (g 0), .bool (g 1), .bool (g 2), .bool (g 3), .bool (g 4), .bool (g 5), .bool (g 6), .bool (g 7)] 54)) w' → w'.cell? ⟨w.heap.size, k, none⟩ = some (.bool (g k))) := by
    intro k hk w' hb
    rw [cell_blk (hb.block _ (by omega)) k, World.cell?_alloc_at _ _ _ _ rfl]
    match k, hk with
    | 0, _ => rfl
    | 1, _ => rfl
    | 2, _ => rfl
    | 3, _ => rfl
    | 4, _ => rfl
    | 5, _ => rfl
    | 6, _ => rfl
    | 7, _ => rfl
  go_enter Tryd.func29, Tryd.ntmps29
  go_wp2
  go_loopw [3, 4] (fun lv i wr => ∃ k : Nat, k ≤ 8 ∧ i = .int .i64 k ∧ Hid (RisS (w.alloc (.cells #[.bool (g 0), .bool (g 1), .bool (g 2), .bool (g 3), .bool (g 4), .bool (g 5), .bool (g 6), .bool (g 7)] 54)) wr (risP g k) lv)) (fun _ i _ => 8 - (intOf i).toNat)
  case atStart => exact ⟨0, by omega, rfl, Below.refl _ _, World.ownsRow_nil _ _ _ _⟩
  case round =>
    obtain ⟨k, hk, rfl, hS⟩ := hrel
    have hN : w.heap.size < wr.heap.size := by have := hS.out.1.size; simp at this; omega
    by_cases hlt : k < 8
    · have c0 := HC.out k hlt wr (hS.out.1.mono (by simp))
      cases hf : g k with
      | true =>
        rw [hf] at c0
        have HK := Lib.hid (risP_yes hf)
        have hown := hS.out.2.alloc (.cells #[.int .i64 k] 3)
        have hWs : (w.alloc (.cells #[.bool (g 0), .bool (g 1), .bool (g 2), .bool (g 3), .bool (g 4), .bool (g 5), .bool (g 6), .bool (g 7)] 54)).heap.size ≤ (wr.alloc (.cells #[.int .i64 k] 3)).heap.size := Nat.le_trans hS.out.1.size (by simp)
        have hel := risP_len g k
        clear hf
        go_wp2_with (at_builtin; go_loud (refine wpList_append_own _ rfl _ _ 32 rfl (w.alloc (.cells #[.bool (g 0), .bool (g 1), .bool (g 2), .bool (g 3), .bool (g 4), .bool (g 5), .bool (g 6), .bool (g 7)] 54)).heap.size 3 i0 (.int .i64 0) 1 8 Tryd.underlying32 hi hz0 hz1 hz2 rfl (by decide) _ _ _ rfl hown ⟨wr.heap.size, 0, none⟩ 1 1 (nV [(k : Int)]) rfl rfl (news1 wr _ 3) (nV_one _) (by unfold maxLen; omega) (by omega) hWs ?_; intro v' w3 hown' hgrow _; have HE := Lib.hid (hS.out.next hgrow hown'); clear hown' hgrow hown))
        go_roundw
        case rel => exact ⟨k + 1, by omega, by go_num, by show RisS _ _ _ _; rw [HK.out]; exact HE.out⟩
        case measure => simp [intOf]; omega
      | false =>
        rw [hf] at c0
        have HK := Lib.hid (risP_no hf)
        clear hf
        go_wp2_with fail
        go_roundw
        case rel => exact ⟨k + 1, by omega, by go_num, by show RisS _ _ _ _; rw [HK.out]; exact hS.out⟩
        case measure => simp [intOf]; omega
    · have e : k = 8 := by omega
      subst e
      go_wp2
      go_ret
      exact (hS.out.done).later HB0.out
end Go.Proofs.YtifmamobhkgmfaaDoor
