/- Calls of package wait that only read: New, head, Len, and those on no Queue. Conditions: each theorem's own premises. -/
import Derived.Test.YtdmdmaolbbjboaaMem
namespace Go.Proofs.Ytdmdmaolbbjboaa
open Go.RowKit
set_option linter.unusedVariables false

def NewR (w : World) (e : Ending) (w' : World) : Prop := e = .returned (.pointer (some ⟨w.heap.size, 0, none⟩)) ∧ QL w' w.heap.size w.heap.size [] ∧ Below w.heap.size w w' ∧ w'.heap.size = w.heap.size + 1
theorem new_any (w : World) : Calls Try.prog 7 #[] w (NewR w) := by
  go_enter Try.func7, Try.ntmps7
  go_wp2
  go_ret
  refine ⟨rfl, ⟨[], ⟨?_, trivial, List.nodup_nil, Nat.le_refl _, fun m hm => by simp at hm⟩, rfl⟩, below_al _ _, by simp⟩
  exact heap_alloc_new _ _
theorem head_nil (w : World) : Calls Try.prog 17 #[.pointer none] w fun e w' => e = .returned (.pointer none) ∧ w = w' := by
  go_enter Try.func17, Try.ntmps17
  go_wp2
  go_ret
  exact ⟨rfl, rfl⟩
theorem head_any {w : World} {B q : Nat} {ns : Ns} (h : LQ w B q ns) : Calls Try.prog 17 #[.pointer (some ⟨q, 0, none⟩)] w fun e w' => e = .returned (.pointer (adr (hd ns none))) ∧ w = w' := by
  have h0 := h.hq.c0
  clear h
  go_enter Try.func17, Try.ntmps17
  go_wp2
  go_ret
  exact ⟨rfl, rfl⟩
theorem len_any {w : World} {B q : Nat} {l : List Wt} (h : QL w B q l) : Calls Try.prog 15 #[.pointer (some ⟨q, 0, none⟩)] w fun e w' => e = .returned (.int .i64 l.length) ∧ w = w' := by
  obtain ⟨ns, h, rfl⟩ := h
  have h0 := h.hq.c2
  rw [List.length_map]
  clear h
  go_enter Try.func15, Try.ntmps15
  go_wp2
  go_ret
  exact ⟨rfl, rfl⟩
theorem push_nil (x : Wt) (w : World) : Calls Try.prog 8 #[.pointer none, wG x] w fun e w' => e = .returned (.int .i64 0) ∧ Below w.heap.size w w' := by
  unfold wG
  go_enter Try.func8, Try.ntmps8
  go_wp2
  go_ret
  exact ⟨rfl, below_al _ _⟩
theorem remove_nil (t : Int) (w : World) : Calls Try.prog 10 #[.pointer none, .int .i64 t] w fun e w' => e = .returned (.int .i64 0) ∧ w = w' := by
  go_enter Try.func10, Try.ntmps10
  go_wp2_with fail
  refine (head_nil w).mono ?_
  rintro e w' ⟨rfl, rfl⟩
  go_wp2_with fail
  go_loopw [5, 6] (fun g l wr => g = .int .i64 0 ∧ l = .pointer none ∧ wr = w) (fun _ _ _ => 0)
  case atStart => exact ⟨rfl, rfl, rfl⟩
  case round =>
    obtain ⟨rfl, rfl, rfl⟩ := hrel
    go_wp2_with fail
    go_ret
    exact ⟨rfl, rfl⟩
end Go.Proofs.Ytdmdmaolbbjboaa
