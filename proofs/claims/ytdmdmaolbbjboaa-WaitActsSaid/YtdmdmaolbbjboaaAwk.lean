/- The laws' own example holds. No condition. -/
import Derived.Test.YtdmdmaolbbjboaaAll
namespace Go.Proofs.Ytdmdmaolbbjboaa
open Go.RowKit
set_option linter.unusedVariables false

/-- A Queue of the call's own, the first block that it made, holds l. -/
structure ST (W : World) (l : List Wt) (w : World) : Prop where
  bel : Below W.heap.size W w
  ql : QL w W.heap.size W.heap.size l
theorem ST.start {W w' : World} {e : Ending} (h : NewR W e w') : ST W [] w' := ⟨h.2.2.1, h.2.1⟩
theorem ST.go {W w w' : World} {l l' : List Wt} (h : ST W l w) (f : Fr W.heap.size w w') (q : QL w' W.heap.size W.heap.size l') : ST W l' w' := ⟨h.bel.trans (f.below h.bel.size), q⟩
theorem ST.later {W w w' : World} {l : List Wt} (h : ST W l w) (hb : Below w.heap.size w w') : ST W l w' := ⟨h.bel.trans (hb.mono h.bel.size), h.ql.later hb⟩

set_option maxRecDepth 100000 in
set_option maxHeartbeats 1000000 in
theorem awake_any (W : World) : Calls Try.prog 6 #[] W (BoolR true W) := by
  go_enter Try.func6, Try.ntmps6
  go_wp2_with fail
  refine (new_any W).mono ?_
  rintro e w1 q1
  obtain rfl := q1.1
  have S1 := Lib.hid (ST.start q1)
  clear q1
  go_wp2_with fail
  refine (push_any ⟨1, 0, 0⟩ S1.out.ql (by simp)).mono ?_
  rintro e w2 ⟨rfl, q2, f2⟩
  have S2 := Lib.hid (S1.out.go f2 q2)
  clear q2 f2 S1
  simp only [List.nil_append, List.length_cons, List.length_nil]
  go_wp2_with fail
  refine (push_any ⟨2, 3, 9⟩ S2.out.ql (by simp)).mono ?_
  rintro e w3 ⟨rfl, q3, f3⟩
  have S3 := Lib.hid (S2.out.go f3 q3)
  clear q3 f3 S2
  simp only [List.nil_append, List.cons_append, List.length_cons, List.length_nil]
  go_wp2_with fail
  refine (push_any ⟨1, 1, 0⟩ S3.out.ql (by simp)).mono ?_
  rintro e w4 ⟨rfl, q4, f4⟩
  have S4 := Lib.hid (S3.out.go f4 q4)
  clear q4 f4 S3
  simp only [List.nil_append, List.cons_append, List.length_cons, List.length_nil]
  go_wp2_with fail
  refine (remove_any 1 S4.out.ql (by simp)).mono ?_
  rintro e w5 ⟨rfl, q5, f5⟩
  have S5 : Hid (ST W [⟨2, 3, 9⟩] w5) := S4.out.go f5 q5
  clear q5 f5 S4
  rw [show (List.countP (isT 1) ([] ++ [⟨1, 0, 0⟩] ++ [⟨2, 3, 9⟩] ++ [⟨1, 1, 0⟩]) : Nat) = 2 from rfl]
  go_wp2_with fail
  refine (take_any 2 3 S5.out.ql (by simp)).mono ?_
  rintro e w6 (⟨hno, _⟩ | ⟨l1, x, l2, hl, _, _, rfl, q6, f6⟩)
  · have := hno ⟨2, 3, 9⟩ (by simp)
    simp [isTC] at this
  have hl' : l1 = [] ∧ x = ⟨2, 3, 9⟩ ∧ l2 = [] := by
    cases l1 with
    | nil => simp at hl; exact ⟨rfl, hl.1.symm, hl.2⟩
    | cons a r => simp at hl
  obtain ⟨rfl, rfl, rfl⟩ := hl'
  have S6 : Hid (ST W [] w6) := S5.out.go f6 q6
  clear q6 f6 S5 hl
  unfold wG
  go_wp2_with fail
  have ha : (w6.alloc (.cells #[.int .i64 2, .int .i64 3, .int .i64 9] 28)).heap[w6.heap.size]? = some (.cells #[.int .i64 2, .int .i64 3, .int .i64 9] 28 (0, 0)) := heap_alloc_new _ _
  have S7 := Lib.hid (S6.out.later (below_al w6 (.cells #[.int .i64 2, .int .i64 3, .int .i64 9] 28)))
  clear S6
  generalize w6.heap.size = N6 at *
  generalize w6.alloc (.cells #[.int .i64 2, .int .i64 3, .int .i64 9] 28) = w7 at *
  refine (pop_none S7.out.ql).mono ?_
  rintro e w8 ⟨rfl, q8, f8⟩
  have c8 := cell_of_row w8 N6 2 _ _ _ (f8.at ha (not_isq ha (by decide)))
  have hN : N6 < w8.heap.size := Nat.lt_of_lt_of_le (lt_of_blk ha) f8.size
  have S8 := Lib.hid (S7.out.go f8 q8)
  clear q8 f8 S7 ha
  simp only [List.getElem?_toArray, List.getElem?_cons_succ, List.getElem?_cons_zero] at c8
  unfold wG
  go_wp2_with fail
  refine (len_any (S8.out.later (below_al _ _)).ql).mono ?_
  rintro e w' ⟨rfl, rfl⟩
  go_wp2_with fail
  refine (has_any 2 (S8.out.later (below_al _ _)).ql).mono ?_
  rintro e w' ⟨rfl, rfl⟩
  simp only [List.any_nil]
  go_wp2_with fail
  refine (push_nil ⟨0, 0, 0⟩ _).mono ?_
  rintro e w9 ⟨rfl, hb⟩
  have S9 := Lib.hid ((S8.out.later (below_al _ _)).later hb)
  clear hb S8
  go_wp2_with fail
  refine (remove_nil 1 _).mono ?_
  rintro e w' ⟨rfl, rfl⟩
  go_wp2_with fail
  go_ret
  exact ⟨rfl, S9.out.bel⟩
end Go.Proofs.Ytdmdmaolbbjboaa
