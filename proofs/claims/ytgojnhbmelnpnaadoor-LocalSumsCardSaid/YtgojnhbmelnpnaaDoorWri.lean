/- What the registers are when an instruction has been done. Conditions: each theorem's own premises. -/
import Derived.Test.YtgojnhbmelnpnaaDoorNxt
import Derived.Test.YtgojnhbmelnpnaaDoorLsq
namespace Go.Proofs.YtgojnhbmelnpnaaDoor.Pg
open Go.RowKit
set_option linter.unusedVariables false
set_option maxRecDepth 100000

section
variable {P : Program} {op : Oper} {a : Act} {w w' : World} {K : Act → World → Prop} {Q : Exit → Act → World → Prop} {b T ty : Nat} {u v : Array Value}
theorem wp_stG {ops : Array Oper} {rest : List Oper} {j : Nat} {z : Int} {R : World → Prop} (hgd : op.guard = none) (x y : Operand) (ho : op.op = .store 3 x y) (hx : a.eval x = .pointer (some ⟨b, j, none⟩)) (hy : a.eval y = .int .i64 z) (hb : Bk w b T u) (hj : j < u.size)
    (hR : R (w.setCell ⟨b, j, none⟩ (.int .i64 z))) (h : ∀ W, R W → wpList Tryd.prog ops Q rest (a.put op.dst undef) W) : wpList Tryd.prog ops Q (op :: rest) a w := wp_stI hgd x y ho hx hy hb hj (h _ hR)
end
/-- While it writes: the instruction, the registers, what will be answered. -/
structure WrS (w : World) (e : In) (g : Nat → Int) (W : World) : Prop where
  i : Bk W w.heap.size 39 (iW e)
  g : Bk W (w.heap.size + 1) 23 (gR g)
  r : Bk W (w.heap.size + 2) 23 (gR zG)
  bel : Below w.heap.size w W
theorem three_new (w : World) (o p q : Obj) : Below w.heap.size w (((w.alloc o).alloc p).alloc q) := (((Below.refl w.heap.size w).alloc (Nat.le_refl _) _).alloc (by simp) _).alloc (by simp; omega) _
theorem WrS.new (w : World) (e : In) (g : Nat → Int) : WrS w e g (((w.alloc (.cells (iW e) 39)).alloc (.cells (gR g) 23)).alloc (.cells (gR zG) 23)) := by
  refine ⟨((Bk.new w _ 39).later (below_al _ _)).later (below_al _ _), ?_, ?_, three_new w _ _ _⟩
  · have h := (Bk.new (w.alloc (.cells (iW e) 39)) (gR g) 23).later (below_al _ (.cells (gR zG) 23))
    rw [World.size_alloc] at h; exact h
  · have h := Bk.new ((w.alloc (.cells (iW e) 39)).alloc (.cells (gR g) 23)) (gR zG) 23
    rw [World.size_alloc, World.size_alloc] at h; exact h
section
variable {w W W' : World} {e : In} {g : Nat → Int} {k : Nat} {z : Int}
theorem WrS.put (h : WrS w e g W) (hk : k < 8) : WrS w e (upd g k z) (W.setCell ⟨w.heap.size + 1, k, none⟩ (.int .i64 z)) := by
  refine ⟨h.i.set_other (by omega) _, ?_, h.r.set_other (by omega) _, below_set h.bel (by omega) _⟩
  have h1 := h.g.set k (.int .i64 z)
  rwa [gR_set g hk] at h1
theorem WrS.later (h : WrS w e g W) (hb : Below W.heap.size W W') : WrS w e g W' := ⟨h.i.later hb, h.g.later hb, h.r.later hb, h.bel.trans (hb.mono h.bel.size)⟩
theorem WrS.reg (h : WrS w e g W) (hk : k < 8) : W.cell? ⟨w.heap.size + 1, k, none⟩ = some (.int .i64 (g k)) := by rw [h.g.cell, gR_at g hk]
end
section
variable {a b c now : Int} {A : Option Addr} {n cap : Nat} {d : Bool} {cs : List Ca} {g : Nat → Int} {op : Int} {na nb : Nat}
set_option maxHeartbeats 1000000 in
theorem wri_1 (w : World) (hna : na < 8) : Calls Tryd.prog 17 #[vI ⟨1, (na : Int), b, c, A, n, cap, d, cs⟩, .agg (gR g), .int .i64 now] w (GrR (upd g na b) w) := by
  have b1 : (na : Int) < 8 := by omega
  have HS : Hid (WrS w ⟨1, (na : Int), b, c, A, n, cap, d, cs⟩ g (((w.alloc (.cells (iW ⟨1, (na : Int), b, c, A, n, cap, d, cs⟩) 39)).alloc (.cells (gR g) 23)).alloc (.cells (gR zG) 23))) := WrS.new w _ g
  go_enter Tryd.func17, Tryd.ntmps17
  go_wp2_with (first
    | (refine wp_stG (R := WrS w ⟨1, (na : Int), b, c, A, n, cap, d, cs⟩ (upd g na b)) rfl (.tmp 15) (.tmp 14) rfl rfl rfl HS.out.g (by rw [gR_size]; omega) (HS.out.put hna) ?_; intro W hS1; have HS1 := Lib.hid hS1; clear hS1 HS)
    | (refine wp_ldB rfl (.tmp 4) rfl rfl HS1.out.g Tryd.underlying23 rfl i23 ?_)
    | (refine wp_stB rfl (.tmp 6) (.tmp 43) rfl rfl rfl HS1.out.r rfl i23 (gR_one _) ?_))
  refine bodyPost_ret (v := .agg (gR (upd g na b))) ?_ rfl ⟨rfl, below_row HS1.out.bel (by omega) _⟩
  exact results_cell_row (p := 6) (ty := 23) rfl _ _ (w.heap.size + 2) 23 (gR (upd g na b)) (0, 0) _ rfl (HS1.out.r.row _) Tryd.underlying23 rfl i23
set_option maxHeartbeats 1000000 in
theorem wri_16 (w : World) (hna : na < 8) : Calls Tryd.prog 17 #[vI ⟨16, (na : Int), b, c, A, n, cap, d, cs⟩, .agg (gR g), .int .i64 now] w (GrR (upd g na now) w) := by
  have b1 : (na : Int) < 8 := by omega
  have HS : Hid (WrS w ⟨16, (na : Int), b, c, A, n, cap, d, cs⟩ g (((w.alloc (.cells (iW ⟨16, (na : Int), b, c, A, n, cap, d, cs⟩) 39)).alloc (.cells (gR g) 23)).alloc (.cells (gR zG) 23))) := WrS.new w _ g
  go_enter Tryd.func17, Tryd.ntmps17
  go_wp2_with (first
    | (refine wp_stG (R := WrS w ⟨16, (na : Int), b, c, A, n, cap, d, cs⟩ (upd g na now)) rfl (.tmp 42) (.tmp 41) rfl rfl rfl HS.out.g (by rw [gR_size]; omega) (HS.out.put hna) ?_; intro W hS1; have HS1 := Lib.hid hS1; clear hS1 HS)
    | (refine wp_ldB rfl (.tmp 4) rfl rfl HS1.out.g Tryd.underlying23 rfl i23 ?_)
    | (refine wp_stB rfl (.tmp 6) (.tmp 43) rfl rfl rfl HS1.out.r rfl i23 (gR_one _) ?_))
  refine bodyPost_ret (v := .agg (gR (upd g na now))) ?_ rfl ⟨rfl, below_row HS1.out.bel (by omega) _⟩
  exact results_cell_row (p := 6) (ty := 23) rfl _ _ (w.heap.size + 2) 23 (gR (upd g na now)) (0, 0) _ rfl (HS1.out.r.row _) Tryd.underlying23 rfl i23
set_option maxHeartbeats 1000000 in
theorem wri_else (w : World) (h1 : op ≠ 1) (h2 : op ≠ 2) (h3 : op ≠ 3) (h16 : op ≠ 16) : Calls Tryd.prog 17 #[vI ⟨op, a, b, c, A, n, cap, d, cs⟩, .agg (gR g), .int .i64 now] w (GrR (g) w) := by
  have g1 : (op == 1) = false := by simpa using h1
  have g2 : (op == 2) = false := by simpa using h2
  have g3 : (op == 3) = false := by simpa using h3
  have g16 : (op == 16) = false := by simpa using h16
  clear h1 h2 h3 h16
  have HS : Hid (WrS w ⟨op, a, b, c, A, n, cap, d, cs⟩ g (((w.alloc (.cells (iW ⟨op, a, b, c, A, n, cap, d, cs⟩) 39)).alloc (.cells (gR g) 23)).alloc (.cells (gR zG) 23))) := WrS.new w _ g
  go_enter Tryd.func17, Tryd.ntmps17
  go_wp2_with (first
    | (refine wp_ldB rfl (.tmp 4) rfl rfl HS.out.g Tryd.underlying23 rfl i23 ?_)
    | (refine wp_stB rfl (.tmp 6) (.tmp 43) rfl rfl rfl HS.out.r rfl i23 (gR_one _) ?_))
  refine bodyPost_ret (v := .agg (gR (g))) ?_ rfl ⟨rfl, below_row HS.out.bel (by omega) _⟩
  exact results_cell_row (p := 6) (ty := 23) rfl _ _ (w.heap.size + 2) 23 (gR (g)) (0, 0) _ rfl (HS.out.r.row _) Tryd.underlying23 rfl i23
set_option maxHeartbeats 1000000 in
theorem wri_2 (w : World) (hna : na < 8) (hnb : nb < 8) : Calls Tryd.prog 17 #[vI ⟨2, (na : Int), (nb : Int), c, A, n, cap, d, cs⟩, .agg (gR g), .int .i64 now] w (GrR (upd g na (g nb)) w) := by
  have b1 : (na : Int) < 8 := by omega
  have HS : Hid (WrS w ⟨2, (na : Int), (nb : Int), c, A, n, cap, d, cs⟩ g (((w.alloc (.cells (iW ⟨2, (na : Int), (nb : Int), c, A, n, cap, d, cs⟩) 39)).alloc (.cells (gR g) 23)).alloc (.cells (gR zG) 23))) := WrS.new w _ g
  go_enter Tryd.func17, Tryd.ntmps17
  go_wp2_with fail
  change Code.wp _ _ _ _ (((w.alloc (.cells (iW ⟨2, (na : Int), (nb : Int), c, A, n, cap, d, cs⟩) 39)).alloc (.cells (gR g) 23)).alloc (.cells (gR zG) 23))
  generalize ((w.alloc (.cells (iW ⟨2, (na : Int), (nb : Int), c, A, n, cap, d, cs⟩) 39)).alloc (.cells (gR g) 23)).alloc (.cells (gR zG) 23) = W at *
  have b2 : (nb : Int) < 8 := by omega
  have KP : Hid (∀ w', Below W.heap.size W w' → w'.cell? ⟨w.heap.size, 1, none⟩ = some (.int .i64 (na : Int)) ∧ w'.cell? ⟨w.heap.size, 2, none⟩ = some (.int .i64 (nb : Int)) ∧ w'.cell? ⟨w.heap.size + 1, nb, none⟩ = some (.int .i64 (g nb))) := fun w' hb => ⟨(HS.out.later hb).i.cell 1, (HS.out.later hb).i.cell 2, (HS.out.later hb).reg hnb⟩
  refine but_startQ 7 (fun w' => w'.cell? ⟨w.heap.size, 1, none⟩ = some (.int .i64 (na : Int)) ∧ w'.cell? ⟨w.heap.size, 2, none⟩ = some (.int .i64 (nb : Int)) ∧ w'.cell? ⟨w.heap.size + 1, nb, none⟩ = some (.int .i64 (g nb))) (by kernel_rfl) (by as_aux_lemma => kernel_rfl) ?_
  intro hTidy
  have hHeld := KP.out _ ((Below.refl _ _).drew)
  change AnyBut _ _ _ _ _ _ 8 _ _ _
  refine but_takeQ (i := 0) (v := ?_) rfl hTidy (by kernel_rfl) (by kernel_rfl) (fun _ _ _ h => h) (Or.inl ⟨by first | kernel_rfl | rfl, ?_⟩) hHeld ?_
  rotate_left
  · intro w hSw
    (try dsimp only at hSw)
    go_split_ands
    go_simp
    try with_reducible rfl
  try simp only [List.getElem_toArray, List.getElem_cons_zero, Act.put, List.setIfInBounds_toArray, List.set_cons_zero, List.set_cons_succ]
  refine but_takeQ (i := 1) (v := ?_) rfl hTidy (by kernel_rfl) (by kernel_rfl) (fun _ _ _ h => h) (Or.inl ⟨by first | kernel_rfl | rfl, ?_⟩) hHeld ?_
  rotate_left
  · intro w hSw
    (try dsimp only at hSw)
    go_split_ands
    go_simp
    try with_reducible rfl
  try simp only [List.getElem_toArray, List.getElem_cons_succ, List.getElem_cons_zero, Act.put, List.setIfInBounds_toArray, List.set_cons_zero, List.set_cons_succ]
  refine but_takeQ (i := 2) (v := ?_) rfl hTidy (by kernel_rfl) (by kernel_rfl) (fun _ _ _ h => h) (Or.inl ⟨by first | kernel_rfl | rfl, ?_⟩) hHeld ?_
  rotate_left
  · intro w hSw
    (try dsimp only at hSw)
    go_split_ands
    go_simp
    try with_reducible rfl
  try simp only [List.getElem_toArray, List.getElem_cons_succ, List.getElem_cons_zero, Act.put, List.setIfInBounds_toArray, List.set_cons_zero, List.set_cons_succ]
  refine but_takeQ (i := 3) (v := ?_) rfl hTidy (by kernel_rfl) (by kernel_rfl) (fun _ _ _ h => h) (Or.inl ⟨by first | kernel_rfl | rfl, ?_⟩) hHeld ?_
  rotate_left
  · intro w hSw
    (try dsimp only at hSw)
    go_split_ands
    go_simp
    try with_reducible rfl
  try simp only [List.getElem_toArray, List.getElem_cons_succ, List.getElem_cons_zero, Act.put, List.setIfInBounds_toArray, List.set_cons_zero, List.set_cons_succ]
  refine but_takeQ (i := 4) (v := ?_) rfl hTidy (by kernel_rfl) (by kernel_rfl) (fun _ _ _ h => h) (Or.inl ⟨by first | kernel_rfl | rfl, ?_⟩) hHeld ?_
  rotate_left
  · intro w hSw
    (try dsimp only at hSw)
    go_split_ands
    go_simp
    try with_reducible rfl
  try simp only [List.getElem_toArray, List.getElem_cons_succ, List.getElem_cons_zero, Act.put, List.setIfInBounds_toArray, List.set_cons_zero, List.set_cons_succ]
  refine but_takeQ (i := 5) (v := ?_) rfl hTidy (by kernel_rfl) (by kernel_rfl) (fun _ _ _ h => h) (Or.inl ⟨by first | kernel_rfl | rfl, ?_⟩) hHeld ?_
  rotate_left
  · intro w hSw
    (try dsimp only at hSw)
    go_split_ands
    go_simp
    try with_reducible rfl
  try simp only [List.getElem_toArray, List.getElem_cons_succ, List.getElem_cons_zero, Act.put, List.setIfInBounds_toArray, List.set_cons_zero, List.set_cons_succ]
  refine but_takeQ (i := 6) (v := ?_) rfl hTidy (by kernel_rfl) (by kernel_rfl) (fun _ _ _ h => h) (Or.inl ⟨by first | kernel_rfl | rfl, ?_⟩) hHeld ?_
  rotate_left
  · intro w hSw
    (try dsimp only at hSw)
    go_split_ands
    go_simp
    try with_reducible rfl
  try simp only [List.getElem_toArray, List.getElem_cons_succ, List.getElem_cons_zero, Act.put, List.setIfInBounds_toArray, List.set_cons_zero, List.set_cons_succ]
  refine but_one (i := 7) (by kernel_rfl) rfl ?_
  intro K hK
  rw [if_pos (by first | kernel_rfl | rfl)]
  refine wp_stJ (.tmp 24) (.tmp 23) rfl rfl rfl (HS.out.later ((Below.refl _ _).drew)).g (by rw [gR_size]; omega) ?_
  refine hK _ _ (fun h => absurd rfl h) ?_
  clear hK K hHeld
  try simp only [List.getElem_toArray, List.getElem_cons_succ, List.getElem_cons_zero, Act.put]
  refine but_done (by kernel_rfl) ?_
  try clear hHeld
  clear hTidy
  have HS1 : Hid (WrS w ⟨2, (na : Int), (nb : Int), c, A, n, cap, d, cs⟩ (upd g na (g nb)) (W.drew.setCell ⟨w.heap.size + 1, na, none⟩ (.int .i64 (g nb)))) := (HS.out.later ((Below.refl _ _).drew)).put hna
  change Exit.inBlock _ _ _ _ (W.drew.setCell ⟨w.heap.size + 1, na, none⟩ (.int .i64 (g nb)))
  generalize W.drew.setCell ⟨w.heap.size + 1, na, none⟩ (.int .i64 (g nb)) = W1 at *
  clear HS KP
  go_wp2_with (first
    | (refine wp_ldB rfl (.tmp 4) rfl rfl HS1.out.g Tryd.underlying23 rfl i23 ?_)
    | (refine wp_stB rfl (.tmp 6) (.tmp 43) rfl rfl rfl HS1.out.r rfl i23 (gR_one _) ?_))
  refine bodyPost_ret (v := .agg (gR (upd g na (g nb)))) ?_ rfl ⟨rfl, below_row HS1.out.bel (by omega) _⟩
  exact results_cell_row (p := 6) (ty := 23) rfl _ _ (w.heap.size + 2) 23 (gR (upd g na (g nb))) (0, 0) _ rfl (HS1.out.r.row _) Tryd.underlying23 rfl i23
set_option maxHeartbeats 1000000 in
theorem wri_3 (w : World) (hna : na < 8) : Calls Tryd.prog 17 #[vI ⟨3, (na : Int), b, c, A, n, cap, d, cs⟩, .agg (gR g), .int .i64 now] w (GrR (upd g na (ad (g na) b)) w) := by
  have b1 : (na : Int) < 8 := by omega
  have HS : Hid (WrS w ⟨3, (na : Int), b, c, A, n, cap, d, cs⟩ g (((w.alloc (.cells (iW ⟨3, (na : Int), b, c, A, n, cap, d, cs⟩) 39)).alloc (.cells (gR g) 23)).alloc (.cells (gR zG) 23))) := WrS.new w _ g
  go_enter Tryd.func17, Tryd.ntmps17
  go_wp2_with fail
  change Code.wp _ _ _ _ (((w.alloc (.cells (iW ⟨3, (na : Int), b, c, A, n, cap, d, cs⟩) 39)).alloc (.cells (gR g) 23)).alloc (.cells (gR zG) 23))
  generalize ((w.alloc (.cells (iW ⟨3, (na : Int), b, c, A, n, cap, d, cs⟩) 39)).alloc (.cells (gR g) 23)).alloc (.cells (gR zG) 23) = W at *
  have KP : Hid (∀ w', Below W.heap.size W w' → w'.cell? ⟨w.heap.size, 1, none⟩ = some (.int .i64 (na : Int)) ∧ w'.cell? ⟨w.heap.size, 2, none⟩ = some (.int .i64 b) ∧ w'.cell? ⟨w.heap.size + 1, na, none⟩ = some (.int .i64 (g na))) := fun w' hb => ⟨(HS.out.later hb).i.cell 1, (HS.out.later hb).i.cell 2, (HS.out.later hb).reg hna⟩
  refine but_startQ 10 (fun w' => w'.cell? ⟨w.heap.size, 1, none⟩ = some (.int .i64 (na : Int)) ∧ w'.cell? ⟨w.heap.size, 2, none⟩ = some (.int .i64 b) ∧ w'.cell? ⟨w.heap.size + 1, na, none⟩ = some (.int .i64 (g na))) (by kernel_rfl) (by as_aux_lemma => kernel_rfl) ?_
  intro hTidy
  have hHeld := KP.out _ ((Below.refl _ _).drew)
  change AnyBut _ _ _ _ _ _ 11 _ _ _
  refine but_takeQ (i := 0) (v := ?_) rfl hTidy (by kernel_rfl) (by kernel_rfl) (fun _ _ _ h => h) (Or.inl ⟨by first | kernel_rfl | rfl, ?_⟩) hHeld ?_
  rotate_left
  · intro w hSw
    (try dsimp only at hSw)
    go_split_ands
    go_simp
    try with_reducible rfl
  try simp only [List.getElem_toArray, List.getElem_cons_zero, Act.put, List.setIfInBounds_toArray, List.set_cons_zero, List.set_cons_succ]
  refine but_takeQ (i := 1) (v := ?_) rfl hTidy (by kernel_rfl) (by kernel_rfl) (fun _ _ _ h => h) (Or.inl ⟨by first | kernel_rfl | rfl, ?_⟩) hHeld ?_
  rotate_left
  · intro w hSw
    (try dsimp only at hSw)
    go_split_ands
    go_simp
    try with_reducible rfl
  try simp only [List.getElem_toArray, List.getElem_cons_succ, List.getElem_cons_zero, Act.put, List.setIfInBounds_toArray, List.set_cons_zero, List.set_cons_succ]
  refine but_takeQ (i := 2) (v := ?_) rfl hTidy (by kernel_rfl) (by kernel_rfl) (fun _ _ _ h => h) (Or.inl ⟨by first | kernel_rfl | rfl, ?_⟩) hHeld ?_
  rotate_left
  · intro w hSw
    (try dsimp only at hSw)
    go_split_ands
    go_simp
    try with_reducible rfl
  try simp only [List.getElem_toArray, List.getElem_cons_succ, List.getElem_cons_zero, Act.put, List.setIfInBounds_toArray, List.set_cons_zero, List.set_cons_succ]
  refine but_takeQ (i := 3) (v := ?_) rfl hTidy (by kernel_rfl) (by kernel_rfl) (fun _ _ _ h => h) (Or.inl ⟨by first | kernel_rfl | rfl, ?_⟩) hHeld ?_
  rotate_left
  · intro w hSw
    (try dsimp only at hSw)
    go_split_ands
    go_simp
    try with_reducible rfl
  try simp only [List.getElem_toArray, List.getElem_cons_succ, List.getElem_cons_zero, Act.put, List.setIfInBounds_toArray, List.set_cons_zero, List.set_cons_succ]
  refine but_takeQ (i := 4) (v := ?_) rfl hTidy (by kernel_rfl) (by kernel_rfl) (fun _ _ _ h => h) (Or.inl ⟨by first | kernel_rfl | rfl, ?_⟩) hHeld ?_
  rotate_left
  · intro w hSw
    (try dsimp only at hSw)
    go_split_ands
    go_simp
    try with_reducible rfl
  try simp only [List.getElem_toArray, List.getElem_cons_succ, List.getElem_cons_zero, Act.put, List.setIfInBounds_toArray, List.set_cons_zero, List.set_cons_succ]
  refine but_takeQ (i := 5) (v := ?_) rfl hTidy (by kernel_rfl) (by kernel_rfl) (fun _ _ _ h => h) (Or.inl ⟨by first | kernel_rfl | rfl, ?_⟩) hHeld ?_
  rotate_left
  · intro w hSw
    (try dsimp only at hSw)
    go_split_ands
    go_simp
    try with_reducible rfl
  try simp only [List.getElem_toArray, List.getElem_cons_succ, List.getElem_cons_zero, Act.put, List.setIfInBounds_toArray, List.set_cons_zero, List.set_cons_succ]
  refine but_takeQ (i := 6) (v := ?_) rfl hTidy (by kernel_rfl) (by kernel_rfl) (fun _ _ _ h => h) (Or.inl ⟨by first | kernel_rfl | rfl, ?_⟩) hHeld ?_
  rotate_left
  · intro w hSw
    (try dsimp only at hSw)
    go_split_ands
    go_simp
    try with_reducible rfl
  try simp only [List.getElem_toArray, List.getElem_cons_succ, List.getElem_cons_zero, Act.put, List.setIfInBounds_toArray, List.set_cons_zero, List.set_cons_succ]
  refine but_takeQ (i := 7) (v := ?_) rfl hTidy (by kernel_rfl) (by kernel_rfl) (fun _ _ _ h => h) (Or.inl ⟨by first | kernel_rfl | rfl, ?_⟩) hHeld ?_
  rotate_left
  · intro w hSw
    (try dsimp only at hSw)
    go_split_ands
    go_simp
    try with_reducible rfl
  try simp only [List.getElem_toArray, List.getElem_cons_succ, List.getElem_cons_zero, Act.put, List.setIfInBounds_toArray, List.set_cons_zero, List.set_cons_succ]
  refine but_one (i := 8) (by kernel_rfl) rfl ?_
  intro K hK
  rw [if_pos (by first | kernel_rfl | rfl)]
  go_simp
  go_at_call 21
  refine (add_any (g na) b _).mono ?_
  rintro e1 w1 ⟨rfl, rfl⟩
  dsimp only
  have hHeld2 := KP.out _ ((Below.refl _ _).drew)
  refine hK _ _ (fun _ => hHeld2) ?_
  clear hK K hHeld
  have hHeld := hHeld2
  clear hHeld2
  try simp only [List.getElem_toArray, List.getElem_cons_succ, List.getElem_cons_zero, Act.put, List.setIfInBounds_toArray, List.set_cons_zero, List.set_cons_succ]
  refine but_takeQ (i := 9) (v := ?_) rfl hTidy (by kernel_rfl) (by kernel_rfl) (fun _ _ _ h => h) (Or.inl ⟨by first | kernel_rfl | rfl, ?_⟩) hHeld ?_
  rotate_left
  · intro w hSw
    (try dsimp only at hSw)
    go_split_ands
    go_simp
    try with_reducible rfl
  try simp only [List.getElem_toArray, List.getElem_cons_succ, List.getElem_cons_zero, Act.put, List.setIfInBounds_toArray, List.set_cons_zero, List.set_cons_succ]
  refine but_one (i := 10) (by kernel_rfl) rfl ?_
  intro K hK
  rw [if_pos (by first | kernel_rfl | rfl)]
  refine wp_stJ (.tmp 36) (.tmp 35) rfl rfl rfl (HS.out.later ((Below.refl _ _).drew)).g (by rw [gR_size]; omega) ?_
  refine hK _ _ (fun h => absurd rfl h) ?_
  clear hK K hHeld
  try simp only [List.getElem_toArray, List.getElem_cons_succ, List.getElem_cons_zero, Act.put]
  refine but_done (by kernel_rfl) ?_
  try clear hHeld
  clear hTidy
  have HS1 : Hid (WrS w ⟨3, (na : Int), b, c, A, n, cap, d, cs⟩ (upd g na (ad (g na) b)) (W.drew.setCell ⟨w.heap.size + 1, na, none⟩ (.int .i64 (ad (g na) b)))) := (HS.out.later ((Below.refl _ _).drew)).put hna
  change Exit.inBlock _ _ _ _ (W.drew.setCell ⟨w.heap.size + 1, na, none⟩ (.int .i64 (ad (g na) b)))
  generalize W.drew.setCell ⟨w.heap.size + 1, na, none⟩ (.int .i64 (ad (g na) b)) = W1 at *
  clear HS KP
  go_wp2_with (first
    | (refine wp_ldB rfl (.tmp 4) rfl rfl HS1.out.g Tryd.underlying23 rfl i23 ?_)
    | (refine wp_stB rfl (.tmp 6) (.tmp 43) rfl rfl rfl HS1.out.r rfl i23 (gR_one _) ?_))
  refine bodyPost_ret (v := .agg (gR (upd g na (ad (g na) b)))) ?_ rfl ⟨rfl, below_row HS1.out.bel (by omega) _⟩
  exact results_cell_row (p := 6) (ty := 23) rfl _ _ (w.heap.size + 2) 23 (gR (upd g na (ad (g na) b))) (0, 0) _ rfl (HS1.out.r.row _) Tryd.underlying23 rfl i23
end
theorem wri_any {ins : Int} {e : In} (h : mayB ins 16 e = true) (g : Nat → Int) (now : Int) (w : World) : Calls Tryd.prog 17 #[vI e, .agg (gR g), .int .i64 now] w (GrR (wri e g now) w) := by
  by_cases ho : e.op = 1 ∨ e.op = 2 ∨ e.op = 3 ∨ e.op = 16
  · obtain ⟨k, hk, ea⟩ := may_a h (by omega)
    have hb := fun h2 => may_b (e := e) h h2
    obtain ⟨op, a, b, c, A, n, cap, d, cs⟩ := e
    simp only at ho ea hb
    subst ea
    rcases ho with rfl | rfl | rfl | rfl
    · exact wri_1 w hk
    · obtain ⟨m, hm, eb⟩ := hb rfl
      subst eb
      exact wri_2 w hk hm
    · exact wri_3 w hk
    · exact wri_16 w hk
  · obtain ⟨op, a, b, c, A, n, cap, d, cs⟩ := e
    simp only at ho
    have e1 : wri ⟨op, a, b, c, A, n, cap, d, cs⟩ g now = g := by
      unfold wri
      rw [if_neg (by show ¬ op = 1; omega), if_neg (by show ¬ op = 2; omega), if_neg (by show ¬ op = 3; omega), if_neg (by show ¬ op = 16; omega)]
    rw [e1]
    exact wri_else w (by omega) (by omega) (by omega) (by omega)
end Go.Proofs.YtgojnhbmelnpnaaDoor.Pg
