/- What Take of package expire does. Conditions: each theorem's own premises. -/
import Derived.Test.YtmadcnpkaijllaaGreatTmsm
namespace Go.Proofs.YtmadcnpkaijllaaGreat
open Go.RowKit
set_option linter.unusedVariables false
set_option maxRecDepth 100000
/-- It comes again: its next time is one, and after now. -/
def Gon (wh per now : Int) : Prop := nxB wh per now = true ∧ now < nx wh per now
instance (wh per now : Int) : Decidable (Gon wh per now) := inferInstanceAs (Decidable (_ ∧ _))
theorem nxB_all {wh per now : Int} (h : nxB wh per now = true) : 1 ≤ per ∧ 0 ≤ wh ∧ 0 ≤ now ∧ wh ≤ 4611686018427387904 ∧ per ≤ 4611686018427387904 ∧ now ≤ 4611686018427387904 := by
  simpa [nxB] using h
section
variable {B t o b c n n' N N' : Nat} {vA vL : Value} {p p' : Option Nat} {S S' : List It} {g g' : Int → Int} {w w' : World} {e : Ending} {v : Value}
/-- A block that is none of the timers'. -/
def Far (s o b c : Nat) (p : Option Nat) : Prop := s ≠ o ∧ s ≠ b ∧ s ≠ c ∧ p ≠ some s
theorem TT.far (h : TT B t vA vL o b c p n N S g w) : Far w.heap.size o b c p := by
  have h1 := h.hg.lo
  have h2 := h.hg.lb
  have h3 := h.pm.lt
  exact ⟨by omega, by omega, by omega, fun e => by have := (h.hg.lp e).2; omega⟩
theorem Blk.tc {s : Nat} {x : It} (h : Blk w s x) (f : Far s o b c p) (hc : TC o b c p p' w w') : Blk w' s x := (hc.block s (lt_of_blk h) f.1 f.2.1 f.2.2.1 f.2.2.2).trans h
theorem XC.two {s : Nat} {x : It} (h : XC B t vA vL o b c p n N S g v w e w') (hb : Blk w s x) (f : Far s o b c p) : w'.cell? ⟨s, 0, none⟩ = some (.int .i64 x.id) ∧ w'.cell? ⟨t, 1, none⟩ = some (.pointer (some ⟨o, 0, none⟩)) := by
  obtain ⟨_, p1, h1, h2⟩ := h
  exact ⟨(hb.tc f h2).cells.1, h1.c0⟩
set_option maxHeartbeats 4000000 in
theorem again_end {x : It} {now : Int} (h : TT B t vA vL o b c p n N S g w) (hx : x ∈ S) (hl : S.length ≤ 1000) (hg : ¬ Gon x.w (g x.id) now) :
    Calls Tryz.prog 75 #[.pointer (some ⟨t, 1, none⟩), vI x, .int .i64 now] w (XC B t vA vL o b c p n N (del x.id S) (fput g x.id 0) (.tuple #[]) w) := by
  have HA := Lib.hid h
  have hk := h.hg.wf hx
  clear h
  have HB2 := Lib.hid (below_al w (.cells #[.int .i64 x.id, .int .i64 x.w, .int .i64 x.s] 139))
  obtain ⟨s, hs⟩ : ∃ s, s = w.heap.size := ⟨_, rfl⟩
  have X1 := Lib.hid (Blk.new w x)
  have H1 := Lib.hid (HA.out.later HB2.out)
  obtain ⟨en, xn, hcl, hor⟩ : ∃ en xn : Int, (∀ w, Calls Tryz.prog 93 #[.int .i64 x.w, .int .i64 (g x.id), .int .i64 now] w fun e w' => e = .returned (.tuple #[.int .i64 xn, .int .i64 en]) ∧ w = w') ∧ (en = 1 ∨ en = 0 ∧ xn ≤ now) := by
    by_cases hb : nxB x.w (g x.id) now = true
    · obtain ⟨a1, a2, a3, a4, a5, a6⟩ := nxB_all hb
      exact ⟨0, nx x.w (g x.id) now, fun w => next_yes _ _ _ w a1 a2 a3 a4 a5 a6, .inr ⟨rfl, by
        have h9 : ¬ now < nx x.w (g x.id) now := fun e => hg ⟨hb, e⟩
        omega⟩⟩
    · exact ⟨1, 0, fun w => next_no _ _ _ w (by simpa using hb), .inl rfl⟩
  go_enter Tryz.func75, Tryz.ntmps75
  go_upto_region 1 with (fail)
  rw [← hs] at X1 ⊢
  clear hs
  generalize w.alloc (.cells #[.int .i64 x.id, .int .i64 x.w, .int .i64 x.s] 139) = w2 at *
  have KP : Hid (∀ w', Below w2.heap.size w2 w' → w'.cell? ⟨s, 0, none⟩ = some (.int .i64 x.id) ∧ w'.cell? ⟨s, 1, none⟩ = some (.int .i64 x.w) ∧ w'.cell? ⟨t, 2, none⟩ = some (.map (some c)) ∧ (Instr.lookup 62 (.map (some c)) (.int .i64 x.id) false).run Tryz.prog w' = .ok (.int .i64 (g x.id)) w') := fun w' hb => by
    have h1 := H1.out.later hb
    have h2 := (X1.out.later hb).cells
    exact ⟨h2.1, h2.2.1, h1.c1, h1.pm.get hk⟩
  refine but_start 1000 (fun w' => w'.cell? ⟨s, 0, none⟩ = some (.int .i64 x.id) ∧ w'.cell? ⟨s, 1, none⟩ = some (.int .i64 x.w) ∧ w'.cell? ⟨t, 2, none⟩ = some (.map (some c)) ∧ (Instr.lookup 62 (.map (some c)) (.int .i64 x.id) false).run Tryz.prog w' = .ok (.int .i64 (g x.id)) w') (by kernel_rfl) ?_
  have hHeld := KP.out w2.drew (Below.refl _ _).drew
  change AnyBut _ _ _ _ _ _ 16 _ _ _
  refine but_take (i := 0) (v := ?_) rfl (by kernel_rfl) (by kernel_rfl) (by kernel_rfl) (by kernel_rfl) (fun _ _ _ h => h) (Or.inl ⟨by rfl, ?_⟩) hHeld ?_
  rotate_left
  · intro w hSw
    (try dsimp only at hSw)
    go_split_ands
    go_simp
    try with_reducible rfl
  try simp only [List.getElem_toArray, List.getElem_cons_zero, Act.put, List.setIfInBounds_toArray, List.set_cons_zero, List.set_cons_succ]
  refine but_take (i := 1) (v := ?_) rfl (by kernel_rfl) (by kernel_rfl) (by kernel_rfl) (by kernel_rfl) (fun _ _ _ h => h) (Or.inl ⟨by rfl, ?_⟩) hHeld ?_
  rotate_left
  · intro w hSw
    (try dsimp only at hSw)
    go_split_ands
    go_simp
    try with_reducible rfl
  try simp only [List.getElem_toArray, List.getElem_cons_succ, List.getElem_cons_zero, Act.put, List.setIfInBounds_toArray, List.set_cons_zero, List.set_cons_succ]
  refine but_take (i := 2) (v := ?_) rfl (by kernel_rfl) (by kernel_rfl) (by kernel_rfl) (by kernel_rfl) (fun _ _ _ h => h) (Or.inl ⟨by rfl, ?_⟩) hHeld ?_
  rotate_left
  · intro w hSw
    (try dsimp only at hSw)
    go_split_ands
    go_simp
    try with_reducible rfl
  try simp only [List.getElem_toArray, List.getElem_cons_succ, List.getElem_cons_zero, Act.put, List.setIfInBounds_toArray, List.set_cons_zero, List.set_cons_succ]
  refine but_take (i := 3) (v := ?_) rfl (by kernel_rfl) (by kernel_rfl) (by kernel_rfl) (by kernel_rfl) (fun _ _ _ h => h) (Or.inl ⟨by rfl, ?_⟩) hHeld ?_
  rotate_left
  · intro w hSw
    (try dsimp only at hSw)
    go_split_ands
    go_simp
    try with_reducible rfl
  try simp only [List.getElem_toArray, List.getElem_cons_succ, List.getElem_cons_zero, Act.put, List.setIfInBounds_toArray, List.set_cons_zero, List.set_cons_succ]
  refine but_take (i := 4) (v := ?_) rfl (by kernel_rfl) (by kernel_rfl) (by kernel_rfl) (by kernel_rfl) (fun _ _ _ h => h) (Or.inl ⟨by rfl, ?_⟩) hHeld ?_
  rotate_left
  · intro w hSw
    (try dsimp only at hSw)
    go_split_ands
    go_simp
    try with_reducible rfl
  try simp only [List.getElem_toArray, List.getElem_cons_succ, List.getElem_cons_zero, Act.put, List.setIfInBounds_toArray, List.set_cons_zero, List.set_cons_succ]
  refine but_take (i := 5) (v := ?_) rfl (by kernel_rfl) (by kernel_rfl) (by kernel_rfl) (by kernel_rfl) (fun _ _ _ h => h) (Or.inl ⟨by rfl, ?_⟩) hHeld ?_
  rotate_left
  · intro w hSw
    (try dsimp only at hSw)
    go_split_ands
    go_simp
    try with_reducible rfl
  try simp only [List.getElem_toArray, List.getElem_cons_succ, List.getElem_cons_zero, Act.put, List.setIfInBounds_toArray, List.set_cons_zero, List.set_cons_succ]
  refine but_take (i := 6) (v := ?_) rfl (by kernel_rfl) (by kernel_rfl) (by kernel_rfl) (by kernel_rfl) (fun _ _ _ h => h) (Or.inl ⟨by rfl, ?_⟩) hHeld ?_
  rotate_left
  · intro w hSw
    (try dsimp only at hSw)
    go_split_ands
    go_simp
    try with_reducible rfl
  try simp only [List.getElem_toArray, List.getElem_cons_succ, List.getElem_cons_zero, Act.put, List.setIfInBounds_toArray, List.set_cons_zero, List.set_cons_succ]
  refine but_take (i := 7) (v := ?_) rfl (by kernel_rfl) (by kernel_rfl) (by kernel_rfl) (by kernel_rfl) (fun _ _ _ h => h) (Or.inl ⟨by rfl, ?_⟩) hHeld ?_
  rotate_left
  · intro w hSw
    (try dsimp only at hSw)
    go_split_ands
    go_simp
    try with_reducible rfl
  try simp only [List.getElem_toArray, List.getElem_cons_succ, List.getElem_cons_zero, Act.put, List.setIfInBounds_toArray, List.set_cons_zero, List.set_cons_succ]
  refine but_take (i := 8) (v := ?_) rfl (by kernel_rfl) (by kernel_rfl) (by kernel_rfl) (by kernel_rfl) (fun _ _ _ h => h) (Or.inl ⟨by rfl, ?_⟩) hHeld ?_
  rotate_left
  · intro w hSw
    (try dsimp only at hSw)
    go_split_ands
    go_simp
    try with_reducible rfl
  try simp only [List.getElem_toArray, List.getElem_cons_succ, List.getElem_cons_zero, Act.put, List.setIfInBounds_toArray, List.set_cons_zero, List.set_cons_succ]
  refine but_take (i := 9) (v := ?_) rfl (by kernel_rfl) (by kernel_rfl) (by kernel_rfl) (by kernel_rfl) (fun _ _ _ h => h) (Or.inl ⟨by rfl, ?_⟩) hHeld ?_
  rotate_left
  · intro w hSw
    (try dsimp only at hSw)
    go_split_ands
    go_simp
    try with_reducible rfl
  try simp only [List.getElem_toArray, List.getElem_cons_succ, List.getElem_cons_zero, Act.put, List.setIfInBounds_toArray, List.set_cons_zero, List.set_cons_succ]
  refine but_one (i := 10) (by kernel_rfl) rfl ?_
  intro K hK
  go_simp
  go_at_call 93
  refine (hcl _).mono ?_
  rintro e w9 ⟨rfl, rfl⟩
  try dsimp only
  have hHeld2 := hHeld
  refine hK _ _ (fun _ => hHeld2) ?_
  clear hK K hHeld
  have hHeld := hHeld2
  clear hHeld2
  try simp only [List.getElem_toArray, List.getElem_cons_succ, List.getElem_cons_zero, Act.put, List.setIfInBounds_toArray, List.set_cons_zero, List.set_cons_succ]
  refine but_take (i := 11) (v := ?_) rfl (by kernel_rfl) (by kernel_rfl) (by kernel_rfl) (by kernel_rfl) (fun _ _ _ h => h) (Or.inl ⟨by rfl, ?_⟩) hHeld ?_
  rotate_left
  · intro w hSw
    (try dsimp only at hSw)
    go_split_ands
    go_simp
    try with_reducible rfl
  try simp only [List.getElem_toArray, List.getElem_cons_succ, List.getElem_cons_zero, Act.put, List.setIfInBounds_toArray, List.set_cons_zero, List.set_cons_succ]
  refine but_take (i := 12) (v := ?_) rfl (by kernel_rfl) (by kernel_rfl) (by kernel_rfl) (by kernel_rfl) (fun _ _ _ h => h) (Or.inl ⟨by rfl, ?_⟩) hHeld ?_
  rotate_left
  · intro w hSw
    (try dsimp only at hSw)
    go_split_ands
    go_simp
    try with_reducible rfl
  try simp only [List.getElem_toArray, List.getElem_cons_succ, List.getElem_cons_zero, Act.put, List.setIfInBounds_toArray, List.set_cons_zero, List.set_cons_succ]
  refine but_take (i := 13) (v := ?_) rfl (by kernel_rfl) (by kernel_rfl) (by kernel_rfl) (by kernel_rfl) (fun _ _ _ h => h) (Or.inl ⟨by rfl, ?_⟩) hHeld ?_
  rotate_left
  · intro w hSw
    (try dsimp only at hSw)
    go_split_ands
    go_simp
    try with_reducible rfl
  try simp only [List.getElem_toArray, List.getElem_cons_succ, List.getElem_cons_zero, Act.put, List.setIfInBounds_toArray, List.set_cons_zero, List.set_cons_succ]
  refine but_take (i := 14) (v := ?_) rfl (by kernel_rfl) (by kernel_rfl) (by kernel_rfl) (by kernel_rfl) (fun _ _ _ h => h) (Or.inl ⟨by rfl, ?_⟩) hHeld ?_
  rotate_left
  · intro w hSw
    (try dsimp only at hSw)
    go_split_ands
    go_simp
    try with_reducible rfl
  try simp only [List.getElem_toArray, List.getElem_cons_succ, List.getElem_cons_zero, Act.put, List.setIfInBounds_toArray, List.set_cons_zero, List.set_cons_succ]
  refine but_take (i := 15) (v := ?_) rfl (by kernel_rfl) (by kernel_rfl) (by kernel_rfl) (by kernel_rfl) (fun _ _ _ h => h) (Or.inl ⟨by rfl, ?_⟩) hHeld ?_
  rotate_left
  · intro w hSw
    (try dsimp only at hSw)
    go_split_ands
    go_simp
    try with_reducible rfl
  try simp only [List.getElem_toArray, List.getElem_cons_succ, List.getElem_cons_zero, Act.put, List.setIfInBounds_toArray, List.set_cons_zero, List.set_cons_succ]
  refine but_done (by kernel_rfl) ?_
  try clear hHeld
  clear KP
  have H3 := Lib.hid (H1.out.later (Below.refl _ _).drew)
  have HB3 := Lib.hid (HB2.out.trans ((Below.refl _ _).drew.mono HB2.out.size))
  have X3 := Lib.hid (X1.out.later (Below.refl _ _).drew)
  clear H1 HB2 X1 hcl HA
  generalize w2.drew = w3 at *
  obtain ⟨x0, x1, x2, _⟩ := X3.out.cells
  rcases hor with rfl | ⟨rfl, hle⟩
  · go_wp2_with fail
    refine (stop_yes H3.out hx hl).mono ?_
    rintro e w4 hr
    have HR := Lib.hid hr.2
    obtain rfl := hr.1
    clear hr
    go_wp2_with fail
    go_end0
    obtain ⟨p1, r1, r2⟩ := HR.out
    exact ⟨rfl, p1, r1, (TC.of_below p HB3.out).trans r2⟩
  · go_wp2_with fail
    refine (stop_yes H3.out hx hl).mono ?_
    rintro e w4 hr
    have HR := Lib.hid hr.2
    obtain rfl := hr.1
    clear hr
    go_wp2_with fail
    go_end0
    obtain ⟨p1, r1, r2⟩ := HR.out
    exact ⟨rfl, p1, r1, (TC.of_below p HB3.out).trans r2⟩
set_option maxHeartbeats 4000000 in
theorem again_on {x : It} {now : Int} (h : TT B t vA vL o b c p n N S g w) (hx : x ∈ S) (hn : n ≤ 1000000) (hl : S.length ≤ 1000) (hg : Gon x.w (g x.id) now) :
    Calls Tryz.prog 75 #[.pointer (some ⟨t, 1, none⟩), vI x, .int .i64 now] w (XC B t vA vL o b c p (n + 1) N (ins ⟨x.id, nx x.w (g x.id) now, (n : Int) + 1⟩ (del x.id S)) g (.tuple #[]) w) := by
  have HA := Lib.hid h
  have hk := h.hg.wf hx
  clear h
  have HB2 := Lib.hid (below_al w (.cells #[.int .i64 x.id, .int .i64 x.w, .int .i64 x.s] 139))
  have NS := Lib.hid HA.out.far
  obtain ⟨s, hs⟩ : ∃ s, s = w.heap.size := ⟨_, rfl⟩
  have X1 := Lib.hid (Blk.new w x)
  have H1 := Lib.hid (HA.out.later HB2.out)
  obtain ⟨xn, hxn⟩ : ∃ xn, xn = nx x.w (g x.id) now := ⟨_, rfl⟩
  have hlt : ¬ xn ≤ now := by have := hg.2; omega
  obtain ⟨a1, a2, a3, a4, a5, a6⟩ := nxB_all hg.1
  have hcl := fun w => next_yes _ _ _ w a1 a2 a3 a4 a5 a6
  rw [← hxn] at hcl ⊢
  clear a1 a2 a3 a4 a5 a6 hg hxn
  go_enter Tryz.func75, Tryz.ntmps75
  go_upto_region 1 with (fail)
  rw [← hs] at X1 NS ⊢
  clear hs
  generalize w.alloc (.cells #[.int .i64 x.id, .int .i64 x.w, .int .i64 x.s] 139) = w2 at *
  have KP : Hid (∀ w', Below w2.heap.size w2 w' → w'.cell? ⟨s, 0, none⟩ = some (.int .i64 x.id) ∧ w'.cell? ⟨s, 1, none⟩ = some (.int .i64 x.w) ∧ w'.cell? ⟨t, 2, none⟩ = some (.map (some c)) ∧ (Instr.lookup 62 (.map (some c)) (.int .i64 x.id) false).run Tryz.prog w' = .ok (.int .i64 (g x.id)) w') := fun w' hb => by
    have h1 := H1.out.later hb
    have h2 := (X1.out.later hb).cells
    exact ⟨h2.1, h2.2.1, h1.c1, h1.pm.get hk⟩
  refine but_start 1000 (fun w' => w'.cell? ⟨s, 0, none⟩ = some (.int .i64 x.id) ∧ w'.cell? ⟨s, 1, none⟩ = some (.int .i64 x.w) ∧ w'.cell? ⟨t, 2, none⟩ = some (.map (some c)) ∧ (Instr.lookup 62 (.map (some c)) (.int .i64 x.id) false).run Tryz.prog w' = .ok (.int .i64 (g x.id)) w') (by kernel_rfl) ?_
  have hHeld := KP.out w2.drew (Below.refl _ _).drew
  change AnyBut _ _ _ _ _ _ 16 _ _ _
  refine but_take (i := 0) (v := ?_) rfl (by kernel_rfl) (by kernel_rfl) (by kernel_rfl) (by kernel_rfl) (fun _ _ _ h => h) (Or.inl ⟨by rfl, ?_⟩) hHeld ?_
  rotate_left
  · intro w hSw
    (try dsimp only at hSw)
    go_split_ands
    go_simp
    try with_reducible rfl
  try simp only [List.getElem_toArray, List.getElem_cons_zero, Act.put, List.setIfInBounds_toArray, List.set_cons_zero, List.set_cons_succ]
  refine but_take (i := 1) (v := ?_) rfl (by kernel_rfl) (by kernel_rfl) (by kernel_rfl) (by kernel_rfl) (fun _ _ _ h => h) (Or.inl ⟨by rfl, ?_⟩) hHeld ?_
  rotate_left
  · intro w hSw
    (try dsimp only at hSw)
    go_split_ands
    go_simp
    try with_reducible rfl
  try simp only [List.getElem_toArray, List.getElem_cons_succ, List.getElem_cons_zero, Act.put, List.setIfInBounds_toArray, List.set_cons_zero, List.set_cons_succ]
  refine but_take (i := 2) (v := ?_) rfl (by kernel_rfl) (by kernel_rfl) (by kernel_rfl) (by kernel_rfl) (fun _ _ _ h => h) (Or.inl ⟨by rfl, ?_⟩) hHeld ?_
  rotate_left
  · intro w hSw
    (try dsimp only at hSw)
    go_split_ands
    go_simp
    try with_reducible rfl
  try simp only [List.getElem_toArray, List.getElem_cons_succ, List.getElem_cons_zero, Act.put, List.setIfInBounds_toArray, List.set_cons_zero, List.set_cons_succ]
  refine but_take (i := 3) (v := ?_) rfl (by kernel_rfl) (by kernel_rfl) (by kernel_rfl) (by kernel_rfl) (fun _ _ _ h => h) (Or.inl ⟨by rfl, ?_⟩) hHeld ?_
  rotate_left
  · intro w hSw
    (try dsimp only at hSw)
    go_split_ands
    go_simp
    try with_reducible rfl
  try simp only [List.getElem_toArray, List.getElem_cons_succ, List.getElem_cons_zero, Act.put, List.setIfInBounds_toArray, List.set_cons_zero, List.set_cons_succ]
  refine but_take (i := 4) (v := ?_) rfl (by kernel_rfl) (by kernel_rfl) (by kernel_rfl) (by kernel_rfl) (fun _ _ _ h => h) (Or.inl ⟨by rfl, ?_⟩) hHeld ?_
  rotate_left
  · intro w hSw
    (try dsimp only at hSw)
    go_split_ands
    go_simp
    try with_reducible rfl
  try simp only [List.getElem_toArray, List.getElem_cons_succ, List.getElem_cons_zero, Act.put, List.setIfInBounds_toArray, List.set_cons_zero, List.set_cons_succ]
  refine but_take (i := 5) (v := ?_) rfl (by kernel_rfl) (by kernel_rfl) (by kernel_rfl) (by kernel_rfl) (fun _ _ _ h => h) (Or.inl ⟨by rfl, ?_⟩) hHeld ?_
  rotate_left
  · intro w hSw
    (try dsimp only at hSw)
    go_split_ands
    go_simp
    try with_reducible rfl
  try simp only [List.getElem_toArray, List.getElem_cons_succ, List.getElem_cons_zero, Act.put, List.setIfInBounds_toArray, List.set_cons_zero, List.set_cons_succ]
  refine but_take (i := 6) (v := ?_) rfl (by kernel_rfl) (by kernel_rfl) (by kernel_rfl) (by kernel_rfl) (fun _ _ _ h => h) (Or.inl ⟨by rfl, ?_⟩) hHeld ?_
  rotate_left
  · intro w hSw
    (try dsimp only at hSw)
    go_split_ands
    go_simp
    try with_reducible rfl
  try simp only [List.getElem_toArray, List.getElem_cons_succ, List.getElem_cons_zero, Act.put, List.setIfInBounds_toArray, List.set_cons_zero, List.set_cons_succ]
  refine but_take (i := 7) (v := ?_) rfl (by kernel_rfl) (by kernel_rfl) (by kernel_rfl) (by kernel_rfl) (fun _ _ _ h => h) (Or.inl ⟨by rfl, ?_⟩) hHeld ?_
  rotate_left
  · intro w hSw
    (try dsimp only at hSw)
    go_split_ands
    go_simp
    try with_reducible rfl
  try simp only [List.getElem_toArray, List.getElem_cons_succ, List.getElem_cons_zero, Act.put, List.setIfInBounds_toArray, List.set_cons_zero, List.set_cons_succ]
  refine but_take (i := 8) (v := ?_) rfl (by kernel_rfl) (by kernel_rfl) (by kernel_rfl) (by kernel_rfl) (fun _ _ _ h => h) (Or.inl ⟨by rfl, ?_⟩) hHeld ?_
  rotate_left
  · intro w hSw
    (try dsimp only at hSw)
    go_split_ands
    go_simp
    try with_reducible rfl
  try simp only [List.getElem_toArray, List.getElem_cons_succ, List.getElem_cons_zero, Act.put, List.setIfInBounds_toArray, List.set_cons_zero, List.set_cons_succ]
  refine but_take (i := 9) (v := ?_) rfl (by kernel_rfl) (by kernel_rfl) (by kernel_rfl) (by kernel_rfl) (fun _ _ _ h => h) (Or.inl ⟨by rfl, ?_⟩) hHeld ?_
  rotate_left
  · intro w hSw
    (try dsimp only at hSw)
    go_split_ands
    go_simp
    try with_reducible rfl
  try simp only [List.getElem_toArray, List.getElem_cons_succ, List.getElem_cons_zero, Act.put, List.setIfInBounds_toArray, List.set_cons_zero, List.set_cons_succ]
  refine but_one (i := 10) (by kernel_rfl) rfl ?_
  intro K hK
  go_simp
  go_at_call 93
  refine (hcl _).mono ?_
  rintro e w9 ⟨rfl, rfl⟩
  try dsimp only
  have hHeld2 := hHeld
  refine hK _ _ (fun _ => hHeld2) ?_
  clear hK K hHeld
  have hHeld := hHeld2
  clear hHeld2
  try simp only [List.getElem_toArray, List.getElem_cons_succ, List.getElem_cons_zero, Act.put, List.setIfInBounds_toArray, List.set_cons_zero, List.set_cons_succ]
  refine but_take (i := 11) (v := ?_) rfl (by kernel_rfl) (by kernel_rfl) (by kernel_rfl) (by kernel_rfl) (fun _ _ _ h => h) (Or.inl ⟨by rfl, ?_⟩) hHeld ?_
  rotate_left
  · intro w hSw
    (try dsimp only at hSw)
    go_split_ands
    go_simp
    try with_reducible rfl
  try simp only [List.getElem_toArray, List.getElem_cons_succ, List.getElem_cons_zero, Act.put, List.setIfInBounds_toArray, List.set_cons_zero, List.set_cons_succ]
  refine but_take (i := 12) (v := ?_) rfl (by kernel_rfl) (by kernel_rfl) (by kernel_rfl) (by kernel_rfl) (fun _ _ _ h => h) (Or.inl ⟨by rfl, ?_⟩) hHeld ?_
  rotate_left
  · intro w hSw
    (try dsimp only at hSw)
    go_split_ands
    go_simp
    try with_reducible rfl
  try simp only [List.getElem_toArray, List.getElem_cons_succ, List.getElem_cons_zero, Act.put, List.setIfInBounds_toArray, List.set_cons_zero, List.set_cons_succ]
  refine but_take (i := 13) (v := ?_) rfl (by kernel_rfl) (by kernel_rfl) (by kernel_rfl) (by kernel_rfl) (fun _ _ _ h => h) (Or.inl ⟨by rfl, ?_⟩) hHeld ?_
  rotate_left
  · intro w hSw
    (try dsimp only at hSw)
    go_split_ands
    go_simp
    try with_reducible rfl
  try simp only [List.getElem_toArray, List.getElem_cons_succ, List.getElem_cons_zero, Act.put, List.setIfInBounds_toArray, List.set_cons_zero, List.set_cons_succ]
  refine but_take (i := 14) (v := ?_) rfl (by kernel_rfl) (by kernel_rfl) (by kernel_rfl) (by kernel_rfl) (fun _ _ _ h => h) (Or.inl ⟨by rfl, ?_⟩) hHeld ?_
  rotate_left
  · intro w hSw
    (try dsimp only at hSw)
    go_split_ands
    go_simp
    try with_reducible rfl
  try simp only [List.getElem_toArray, List.getElem_cons_succ, List.getElem_cons_zero, Act.put, List.setIfInBounds_toArray, List.set_cons_zero, List.set_cons_succ]
  refine but_take (i := 15) (v := ?_) rfl (by kernel_rfl) (by kernel_rfl) (by kernel_rfl) (by kernel_rfl) (fun _ _ _ h => h) (Or.inl ⟨by rfl, ?_⟩) hHeld ?_
  rotate_left
  · intro w hSw
    (try dsimp only at hSw)
    go_split_ands
    go_simp
    try with_reducible rfl
  try simp only [List.getElem_toArray, List.getElem_cons_succ, List.getElem_cons_zero, Act.put, List.setIfInBounds_toArray, List.set_cons_zero, List.set_cons_succ]
  refine but_done (by kernel_rfl) ?_
  try clear hHeld
  clear KP
  have H3 := Lib.hid (H1.out.later (Below.refl _ _).drew)
  have HB3 := Lib.hid (HB2.out.trans ((Below.refl _ _).drew.mono HB2.out.size))
  have X3 := Lib.hid (X1.out.later (Below.refl _ _).drew)
  clear H1 HB2 X1 hcl HA
  generalize w2.drew = w3 at *
  obtain ⟨x0, x1, x2, _⟩ := X3.out.cells
  have c0 := H3.out.c0
  have hm := mem_ids hx
  have H4 := Lib.hid (H3.out.later (Below.refl _ _).drew)
  go_wp2_with fail
  refine but_start 1000 (fun w' => w'.cell? ⟨s, 0, none⟩ = some (.int .i64 x.id) ∧ w'.cell? ⟨t, 1, none⟩ = some (.pointer (some ⟨o, 0, none⟩))) (by kernel_rfl) ?_
  have hHeld := And.intro x0 c0
  change AnyBut _ _ _ _ _ _ 8 _ _ _
  refine but_take (i := 0) (v := ?_) rfl (by kernel_rfl) (by kernel_rfl) (by kernel_rfl) (by kernel_rfl) (fun _ _ _ h => h) (Or.inl ⟨by rfl, ?_⟩) hHeld ?_
  rotate_left
  · intro w hSw
    (try dsimp only at hSw)
    go_split_ands
    go_simp
    try with_reducible rfl
  try simp only [List.getElem_toArray, List.getElem_cons_zero, Act.put, List.setIfInBounds_toArray, List.set_cons_zero, List.set_cons_succ]
  refine but_take (i := 1) (v := ?_) rfl (by kernel_rfl) (by kernel_rfl) (by kernel_rfl) (by kernel_rfl) (fun _ _ _ h => h) (Or.inl ⟨by rfl, ?_⟩) hHeld ?_
  rotate_left
  · intro w hSw
    (try dsimp only at hSw)
    go_split_ands
    go_simp
    try with_reducible rfl
  try simp only [List.getElem_toArray, List.getElem_cons_succ, List.getElem_cons_zero, Act.put, List.setIfInBounds_toArray, List.set_cons_zero, List.set_cons_succ]
  refine but_take (i := 2) (v := ?_) rfl (by kernel_rfl) (by kernel_rfl) (by kernel_rfl) (by kernel_rfl) (fun _ _ _ h => h) (Or.inl ⟨by rfl, ?_⟩) hHeld ?_
  rotate_left
  · intro w hSw
    (try dsimp only at hSw)
    go_split_ands
    go_simp
    try with_reducible rfl
  try simp only [List.getElem_toArray, List.getElem_cons_succ, List.getElem_cons_zero, Act.put, List.setIfInBounds_toArray, List.set_cons_zero, List.set_cons_succ]
  refine but_take (i := 3) (v := ?_) rfl (by kernel_rfl) (by kernel_rfl) (by kernel_rfl) (by kernel_rfl) (fun _ _ _ h => h) (Or.inl ⟨by rfl, ?_⟩) hHeld ?_
  rotate_left
  · intro w hSw
    (try dsimp only at hSw)
    go_split_ands
    go_simp
    try with_reducible rfl
  try simp only [List.getElem_toArray, List.getElem_cons_succ, List.getElem_cons_zero, Act.put, List.setIfInBounds_toArray, List.set_cons_zero, List.set_cons_succ]
  refine but_take (i := 4) (v := ?_) rfl (by kernel_rfl) (by kernel_rfl) (by kernel_rfl) (by kernel_rfl) (fun _ _ _ h => h) (Or.inl ⟨by rfl, ?_⟩) hHeld ?_
  rotate_left
  · intro w hSw
    (try dsimp only at hSw)
    go_split_ands
    go_simp
    try with_reducible rfl
  try simp only [List.getElem_toArray, List.getElem_cons_succ, List.getElem_cons_zero, Act.put, List.setIfInBounds_toArray, List.set_cons_zero, List.set_cons_succ]
  refine but_take (i := 5) (v := ?_) rfl (by kernel_rfl) (by kernel_rfl) (by kernel_rfl) (by kernel_rfl) (fun _ _ _ h => h) (Or.inl ⟨by rfl, ?_⟩) hHeld ?_
  rotate_left
  · intro w hSw
    (try dsimp only at hSw)
    go_split_ands
    go_simp
    try with_reducible rfl
  try simp only [List.getElem_toArray, List.getElem_cons_succ, List.getElem_cons_zero, Act.put, List.setIfInBounds_toArray, List.set_cons_zero, List.set_cons_succ]
  refine but_take (i := 6) (v := ?_) rfl (by kernel_rfl) (by kernel_rfl) (by kernel_rfl) (by kernel_rfl) (fun _ _ _ h => h) (Or.inl ⟨by rfl, ?_⟩) hHeld ?_
  rotate_left
  · intro w hSw
    (try dsimp only at hSw)
    go_split_ands
    go_simp
    try with_reducible rfl
  try simp only [List.getElem_toArray, List.getElem_cons_succ, List.getElem_cons_zero, Act.put, List.setIfInBounds_toArray, List.set_cons_zero, List.set_cons_succ]
  refine but_one (i := 7) (by kernel_rfl) rfl ?_
  intro K hK
  go_simp
  go_at_call 94
  refine (move_yes x.id xn H4.out.hg H4.out.ok hk hm hn hl).mono ?_
  rintro e w4 hr
  have HR := Lib.hid (H4.out.go ((H4.out.ok.del x.id).ins x.id xn del_ids) hr)
  obtain rfl := hr.1
  clear hr
  try dsimp only
  have hHeld2 := HR.out.two (X3.out.later (Below.refl _ _).drew) NS.out
  refine hK _ _ (fun _ => hHeld2) ?_
  clear hK K hHeld
  clear hHeld2
  try simp only [List.getElem_toArray, List.getElem_cons_succ, List.getElem_cons_zero, Act.put, List.setIfInBounds_toArray, List.set_cons_zero, List.set_cons_succ]
  refine but_done (by kernel_rfl) ?_
  try clear hHeld
  go_wp2_with fail
  go_end0
  obtain ⟨_, p1, r1, r2⟩ := HR.out
  exact ⟨rfl, p1, r1, (TC.of_below p HB3.out.drew).trans r2⟩
end
end Go.Proofs.YtmadcnpkaijllaaGreat
