/- What Take of package expire does. Conditions: each theorem's own premises.
What Take of package expire does, whole. Conditions: each theorem's own premises.
What each call of package expire makes of timers, as the laws want it. Conditions: each theorem's own premises. -/
import Derived.Test.YtdpapnfjpefhkaaTmrm
namespace Go.Proofs.Ytdpapnfjpefhkaa
open Go.RowKit
set_option linter.unusedVariables false
set_option maxRecDepth 100000
/-- It comes again: its next time is one, and after now. -/
def Gon (wh per now : Int) : Prop := nxB wh per now = true ∧ now < nx wh per now
instance (wh per now : Int) : Decidable (Gon wh per now) := inferInstanceAs (Decidable (_ ∧ _))
theorem nxB_all {wh per now : Int} (h : nxB wh per now = true) : 1 ≤ per ∧ 0 ≤ wh ∧ 0 ≤ now ∧ wh ≤ 4611686018427387904 ∧ per ≤ 4611686018427387904 ∧ now ≤ 4611686018427387904 := by
  simpa [nxB] using h
section
variable {B t o b c n n' N N' : Nat} {vA vL : Value} {p p' : Option Nat} {S S' : List It} {g g' : Int → Int} {w w' : World} {e : Ending} {v : Value}
/-- A block that is none of the timers'. -/
def Far (s o b c : Nat) (p : Option Nat) : Prop := s ≠ o ∧ s ≠ b ∧ s ≠ c ∧ p ≠ some s
theorem TT.far (h : TT B t vA vL o b c p n N S g w) : Far w.heap.size o b c p := by
  have h1 := h.hg.lo
  have h2 := h.hg.lb
  have h3 := h.pm.lt
  exact ⟨by omega, by omega, by omega, fun e => by have := (h.hg.lp e).2; omega⟩
theorem Blk.tc {s : Nat} {x : It} (h : Blk w s x) (f : Far s o b c p) (hc : TC o b c p p' w w') : Blk w' s x := (hc.block s (lt_of_blk h) f.1 f.2.1 f.2.2.1 f.2.2.2).trans h
theorem XC.two {s : Nat} {x : It} (h : XC B t vA vL o b c p n N S g v w e w') (hb : Blk w s x) (f : Far s o b c p) : w'.cell? ⟨s, 0, none⟩ = some (.int .i64 x.id) ∧ w'.cell? ⟨t, 1, none⟩ = some (.pointer (some ⟨o, 0, none⟩)) := by
  obtain ⟨_, p1, h1, h2⟩ := h
  exact ⟨(hb.tc f h2).cells.1, h1.c0⟩
set_option maxHeartbeats 4000000 in
theorem again_end {x : It} {now : Int} (h : TT B t vA vL o b c p n N S g w) (hx : x ∈ S) (hl : S.length ≤ 1000) (hg : ¬ Gon x.w (g x.id) now) :
    Calls Try.prog 57 #[.pointer (some ⟨t, 1, none⟩), vI x, .int .i64 now] w (XC B t vA vL o b c p n N (del x.id S) (fput g x.id 0) (.tuple #[]) w) := by
  have HA := Lib.hid h
  have hk := h.hg.wf hx
  clear h
  have HB2 := Lib.hid (below_al w (.cells #[.int .i64 x.id, .int .i64 x.w, .int .i64 x.s] 150))
  obtain ⟨s, hs⟩ : ∃ s, s = w.heap.size := ⟨_, rfl⟩
  have X1 := Lib.hid (Blk.new w x)
  have H1 := Lib.hid (HA.out.later HB2.out)
  obtain ⟨en, xn, hcl, hor⟩ : ∃ en xn : Int, (∀ w, Calls Try.prog 72 #[.int .i64 x.w, .int .i64 (g x.id), .int .i64 now] w fun e w' => e = .returned (.tuple #[.int .i64 xn, .int .i64 en]) ∧ w = w') ∧ (en = 1 ∨ en = 0 ∧ xn ≤ now) := by
    by_cases hb : nxB x.w (g x.id) now = true
    · obtain ⟨a1, a2, a3, a4, a5, a6⟩ := nxB_all hb
      exact ⟨0, nx x.w (g x.id) now, fun w => next_yes _ _ _ w a1 a2 a3 a4 a5 a6, .inr ⟨rfl, by
        have h9 : ¬ now < nx x.w (g x.id) now := fun e => hg ⟨hb, e⟩
        omega⟩⟩
    · exact ⟨1, 0, fun w => next_no _ _ _ w (by simpa using hb), .inl rfl⟩
  go_enter Try.func57, Try.ntmps57
  go_upto_region 1 with (fail)
  rw [← hs] at X1 ⊢
  clear hs
  generalize w.alloc (.cells #[.int .i64 x.id, .int .i64 x.w, .int .i64 x.s] 150) = w2 at *
  have KP : Hid (∀ w', Below w2.heap.size w2 w' → w'.cell? ⟨s, 0, none⟩ = some (.int .i64 x.id) ∧ w'.cell? ⟨s, 1, none⟩ = some (.int .i64 x.w) ∧ w'.cell? ⟨t, 2, none⟩ = some (.map (some c)) ∧ (Instr.lookup 95 (.map (some c)) (.int .i64 x.id) false).run Try.prog w' = .ok (.int .i64 (g x.id)) w') := fun w' hb => by
    have h1 := H1.out.later hb
    have h2 := (X1.out.later hb).cells
    exact ⟨h2.1, h2.2.1, h1.c1, h1.pm.get hk⟩
  refine but_start 1000 (fun w' => w'.cell? ⟨s, 0, none⟩ = some (.int .i64 x.id) ∧ w'.cell? ⟨s, 1, none⟩ = some (.int .i64 x.w) ∧ w'.cell? ⟨t, 2, none⟩ = some (.map (some c)) ∧ (Instr.lookup 95 (.map (some c)) (.int .i64 x.id) false).run Try.prog w' = .ok (.int .i64 (g x.id)) w') (by kernel_rfl) ?_
  have hHeld := KP.out w2.drew (Below.refl _ _).drew
  change AnyBut _ _ _ _ _ _ 16 _ _ _
  refine but_take (i := 0) (v := ?_) rfl (by kernel_rfl) (by kernel_rfl) (by kernel_rfl) (by kernel_rfl) (fun _ _ _ h => h) (Or.inl ⟨by rfl, ?_⟩) hHeld ?_
  rotate_left
  · intro w hSw
    (try dsimp only at hSw)
    go_split_ands
    go_simp
    try with_reducible rfl
  try simp only [List.getElem_toArray, List.getElem_cons_zero, Act.put, List.setIfInBounds_toArray, List.set_cons_zero, List.set_cons_succ]
  refine but_take (i := 1) (v := ?_) rfl (by kernel_rfl) (by kernel_rfl) (by kernel_rfl) (by kernel_rfl) (fun _ _ _ h => h) (Or.inl ⟨by rfl, ?_⟩) hHeld ?_
  rotate_left
  · intro w hSw
    (try dsimp only at hSw)
    go_split_ands
    go_simp
    try with_reducible rfl
  try simp only [List.getElem_toArray, List.getElem_cons_succ, List.getElem_cons_zero, Act.put, List.setIfInBounds_toArray, List.set_cons_zero, List.set_cons_succ]
  refine but_take (i := 2) (v := ?_) rfl (by kernel_rfl) (by kernel_rfl) (by kernel_rfl) (by kernel_rfl) (fun _ _ _ h => h) (Or.inl ⟨by rfl, ?_⟩) hHeld ?_
  rotate_left
  · intro w hSw
    (try dsimp only at hSw)
    go_split_ands
    go_simp
    try with_reducible rfl
  try simp only [List.getElem_toArray, List.getElem_cons_succ, List.getElem_cons_zero, Act.put, List.setIfInBounds_toArray, List.set_cons_zero, List.set_cons_succ]
  refine but_take (i := 3) (v := ?_) rfl (by kernel_rfl) (by kernel_rfl) (by kernel_rfl) (by kernel_rfl) (fun _ _ _ h => h) (Or.inl ⟨by rfl, ?_⟩) hHeld ?_
  rotate_left
  · intro w hSw
    (try dsimp only at hSw)
    go_split_ands
    go_simp
    try with_reducible rfl
  try simp only [List.getElem_toArray, List.getElem_cons_succ, List.getElem_cons_zero, Act.put, List.setIfInBounds_toArray, List.set_cons_zero, List.set_cons_succ]
  refine but_take (i := 4) (v := ?_) rfl (by kernel_rfl) (by kernel_rfl) (by kernel_rfl) (by kernel_rfl) (fun _ _ _ h => h) (Or.inl ⟨by rfl, ?_⟩) hHeld ?_
  rotate_left
  · intro w hSw
    (try dsimp only at hSw)
    go_split_ands
    go_simp
    try with_reducible rfl
  try simp only [List.getElem_toArray, List.getElem_cons_succ, List.getElem_cons_zero, Act.put, List.setIfInBounds_toArray, List.set_cons_zero, List.set_cons_succ]
  refine but_take (i := 5) (v := ?_) rfl (by kernel_rfl) (by kernel_rfl) (by kernel_rfl) (by kernel_rfl) (fun _ _ _ h => h) (Or.inl ⟨by rfl, ?_⟩) hHeld ?_
  rotate_left
  · intro w hSw
    (try dsimp only at hSw)
    go_split_ands
    go_simp
    try with_reducible rfl
  try simp only [List.getElem_toArray, List.getElem_cons_succ, List.getElem_cons_zero, Act.put, List.setIfInBounds_toArray, List.set_cons_zero, List.set_cons_succ]
  refine but_take (i := 6) (v := ?_) rfl (by kernel_rfl) (by kernel_rfl) (by kernel_rfl) (by kernel_rfl) (fun _ _ _ h => h) (Or.inl ⟨by rfl, ?_⟩) hHeld ?_
  rotate_left
  · intro w hSw
    (try dsimp only at hSw)
    go_split_ands
    go_simp
    try with_reducible rfl
  try simp only [List.getElem_toArray, List.getElem_cons_succ, List.getElem_cons_zero, Act.put, List.setIfInBounds_toArray, List.set_cons_zero, List.set_cons_succ]
  refine but_take (i := 7) (v := ?_) rfl (by kernel_rfl) (by kernel_rfl) (by kernel_rfl) (by kernel_rfl) (fun _ _ _ h => h) (Or.inl ⟨by rfl, ?_⟩) hHeld ?_
  rotate_left
  · intro w hSw
    (try dsimp only at hSw)
    go_split_ands
    go_simp
    try with_reducible rfl
  try simp only [List.getElem_toArray, List.getElem_cons_succ, List.getElem_cons_zero, Act.put, List.setIfInBounds_toArray, List.set_cons_zero, List.set_cons_succ]
  refine but_take (i := 8) (v := ?_) rfl (by kernel_rfl) (by kernel_rfl) (by kernel_rfl) (by kernel_rfl) (fun _ _ _ h => h) (Or.inl ⟨by rfl, ?_⟩) hHeld ?_
  rotate_left
  · intro w hSw
    (try dsimp only at hSw)
    go_split_ands
    go_simp
    try with_reducible rfl
  try simp only [List.getElem_toArray, List.getElem_cons_succ, List.getElem_cons_zero, Act.put, List.setIfInBounds_toArray, List.set_cons_zero, List.set_cons_succ]
  refine but_take (i := 9) (v := ?_) rfl (by kernel_rfl) (by kernel_rfl) (by kernel_rfl) (by kernel_rfl) (fun _ _ _ h => h) (Or.inl ⟨by rfl, ?_⟩) hHeld ?_
  rotate_left
  · intro w hSw
    (try dsimp only at hSw)
    go_split_ands
    go_simp
    try with_reducible rfl
  try simp only [List.getElem_toArray, List.getElem_cons_succ, List.getElem_cons_zero, Act.put, List.setIfInBounds_toArray, List.set_cons_zero, List.set_cons_succ]
  refine but_one (i := 10) (by kernel_rfl) rfl ?_
  intro K hK
  go_simp
  go_at_call 72
  refine (hcl _).mono ?_
  rintro e w9 ⟨rfl, rfl⟩
  try dsimp only
  have hHeld2 := hHeld
  refine hK _ _ (fun _ => hHeld2) ?_
  clear hK K hHeld
  have hHeld := hHeld2
  clear hHeld2
  try simp only [List.getElem_toArray, List.getElem_cons_succ, List.getElem_cons_zero, Act.put, List.setIfInBounds_toArray, List.set_cons_zero, List.set_cons_succ]
  refine but_take (i := 11) (v := ?_) rfl (by kernel_rfl) (by kernel_rfl) (by kernel_rfl) (by kernel_rfl) (fun _ _ _ h => h) (Or.inl ⟨by rfl, ?_⟩) hHeld ?_
  rotate_left
  · intro w hSw
    (try dsimp only at hSw)
    go_split_ands
    go_simp
    try with_reducible rfl
  try simp only [List.getElem_toArray, List.getElem_cons_succ, List.getElem_cons_zero, Act.put, List.setIfInBounds_toArray, List.set_cons_zero, List.set_cons_succ]
  refine but_take (i := 12) (v := ?_) rfl (by kernel_rfl) (by kernel_rfl) (by kernel_rfl) (by kernel_rfl) (fun _ _ _ h => h) (Or.inl ⟨by rfl, ?_⟩) hHeld ?_
  rotate_left
  · intro w hSw
    (try dsimp only at hSw)
    go_split_ands
    go_simp
    try with_reducible rfl
  try simp only [List.getElem_toArray, List.getElem_cons_succ, List.getElem_cons_zero, Act.put, List.setIfInBounds_toArray, List.set_cons_zero, List.set_cons_succ]
  refine but_take (i := 13) (v := ?_) rfl (by kernel_rfl) (by kernel_rfl) (by kernel_rfl) (by kernel_rfl) (fun _ _ _ h => h) (Or.inl ⟨by rfl, ?_⟩) hHeld ?_
  rotate_left
  · intro w hSw
    (try dsimp only at hSw)
    go_split_ands
    go_simp
    try with_reducible rfl
  try simp only [List.getElem_toArray, List.getElem_cons_succ, List.getElem_cons_zero, Act.put, List.setIfInBounds_toArray, List.set_cons_zero, List.set_cons_succ]
  refine but_take (i := 14) (v := ?_) rfl (by kernel_rfl) (by kernel_rfl) (by kernel_rfl) (by kernel_rfl) (fun _ _ _ h => h) (Or.inl ⟨by rfl, ?_⟩) hHeld ?_
  rotate_left
  · intro w hSw
    (try dsimp only at hSw)
    go_split_ands
    go_simp
    try with_reducible rfl
  try simp only [List.getElem_toArray, List.getElem_cons_succ, List.getElem_cons_zero, Act.put, List.setIfInBounds_toArray, List.set_cons_zero, List.set_cons_succ]
  refine but_take (i := 15) (v := ?_) rfl (by kernel_rfl) (by kernel_rfl) (by kernel_rfl) (by kernel_rfl) (fun _ _ _ h => h) (Or.inl ⟨by rfl, ?_⟩) hHeld ?_
  rotate_left
  · intro w hSw
    (try dsimp only at hSw)
    go_split_ands
    go_simp
    try with_reducible rfl
  try simp only [List.getElem_toArray, List.getElem_cons_succ, List.getElem_cons_zero, Act.put, List.setIfInBounds_toArray, List.set_cons_zero, List.set_cons_succ]
  refine but_done (by kernel_rfl) ?_
  try clear hHeld
  clear KP
  have H3 := Lib.hid (H1.out.later (Below.refl _ _).drew)
  have HB3 := Lib.hid (HB2.out.trans ((Below.refl _ _).drew.mono HB2.out.size))
  have X3 := Lib.hid (X1.out.later (Below.refl _ _).drew)
  clear H1 HB2 X1 hcl HA
  generalize w2.drew = w3 at *
  obtain ⟨x0, x1, x2, _⟩ := X3.out.cells
  rcases hor with rfl | ⟨rfl, hle⟩
  · go_wp2_with fail
    refine (stop_yes H3.out hx hl).mono ?_
    rintro e w4 hr
    have HR := Lib.hid hr.2
    obtain rfl := hr.1
    clear hr
    go_wp2_with fail
    go_end0
    obtain ⟨p1, r1, r2⟩ := HR.out
    exact ⟨rfl, p1, r1, (TC.of_below p HB3.out).trans r2⟩
  · go_wp2_with fail
    refine (stop_yes H3.out hx hl).mono ?_
    rintro e w4 hr
    have HR := Lib.hid hr.2
    obtain rfl := hr.1
    clear hr
    go_wp2_with fail
    go_end0
    obtain ⟨p1, r1, r2⟩ := HR.out
    exact ⟨rfl, p1, r1, (TC.of_below p HB3.out).trans r2⟩
set_option maxHeartbeats 4000000 in
theorem again_on {x : It} {now : Int} (h : TT B t vA vL o b c p n N S g w) (hx : x ∈ S) (hn : n ≤ 1000000) (hl : S.length ≤ 1000) (hg : Gon x.w (g x.id) now) :
    Calls Try.prog 57 #[.pointer (some ⟨t, 1, none⟩), vI x, .int .i64 now] w (XC B t vA vL o b c p (n + 1) N (ins ⟨x.id, nx x.w (g x.id) now, (n : Int) + 1⟩ (del x.id S)) g (.tuple #[]) w) := by
  have HA := Lib.hid h
  have hk := h.hg.wf hx
  clear h
  have HB2 := Lib.hid (below_al w (.cells #[.int .i64 x.id, .int .i64 x.w, .int .i64 x.s] 150))
  have NS := Lib.hid HA.out.far
  obtain ⟨s, hs⟩ : ∃ s, s = w.heap.size := ⟨_, rfl⟩
  have X1 := Lib.hid (Blk.new w x)
  have H1 := Lib.hid (HA.out.later HB2.out)
  obtain ⟨xn, hxn⟩ : ∃ xn, xn = nx x.w (g x.id) now := ⟨_, rfl⟩
  have hlt : ¬ xn ≤ now := by have := hg.2; omega
  obtain ⟨a1, a2, a3, a4, a5, a6⟩ := nxB_all hg.1
  have hcl := fun w => next_yes _ _ _ w a1 a2 a3 a4 a5 a6
  rw [← hxn] at hcl ⊢
  clear a1 a2 a3 a4 a5 a6 hg hxn
  go_enter Try.func57, Try.ntmps57
  go_upto_region 1 with (fail)
  rw [← hs] at X1 NS ⊢
  clear hs
  generalize w.alloc (.cells #[.int .i64 x.id, .int .i64 x.w, .int .i64 x.s] 150) = w2 at *
  have KP : Hid (∀ w', Below w2.heap.size w2 w' → w'.cell? ⟨s, 0, none⟩ = some (.int .i64 x.id) ∧ w'.cell? ⟨s, 1, none⟩ = some (.int .i64 x.w) ∧ w'.cell? ⟨t, 2, none⟩ = some (.map (some c)) ∧ (Instr.lookup 95 (.map (some c)) (.int .i64 x.id) false).run Try.prog w' = .ok (.int .i64 (g x.id)) w') := fun w' hb => by
    have h1 := H1.out.later hb
    have h2 := (X1.out.later hb).cells
    exact ⟨h2.1, h2.2.1, h1.c1, h1.pm.get hk⟩
  refine but_start 1000 (fun w' => w'.cell? ⟨s, 0, none⟩ = some (.int .i64 x.id) ∧ w'.cell? ⟨s, 1, none⟩ = some (.int .i64 x.w) ∧ w'.cell? ⟨t, 2, none⟩ = some (.map (some c)) ∧ (Instr.lookup 95 (.map (some c)) (.int .i64 x.id) false).run Try.prog w' = .ok (.int .i64 (g x.id)) w') (by kernel_rfl) ?_
  have hHeld := KP.out w2.drew (Below.refl _ _).drew
  change AnyBut _ _ _ _ _ _ 16 _ _ _
  refine but_take (i := 0) (v := ?_) rfl (by kernel_rfl) (by kernel_rfl) (by kernel_rfl) (by kernel_rfl) (fun _ _ _ h => h) (Or.inl ⟨by rfl, ?_⟩) hHeld ?_
  rotate_left
  · intro w hSw
    (try dsimp only at hSw)
    go_split_ands
    go_simp
    try with_reducible rfl
  try simp only [List.getElem_toArray, List.getElem_cons_zero, Act.put, List.setIfInBounds_toArray, List.set_cons_zero, List.set_cons_succ]
  refine but_take (i := 1) (v := ?_) rfl (by kernel_rfl) (by kernel_rfl) (by kernel_rfl) (by kernel_rfl) (fun _ _ _ h => h) (Or.inl ⟨by rfl, ?_⟩) hHeld ?_
  rotate_left
  · intro w hSw
    (try dsimp only at hSw)
    go_split_ands
    go_simp
    try with_reducible rfl
  try simp only [List.getElem_toArray, List.getElem_cons_succ, List.getElem_cons_zero, Act.put, List.setIfInBounds_toArray, List.set_cons_zero, List.set_cons_succ]
  refine but_take (i := 2) (v := ?_) rfl (by kernel_rfl) (by kernel_rfl) (by kernel_rfl) (by kernel_rfl) (fun _ _ _ h => h) (Or.inl ⟨by rfl, ?_⟩) hHeld ?_
  rotate_left
  · intro w hSw
    (try dsimp only at hSw)
    go_split_ands
    go_simp
    try with_reducible rfl
  try simp only [List.getElem_toArray, List.getElem_cons_succ, List.getElem_cons_zero, Act.put, List.setIfInBounds_toArray, List.set_cons_zero, List.set_cons_succ]
  refine but_take (i := 3) (v := ?_) rfl (by kernel_rfl) (by kernel_rfl) (by kernel_rfl) (by kernel_rfl) (fun _ _ _ h => h) (Or.inl ⟨by rfl, ?_⟩) hHeld ?_
  rotate_left
  · intro w hSw
    (try dsimp only at hSw)
    go_split_ands
    go_simp
    try with_reducible rfl
  try simp only [List.getElem_toArray, List.getElem_cons_succ, List.getElem_cons_zero, Act.put, List.setIfInBounds_toArray, List.set_cons_zero, List.set_cons_succ]
  refine but_take (i := 4) (v := ?_) rfl (by kernel_rfl) (by kernel_rfl) (by kernel_rfl) (by kernel_rfl) (fun _ _ _ h => h) (Or.inl ⟨by rfl, ?_⟩) hHeld ?_
  rotate_left
  · intro w hSw
    (try dsimp only at hSw)
    go_split_ands
    go_simp
    try with_reducible rfl
  try simp only [List.getElem_toArray, List.getElem_cons_succ, List.getElem_cons_zero, Act.put, List.setIfInBounds_toArray, List.set_cons_zero, List.set_cons_succ]
  refine but_take (i := 5) (v := ?_) rfl (by kernel_rfl) (by kernel_rfl) (by kernel_rfl) (by kernel_rfl) (fun _ _ _ h => h) (Or.inl ⟨by rfl, ?_⟩) hHeld ?_
  rotate_left
  · intro w hSw
    (try dsimp only at hSw)
    go_split_ands
    go_simp
    try with_reducible rfl
  try simp only [List.getElem_toArray, List.getElem_cons_succ, List.getElem_cons_zero, Act.put, List.setIfInBounds_toArray, List.set_cons_zero, List.set_cons_succ]
  refine but_take (i := 6) (v := ?_) rfl (by kernel_rfl) (by kernel_rfl) (by kernel_rfl) (by kernel_rfl) (fun _ _ _ h => h) (Or.inl ⟨by rfl, ?_⟩) hHeld ?_
  rotate_left
  · intro w hSw
    (try dsimp only at hSw)
    go_split_ands
    go_simp
    try with_reducible rfl
  try simp only [List.getElem_toArray, List.getElem_cons_succ, List.getElem_cons_zero, Act.put, List.setIfInBounds_toArray, List.set_cons_zero, List.set_cons_succ]
  refine but_take (i := 7) (v := ?_) rfl (by kernel_rfl) (by kernel_rfl) (by kernel_rfl) (by kernel_rfl) (fun _ _ _ h => h) (Or.inl ⟨by rfl, ?_⟩) hHeld ?_
  rotate_left
  · intro w hSw
    (try dsimp only at hSw)
    go_split_ands
    go_simp
    try with_reducible rfl
  try simp only [List.getElem_toArray, List.getElem_cons_succ, List.getElem_cons_zero, Act.put, List.setIfInBounds_toArray, List.set_cons_zero, List.set_cons_succ]
  refine but_take (i := 8) (v := ?_) rfl (by kernel_rfl) (by kernel_rfl) (by kernel_rfl) (by kernel_rfl) (fun _ _ _ h => h) (Or.inl ⟨by rfl, ?_⟩) hHeld ?_
  rotate_left
  · intro w hSw
    (try dsimp only at hSw)
    go_split_ands
    go_simp
    try with_reducible rfl
  try simp only [List.getElem_toArray, List.getElem_cons_succ, List.getElem_cons_zero, Act.put, List.setIfInBounds_toArray, List.set_cons_zero, List.set_cons_succ]
  refine but_take (i := 9) (v := ?_) rfl (by kernel_rfl) (by kernel_rfl) (by kernel_rfl) (by kernel_rfl) (fun _ _ _ h => h) (Or.inl ⟨by rfl, ?_⟩) hHeld ?_
  rotate_left
  · intro w hSw
    (try dsimp only at hSw)
    go_split_ands
    go_simp
    try with_reducible rfl
  try simp only [List.getElem_toArray, List.getElem_cons_succ, List.getElem_cons_zero, Act.put, List.setIfInBounds_toArray, List.set_cons_zero, List.set_cons_succ]
  refine but_one (i := 10) (by kernel_rfl) rfl ?_
  intro K hK
  go_simp
  go_at_call 72
  refine (hcl _).mono ?_
  rintro e w9 ⟨rfl, rfl⟩
  try dsimp only
  have hHeld2 := hHeld
  refine hK _ _ (fun _ => hHeld2) ?_
  clear hK K hHeld
  have hHeld := hHeld2
  clear hHeld2
  try simp only [List.getElem_toArray, List.getElem_cons_succ, List.getElem_cons_zero, Act.put, List.setIfInBounds_toArray, List.set_cons_zero, List.set_cons_succ]
  refine but_take (i := 11) (v := ?_) rfl (by kernel_rfl) (by kernel_rfl) (by kernel_rfl) (by kernel_rfl) (fun _ _ _ h => h) (Or.inl ⟨by rfl, ?_⟩) hHeld ?_
  rotate_left
  · intro w hSw
    (try dsimp only at hSw)
    go_split_ands
    go_simp
    try with_reducible rfl
  try simp only [List.getElem_toArray, List.getElem_cons_succ, List.getElem_cons_zero, Act.put, List.setIfInBounds_toArray, List.set_cons_zero, List.set_cons_succ]
  refine but_take (i := 12) (v := ?_) rfl (by kernel_rfl) (by kernel_rfl) (by kernel_rfl) (by kernel_rfl) (fun _ _ _ h => h) (Or.inl ⟨by rfl, ?_⟩) hHeld ?_
  rotate_left
  · intro w hSw
    (try dsimp only at hSw)
    go_split_ands
    go_simp
    try with_reducible rfl
  try simp only [List.getElem_toArray, List.getElem_cons_succ, List.getElem_cons_zero, Act.put, List.setIfInBounds_toArray, List.set_cons_zero, List.set_cons_succ]
  refine but_take (i := 13) (v := ?_) rfl (by kernel_rfl) (by kernel_rfl) (by kernel_rfl) (by kernel_rfl) (fun _ _ _ h => h) (Or.inl ⟨by rfl, ?_⟩) hHeld ?_
  rotate_left
  · intro w hSw
    (try dsimp only at hSw)
    go_split_ands
    go_simp
    try with_reducible rfl
  try simp only [List.getElem_toArray, List.getElem_cons_succ, List.getElem_cons_zero, Act.put, List.setIfInBounds_toArray, List.set_cons_zero, List.set_cons_succ]
  refine but_take (i := 14) (v := ?_) rfl (by kernel_rfl) (by kernel_rfl) (by kernel_rfl) (by kernel_rfl) (fun _ _ _ h => h) (Or.inl ⟨by rfl, ?_⟩) hHeld ?_
  rotate_left
  · intro w hSw
    (try dsimp only at hSw)
    go_split_ands
    go_simp
    try with_reducible rfl
  try simp only [List.getElem_toArray, List.getElem_cons_succ, List.getElem_cons_zero, Act.put, List.setIfInBounds_toArray, List.set_cons_zero, List.set_cons_succ]
  refine but_take (i := 15) (v := ?_) rfl (by kernel_rfl) (by kernel_rfl) (by kernel_rfl) (by kernel_rfl) (fun _ _ _ h => h) (Or.inl ⟨by rfl, ?_⟩) hHeld ?_
  rotate_left
  · intro w hSw
    (try dsimp only at hSw)
    go_split_ands
    go_simp
    try with_reducible rfl
  try simp only [List.getElem_toArray, List.getElem_cons_succ, List.getElem_cons_zero, Act.put, List.setIfInBounds_toArray, List.set_cons_zero, List.set_cons_succ]
  refine but_done (by kernel_rfl) ?_
  try clear hHeld
  clear KP
  have H3 := Lib.hid (H1.out.later (Below.refl _ _).drew)
  have HB3 := Lib.hid (HB2.out.trans ((Below.refl _ _).drew.mono HB2.out.size))
  have X3 := Lib.hid (X1.out.later (Below.refl _ _).drew)
  clear H1 HB2 X1 hcl HA
  generalize w2.drew = w3 at *
  obtain ⟨x0, x1, x2, _⟩ := X3.out.cells
  have c0 := H3.out.c0
  have hm := mem_ids hx
  have H4 := Lib.hid (H3.out.later (Below.refl _ _).drew)
  go_wp2_with fail
  refine but_start 1000 (fun w' => w'.cell? ⟨s, 0, none⟩ = some (.int .i64 x.id) ∧ w'.cell? ⟨t, 1, none⟩ = some (.pointer (some ⟨o, 0, none⟩))) (by kernel_rfl) ?_
  have hHeld := And.intro x0 c0
  change AnyBut _ _ _ _ _ _ 8 _ _ _
  refine but_take (i := 0) (v := ?_) rfl (by kernel_rfl) (by kernel_rfl) (by kernel_rfl) (by kernel_rfl) (fun _ _ _ h => h) (Or.inl ⟨by rfl, ?_⟩) hHeld ?_
  rotate_left
  · intro w hSw
    (try dsimp only at hSw)
    go_split_ands
    go_simp
    try with_reducible rfl
  try simp only [List.getElem_toArray, List.getElem_cons_zero, Act.put, List.setIfInBounds_toArray, List.set_cons_zero, List.set_cons_succ]
  refine but_take (i := 1) (v := ?_) rfl (by kernel_rfl) (by kernel_rfl) (by kernel_rfl) (by kernel_rfl) (fun _ _ _ h => h) (Or.inl ⟨by rfl, ?_⟩) hHeld ?_
  rotate_left
  · intro w hSw
    (try dsimp only at hSw)
    go_split_ands
    go_simp
    try with_reducible rfl
  try simp only [List.getElem_toArray, List.getElem_cons_succ, List.getElem_cons_zero, Act.put, List.setIfInBounds_toArray, List.set_cons_zero, List.set_cons_succ]
  refine but_take (i := 2) (v := ?_) rfl (by kernel_rfl) (by kernel_rfl) (by kernel_rfl) (by kernel_rfl) (fun _ _ _ h => h) (Or.inl ⟨by rfl, ?_⟩) hHeld ?_
  rotate_left
  · intro w hSw
    (try dsimp only at hSw)
    go_split_ands
    go_simp
    try with_reducible rfl
  try simp only [List.getElem_toArray, List.getElem_cons_succ, List.getElem_cons_zero, Act.put, List.setIfInBounds_toArray, List.set_cons_zero, List.set_cons_succ]
  refine but_take (i := 3) (v := ?_) rfl (by kernel_rfl) (by kernel_rfl) (by kernel_rfl) (by kernel_rfl) (fun _ _ _ h => h) (Or.inl ⟨by rfl, ?_⟩) hHeld ?_
  rotate_left
  · intro w hSw
    (try dsimp only at hSw)
    go_split_ands
    go_simp
    try with_reducible rfl
  try simp only [List.getElem_toArray, List.getElem_cons_succ, List.getElem_cons_zero, Act.put, List.setIfInBounds_toArray, List.set_cons_zero, List.set_cons_succ]
  refine but_take (i := 4) (v := ?_) rfl (by kernel_rfl) (by kernel_rfl) (by kernel_rfl) (by kernel_rfl) (fun _ _ _ h => h) (Or.inl ⟨by rfl, ?_⟩) hHeld ?_
  rotate_left
  · intro w hSw
    (try dsimp only at hSw)
    go_split_ands
    go_simp
    try with_reducible rfl
  try simp only [List.getElem_toArray, List.getElem_cons_succ, List.getElem_cons_zero, Act.put, List.setIfInBounds_toArray, List.set_cons_zero, List.set_cons_succ]
  refine but_take (i := 5) (v := ?_) rfl (by kernel_rfl) (by kernel_rfl) (by kernel_rfl) (by kernel_rfl) (fun _ _ _ h => h) (Or.inl ⟨by rfl, ?_⟩) hHeld ?_
  rotate_left
  · intro w hSw
    (try dsimp only at hSw)
    go_split_ands
    go_simp
    try with_reducible rfl
  try simp only [List.getElem_toArray, List.getElem_cons_succ, List.getElem_cons_zero, Act.put, List.setIfInBounds_toArray, List.set_cons_zero, List.set_cons_succ]
  refine but_take (i := 6) (v := ?_) rfl (by kernel_rfl) (by kernel_rfl) (by kernel_rfl) (by kernel_rfl) (fun _ _ _ h => h) (Or.inl ⟨by rfl, ?_⟩) hHeld ?_
  rotate_left
  · intro w hSw
    (try dsimp only at hSw)
    go_split_ands
    go_simp
    try with_reducible rfl
  try simp only [List.getElem_toArray, List.getElem_cons_succ, List.getElem_cons_zero, Act.put, List.setIfInBounds_toArray, List.set_cons_zero, List.set_cons_succ]
  refine but_one (i := 7) (by kernel_rfl) rfl ?_
  intro K hK
  go_simp
  go_at_call 74
  refine (move_yes x.id xn H4.out.hg H4.out.ok hk hm hn hl).mono ?_
  rintro e w4 hr
  have HR := Lib.hid (H4.out.go ((H4.out.ok.del x.id).ins x.id xn del_ids) hr)
  obtain rfl := hr.1
  clear hr
  try dsimp only
  have hHeld2 := HR.out.two (X3.out.later (Below.refl _ _).drew) NS.out
  refine hK _ _ (fun _ => hHeld2) ?_
  clear hK K hHeld
  clear hHeld2
  try simp only [List.getElem_toArray, List.getElem_cons_succ, List.getElem_cons_zero, Act.put, List.setIfInBounds_toArray, List.set_cons_zero, List.set_cons_succ]
  refine but_done (by kernel_rfl) ?_
  try clear hHeld
  go_wp2_with fail
  go_end0
  obtain ⟨_, p1, r1, r2⟩ := HR.out
  exact ⟨rfl, p1, r1, (TC.of_below p HB3.out.drew).trans r2⟩
end
end Go.Proofs.Ytdpapnfjpefhkaa
namespace Go.Proofs.Ytdpapnfjpefhkaa
open Go.RowKit
set_option linter.unusedVariables false
set_option maxRecDepth 100000
/-- One that is due. -/
abbrev vD (i x y : Int) : Value := .agg #[.int .i64 i, .int .i64 x, .int .i64 y]
/-- A block of one of its own. -/
def Dbk (w : World) (s : Nat) (i x y : Int) : Prop := w.heap[s]? = some (.cells #[.int .i64 i, .int .i64 x, .int .i64 y] 110 (0, 0))
section
variable {B t o b c n n' N N' : Nat} {vA vL : Value} {p p' : Option Nat} {S S' : List It} {g g' : Int → Int} {w w' : World} {e : Ending} {v : Value} {i x y : Int} {s : Nat}
theorem Dbk.new (w : World) (i x y : Int) : Dbk (w.alloc (.cells #[.int .i64 i, .int .i64 x, .int .i64 y] 110)) w.heap.size i x y := heap_alloc_new w _
theorem Dbk.later (h : Dbk w s i x y) (hb : Below w.heap.size w w') : Dbk w' s i x y := (hb.block s (lt_of_blk h)).trans h
theorem Dbk.tc (h : Dbk w s i x y) (f : Far s o b c p) (hc : TC o b c p p' w w') : Dbk w' s i x y := (hc.block s (lt_of_blk h) f.1 f.2.1 f.2.2.1 f.2.2.2).trans h
theorem Dbk.cells (h : Dbk w s i x y) : w.cell? ⟨s, 0, none⟩ = some (.int .i64 i) ∧ w.cell? ⟨s, 1, none⟩ = some (.int .i64 x) ∧ w.cell? ⟨s, 2, none⟩ = some (.int .i64 y) ∧ w.frozen? ⟨s, 0, none⟩ = false ∧ w.frozen? ⟨s, 1, none⟩ = false ∧ w.frozen? ⟨s, 2, none⟩ = false :=
  ⟨by rw [cell_of_row w s 0 _ _ _ h]; rfl, by rw [cell_of_row w s 1 _ _ _ h]; rfl, by rw [cell_of_row w s 2 _ _ _ h]; rfl, frozen_of_row w s 0 _ _ h, frozen_of_row w s 1 _ _ h, frozen_of_row w s 2 _ _ h⟩
theorem Dbk.set3 (h : Dbk w s i x y) (i' x' y' : Int) : Dbk (((w.setCell ⟨s, 0, none⟩ (.int .i64 i')).setCell ⟨s, 1, none⟩ (.int .i64 x')).setCell ⟨s, 2, none⟩ (.int .i64 y')) s i' x' y' := by
  have h1 := heap_setCell_same w s 0 _ _ (.int .i64 i') h
  have h2 := heap_setCell_same _ s 1 _ _ (.int .i64 x') h1
  have h3 := heap_setCell_same _ s 2 _ _ (.int .i64 y') h2
  exact h3
theorem TC.set (h : TC o b c p p' w w') (hs : w.heap.size ≤ s) (j : Nat) (v : Value) : TC o b c p p' w (w'.setCell ⟨s, j, none⟩ v) :=
  ⟨h.os, h.tape, h.output, by have := h.size; simpa [World.setCell] using this, fun k hk a1 a2 a3 a4 => (Below.heap_setCell _ _ _ _ (show k ≠ s by omega)).trans (h.block k hk a1 a2 a3 a4), h.new⟩
/-- What has come to be stands, though a block of one's own is written. -/
theorem XC.set3 {w1 : World} {u : Value} (h : XC B t vA vL o b c p n N S g v w1 e w') (h0 : TC o b c p p w w1) (hs : w.heap.size ≤ s) (hd : Dbk w' s i x y) (i' x' y' : Int) :
    XC B t vA vL o b c p n N S g u w (.returned u) (((w'.setCell ⟨s, 0, none⟩ (.int .i64 i')).setCell ⟨s, 1, none⟩ (.int .i64 x')).setCell ⟨s, 2, none⟩ (.int .i64 y')) := by
  obtain ⟨_, p1, h1, h2⟩ := h
  have e1 := heap_setCell_same w' s 0 _ _ (.int .i64 i') hd
  have e2 := heap_setCell_same _ s 1 _ _ (.int .i64 x') e1
  exact ⟨rfl, p1, ((h1.cell hd (by decide) (by decide) (by decide) _).cell e1 (by decide) (by decide) (by decide) _).cell e2 (by decide) (by decide) (by decide) _, (((h0.trans h2).set hs 0 _).set hs 1 _).set hs 2 _⟩
/-- One that is due and a bool. -/
def DbR (i x y : Int) (d : Bool) (w : World) (e : Ending) (w' : World) : Prop := e = .returned (.tuple #[vD i x y, .bool d]) ∧ Below w.heap.size w w'
theorem below_set3 {r : Nat} {a b c : Value} (h : Below w.heap.size w w') (hr : w.heap.size ≤ r) : Below w.heap.size w (((w'.setCell ⟨r, 0, none⟩ a).setCell ⟨r, 1, none⟩ b).setCell ⟨r, 2, none⟩ c) := ((h.setCell hr _).setCell hr _).setCell hr _
set_option maxHeartbeats 4000000 in
theorem take_empty {now : Int} (h : TT B t vA vL o b c p n N [] g w):
    Calls Try.prog 41 #[.pointer (some ⟨t, 1, none⟩), .int .i64 now] w (DbR 0 0 0 false w) := by
  have c0 := h.c0
  have ht := h.lt
  have FR := Lib.hid h.far
  have HA := Lib.hid (h.later (below_al w (.cells #[.int .i64 0, .int .i64 0, .int .i64 0] 110)))
  have D1 := Lib.hid (Dbk.new w 0 0 0)
  have HB1 := Lib.hid (below_al w (.cells #[.int .i64 0, .int .i64 0, .int .i64 0] 110))
  clear h
  go_enter Try.func41, Try.ntmps41
  go_wp2_with fail
  refine (gmin_none HA.out.hg).mono ?_
  rintro e w1 ⟨rfl, hb⟩
  generalize w.alloc (.cells #[.int .i64 0, .int .i64 0, .int .i64 0] 110) = wa at *
  have HA1 := Lib.hid (HA.out.later hb)
  have D1 := Lib.hid (D1.out.later hb)
  have HB1 := Lib.hid (HB1.out.trans (hb.mono HB1.out.size))
  clear hb HA
  have X1 := Lib.hid (Blk.new w1 zI)
  have NS := Lib.hid HA1.out.far
  have HA := Lib.hid (HA1.out.later (below_al w1 (.cells #[.int .i64 zI.id, .int .i64 zI.w, .int .i64 zI.s] 150)))
  have D1 := Lib.hid (D1.out.later (below_al w1 (.cells #[.int .i64 zI.id, .int .i64 zI.w, .int .i64 zI.s] 150)))
  have HB1 := Lib.hid (HB1.out.trans ((below_al w1 (.cells #[.int .i64 zI.id, .int .i64 zI.w, .int .i64 zI.s] 150)).mono HB1.out.size))
  clear HA1
  go_upto_region 4 with (fail)
  generalize w1.alloc (.cells #[.int .i64 zI.id, .int .i64 zI.w, .int .i64 zI.s] 150) = w2 at *
  generalize w1.heap.size = s at *
  clear c0 ht
  have c0 := HA.out.c0
  obtain ⟨x0, x1, x2, _⟩ := X1.out.cells
  obtain ⟨d0, d1, d2, f0, f1, f2⟩ := D1.out.cells
  go_wp2_with fail
  refine bodyPost_ret (v := .tuple #[vD 0 0 0, .bool false]) ?_ rfl ⟨rfl, below_set3 HB1.out (Nat.le_refl _)⟩
  rw [results_cell_tmp rfl]
  go_simp
set_option maxHeartbeats 4000000 in
theorem take_early {x : It} {now : Int} (h : TT B t vA vL o b c p n N (x :: S) g w) (hl : (x :: S).length ≤ 1000) (hw : now < x.w) :
    Calls Try.prog 41 #[.pointer (some ⟨t, 1, none⟩), .int .i64 now] w (DbR 0 0 0 false w) := by
  have c0 := h.c0
  have ht := h.lt
  have FR := Lib.hid h.far
  have HA := Lib.hid (h.later (below_al w (.cells #[.int .i64 0, .int .i64 0, .int .i64 0] 110)))
  have D1 := Lib.hid (Dbk.new w 0 0 0)
  have HB1 := Lib.hid (below_al w (.cells #[.int .i64 0, .int .i64 0, .int .i64 0] 110))
  clear h
  go_enter Try.func41, Try.ntmps41
  go_wp2_with fail
  refine (gmin_some HA.out.hg HA.out.ok.srt hl).mono ?_
  rintro e w1 ⟨rfl, hb⟩
  generalize w.alloc (.cells #[.int .i64 0, .int .i64 0, .int .i64 0] 110) = wa at *
  have HA1 := Lib.hid (HA.out.later hb)
  have D1 := Lib.hid (D1.out.later hb)
  have HB1 := Lib.hid (HB1.out.trans (hb.mono HB1.out.size))
  clear hb HA
  have X1 := Lib.hid (Blk.new w1 x)
  have NS := Lib.hid HA1.out.far
  have HA := Lib.hid (HA1.out.later (below_al w1 (.cells #[.int .i64 x.id, .int .i64 x.w, .int .i64 x.s] 150)))
  have D1 := Lib.hid (D1.out.later (below_al w1 (.cells #[.int .i64 x.id, .int .i64 x.w, .int .i64 x.s] 150)))
  have HB1 := Lib.hid (HB1.out.trans ((below_al w1 (.cells #[.int .i64 x.id, .int .i64 x.w, .int .i64 x.s] 150)).mono HB1.out.size))
  clear HA1
  go_upto_region 4 with (fail)
  generalize w1.alloc (.cells #[.int .i64 x.id, .int .i64 x.w, .int .i64 x.s] 150) = w2 at *
  generalize w1.heap.size = s at *
  clear c0 ht
  have c0 := HA.out.c0
  obtain ⟨x0, x1, x2, _⟩ := X1.out.cells
  obtain ⟨d0, d1, d2, f0, f1, f2⟩ := D1.out.cells
  go_wp2_with fail
  refine bodyPost_ret (v := .tuple #[vD 0 0 0, .bool false]) ?_ rfl ⟨rfl, below_set3 HB1.out (Nat.le_refl _)⟩
  rw [results_cell_tmp rfl]
  go_simp
set_option maxHeartbeats 4000000 in
theorem take_end {x : It} {now : Int} (h : TT B t vA vL o b c p n N (x :: S) g w) (hl : (x :: S).length ≤ 1000) (hw : x.w ≤ now) (hg : ¬ Gon x.w (g x.id) now) :
    Calls Try.prog 41 #[.pointer (some ⟨t, 1, none⟩), .int .i64 now] w (XC B t vA vL o b c p n N S (fput g x.id 0) (.tuple #[vD x.id x.w now, .bool true]) w) := by
  have hw2 : ¬ now < x.w := by omega
  clear hw
  have htl := h.ok.tail.1
  have hmem : x ∈ x :: S := by simp
  have c0 := h.c0
  have ht := h.lt
  have FR := Lib.hid h.far
  have HA := Lib.hid (h.later (below_al w (.cells #[.int .i64 0, .int .i64 0, .int .i64 0] 110)))
  have D1 := Lib.hid (Dbk.new w 0 0 0)
  have HB1 := Lib.hid (below_al w (.cells #[.int .i64 0, .int .i64 0, .int .i64 0] 110))
  clear h
  go_enter Try.func41, Try.ntmps41
  go_wp2_with fail
  refine (gmin_some HA.out.hg HA.out.ok.srt hl).mono ?_
  rintro e w1 ⟨rfl, hb⟩
  generalize w.alloc (.cells #[.int .i64 0, .int .i64 0, .int .i64 0] 110) = wa at *
  have HA1 := Lib.hid (HA.out.later hb)
  have D1 := Lib.hid (D1.out.later hb)
  have HB1 := Lib.hid (HB1.out.trans (hb.mono HB1.out.size))
  clear hb HA
  have X1 := Lib.hid (Blk.new w1 x)
  have NS := Lib.hid HA1.out.far
  have HA := Lib.hid (HA1.out.later (below_al w1 (.cells #[.int .i64 x.id, .int .i64 x.w, .int .i64 x.s] 150)))
  have D1 := Lib.hid (D1.out.later (below_al w1 (.cells #[.int .i64 x.id, .int .i64 x.w, .int .i64 x.s] 150)))
  have HB1 := Lib.hid (HB1.out.trans ((below_al w1 (.cells #[.int .i64 x.id, .int .i64 x.w, .int .i64 x.s] 150)).mono HB1.out.size))
  clear HA1
  go_upto_region 4 with (fail)
  generalize w1.alloc (.cells #[.int .i64 x.id, .int .i64 x.w, .int .i64 x.s] 150) = w2 at *
  generalize w1.heap.size = s at *
  clear c0 ht
  have c0 := HA.out.c0
  obtain ⟨x0, x1, x2, _⟩ := X1.out.cells
  obtain ⟨d0, d1, d2, f0, f1, f2⟩ := D1.out.cells
  go_wp2_with fail
  refine (again_end HA.out hmem hl hg).mono ?_
  rintro e w3 hr3
  have HR := Lib.hid hr3
  obtain rfl := hr3.1
  clear hr3
  obtain ⟨_, p1, h1, h2⟩ := HR.out
  have X3 := Lib.hid (X1.out.tc NS.out h2)
  have D3 := Lib.hid (D1.out.tc FR.out h2)
  clear h1 h2 x0 x1 x2 d0 d1 d2 f0 f1 f2 c0
  obtain ⟨x0, x1, x2, _⟩ := X3.out.cells
  obtain ⟨d0, d1, d2, f0, f1, f2⟩ := D3.out.cells
  have HF : Hid (XC B t vA vL o b c p n N S (fput g x.id 0) (.tuple #[vD x.id x.w now, .bool true]) w (.returned (.tuple #[vD x.id x.w now, .bool true])) (((w3.setCell ⟨w.heap.size, 0, none⟩ (.int .i64 x.id)).setCell ⟨w.heap.size, 1, none⟩ (.int .i64 x.w)).setCell ⟨w.heap.size, 2, none⟩ (.int .i64 now))) := by
    have h9 := HR.out.set3 (u := .tuple #[vD x.id x.w now, .bool true]) (TC.of_below p HB1.out) (Nat.le_refl _) D3.out x.id x.w now
    rw [htl] at h9
    exact h9
  clear HR X1 D1 HA
  go_wp2_with fail
  refine bodyPost_ret (v := .tuple #[vD x.id x.w now, .bool true]) ?_ rfl HF.out
  rw [results_cell_tmp rfl]
  go_simp
set_option maxHeartbeats 4000000 in
theorem take_on {x : It} {now : Int} (h : TT B t vA vL o b c p n N (x :: S) g w) (hn : n ≤ 1000000) (hl : (x :: S).length ≤ 1000) (hw : x.w ≤ now) (hg : Gon x.w (g x.id) now) :
    Calls Try.prog 41 #[.pointer (some ⟨t, 1, none⟩), .int .i64 now] w (XC B t vA vL o b c p (n + 1) N (ins ⟨x.id, nx x.w (g x.id) now, (n : Int) + 1⟩ S) g (.tuple #[vD x.id x.w now, .bool true]) w) := by
  have hw2 : ¬ now < x.w := by omega
  clear hw
  have htl := h.ok.tail.1
  have hmem : x ∈ x :: S := by simp
  have c0 := h.c0
  have ht := h.lt
  have FR := Lib.hid h.far
  have HA := Lib.hid (h.later (below_al w (.cells #[.int .i64 0, .int .i64 0, .int .i64 0] 110)))
  have D1 := Lib.hid (Dbk.new w 0 0 0)
  have HB1 := Lib.hid (below_al w (.cells #[.int .i64 0, .int .i64 0, .int .i64 0] 110))
  clear h
  go_enter Try.func41, Try.ntmps41
  go_wp2_with fail
  refine (gmin_some HA.out.hg HA.out.ok.srt hl).mono ?_
  rintro e w1 ⟨rfl, hb⟩
  generalize w.alloc (.cells #[.int .i64 0, .int .i64 0, .int .i64 0] 110) = wa at *
  have HA1 := Lib.hid (HA.out.later hb)
  have D1 := Lib.hid (D1.out.later hb)
  have HB1 := Lib.hid (HB1.out.trans (hb.mono HB1.out.size))
  clear hb HA
  have X1 := Lib.hid (Blk.new w1 x)
  have NS := Lib.hid HA1.out.far
  have HA := Lib.hid (HA1.out.later (below_al w1 (.cells #[.int .i64 x.id, .int .i64 x.w, .int .i64 x.s] 150)))
  have D1 := Lib.hid (D1.out.later (below_al w1 (.cells #[.int .i64 x.id, .int .i64 x.w, .int .i64 x.s] 150)))
  have HB1 := Lib.hid (HB1.out.trans ((below_al w1 (.cells #[.int .i64 x.id, .int .i64 x.w, .int .i64 x.s] 150)).mono HB1.out.size))
  clear HA1
  go_upto_region 4 with (fail)
  generalize w1.alloc (.cells #[.int .i64 x.id, .int .i64 x.w, .int .i64 x.s] 150) = w2 at *
  generalize w1.heap.size = s at *
  clear c0 ht
  have c0 := HA.out.c0
  obtain ⟨x0, x1, x2, _⟩ := X1.out.cells
  obtain ⟨d0, d1, d2, f0, f1, f2⟩ := D1.out.cells
  go_wp2_with fail
  refine (again_on HA.out hmem hn hl hg).mono ?_
  rintro e w3 hr3
  have HR := Lib.hid hr3
  obtain rfl := hr3.1
  clear hr3
  obtain ⟨_, p1, h1, h2⟩ := HR.out
  have X3 := Lib.hid (X1.out.tc NS.out h2)
  have D3 := Lib.hid (D1.out.tc FR.out h2)
  clear h1 h2 x0 x1 x2 d0 d1 d2 f0 f1 f2 c0
  obtain ⟨x0, x1, x2, _⟩ := X3.out.cells
  obtain ⟨d0, d1, d2, f0, f1, f2⟩ := D3.out.cells
  have HF : Hid (XC B t vA vL o b c p (n + 1) N (ins ⟨x.id, nx x.w (g x.id) now, (n : Int) + 1⟩ S) g (.tuple #[vD x.id x.w now, .bool true]) w (.returned (.tuple #[vD x.id x.w now, .bool true])) (((w3.setCell ⟨w.heap.size, 0, none⟩ (.int .i64 x.id)).setCell ⟨w.heap.size, 1, none⟩ (.int .i64 x.w)).setCell ⟨w.heap.size, 2, none⟩ (.int .i64 now))) := by
    have h9 := HR.out.set3 (u := .tuple #[vD x.id x.w now, .bool true]) (TC.of_below p HB1.out) (Nat.le_refl _) D3.out x.id x.w now
    rw [htl] at h9
    exact h9
  clear HR X1 D1 HA
  go_wp2_with fail
  refine bodyPost_ret (v := .tuple #[vD x.id x.w now, .bool true]) ?_ rfl HF.out
  rw [results_cell_tmp rfl]
  go_simp
end
end Go.Proofs.Ytdpapnfjpefhkaa
namespace Go.Proofs.Ytdpapnfjpefhkaa
open Go.RowKit
set_option linter.unusedVariables false
set_option maxRecDepth 100000
section
variable {W w w' : World} {B t o b c n : Nat} {vA vL : Value} {S : List It} {g : Int → Int}
abbrev pT (t : Nat) : Value := .pointer (some ⟨t, 1, none⟩)
theorem tn_arm (k x y : Int) (h : TN B t vA vL o b c n S g w) (hk : Wf k) (hx : Fit x) (hy : Fit y) (hn : n ≤ 1000000) (hl : S.length < 1000) : Calls Try.prog 83 #[pT t, .int .i64 k, .int .i64 x, .int .i64 y] w (XR B t vA vL o b c (n + 1) (ins ⟨k, x, (n : Int) + 1⟩ (del k S)) (fput g k y) (.int .i64 0) w) := by
  obtain ⟨p, N, hN, h⟩ := h
  exact (arm_any k x y h hk hx hy hn (by omega) hl).mono fun _ _ r => h.xr (by omega) r
theorem tn_arm_bad (k x y : Int) (t : Nat) (w : World) (h : ¬ (Fit x ∧ Fit y)) : Calls Try.prog 83 #[pT t, .int .i64 k, .int .i64 x, .int .i64 y] w fun e w' => e = .returned (.int .i64 1) ∧ w = w' :=
  arm_bad k x y _ (by simp) w h
theorem tn_stop_yes {x : It} (h : TN B t vA vL o b c n S g w) (hx : x ∈ S) (hl : S.length ≤ 1000) : Calls Try.prog 73 #[pT t, .int .i64 x.id] w (XR B t vA vL o b c n (del x.id S) (fput g x.id 0) (.bool true) w) := by
  obtain ⟨p, N, hN, h⟩ := h
  exact (stop_yes h hx hl).mono fun _ _ r => h.xr hN r
theorem tn_stop_no {k : Int} (h : TN B t vA vL o b c n S g w) (hk : Wf k) (hm : k ∉ ids S) : Calls Try.prog 73 #[pT t, .int .i64 k] w (XR B t vA vL o b c n S (fput g k 0) (.bool false) w) := by
  obtain ⟨p, N, hN, h⟩ := h
  exact (stop_no h hk hm).mono fun _ _ r => h.xr hN r
theorem tn_next {x : It} (h : TN B t vA vL o b c n (x :: S) g w) (hl : (x :: S).length ≤ 1000) : Calls Try.prog 50 #[pT t] w (XR B t vA vL o b c n (x :: S) g (.tuple #[.int .i64 x.w, .bool true]) w) := by
  have H := h
  obtain ⟨p, N, hN, h⟩ := h
  exact (next_some h hl).mono fun _ _ r => H.same r
theorem tn_next_no (h : TN B t vA vL o b c n [] g w) : Calls Try.prog 50 #[pT t] w (XR B t vA vL o b c n [] g (.tuple #[.int .i64 0, .bool false]) w) := by
  have H := h
  obtain ⟨p, N, hN, h⟩ := h
  exact (next_none h).mono fun _ _ r => H.same r
/-- None is due. -/
def Idle (now : Int) : List It → Prop
  | [] => True
  | x :: _ => now < x.w
theorem tn_take_no {now : Int} (h : TN B t vA vL o b c n S g w) (hl : S.length ≤ 1000) (hi : Idle now S) : Calls Try.prog 41 #[pT t, .int .i64 now] w (XR B t vA vL o b c n S g (.tuple #[vD 0 0 0, .bool false]) w) := by
  have H := h
  obtain ⟨p, N, hN, h⟩ := h
  cases S with
  | nil => exact (take_empty h).mono fun _ _ r => H.same r
  | cons x S => exact (take_early h hl hi).mono fun _ _ r => H.same r
theorem tn_take_end {x : It} {now : Int} (h : TN B t vA vL o b c n (x :: S) g w) (hl : (x :: S).length ≤ 1000) (hw : x.w ≤ now) (hg : ¬ Gon x.w (g x.id) now) : Calls Try.prog 41 #[pT t, .int .i64 now] w (XR B t vA vL o b c n S (fput g x.id 0) (.tuple #[vD x.id x.w now, .bool true]) w) := by
  obtain ⟨p, N, hN, h⟩ := h
  exact (take_end h hl hw hg).mono fun _ _ r => h.xr hN r
theorem tn_take_on {x : It} {now : Int} (h : TN B t vA vL o b c n (x :: S) g w) (hn : n ≤ 1000000) (hl : (x :: S).length ≤ 1000) (hw : x.w ≤ now) (hg : Gon x.w (g x.id) now) : Calls Try.prog 41 #[pT t, .int .i64 now] w (XR B t vA vL o b c (n + 1) (ins ⟨x.id, nx x.w (g x.id) now, (n : Int) + 1⟩ S) g (.tuple #[vD x.id x.w now, .bool true]) w) := by
  obtain ⟨p, N, hN, h⟩ := h
  exact (take_on h hn hl hw hg).mono fun _ _ r => h.xr (by omega) r
/-- A store into a row of another kind. -/
theorem TN.put3 (h : TN B t vA vL o b c n S g w) {s ty : Nat} {u0 u1 u2 : Value} (ht : w.heap[s]? = some (.cells #[u0, u1, u2] ty (0, 0))) (h1 : ty ≠ 179) (h2 : ty ≠ 150) (h3 : ty ≠ 99) (v0 v1 v2 : Value) : TN B t vA vL o b c n S g (((w.setCell ⟨s, 0, none⟩ v0).setCell ⟨s, 1, none⟩ v1).setCell ⟨s, 2, none⟩ v2) := by
  have e1 := heap_setCell_same w s 0 _ _ v0 ht
  have e2 := heap_setCell_same _ s 1 _ _ v1 e1
  exact ((h.cell ht h1 h2 h3 _).cell e1 h1 h2 h3 _).cell e2 h1 h2 h3 _
end
/-- The timers since a call began. -/
structure XS (W : World) (t : Nat) (vA vL : Value) (o b c n : Nat) (S : List It) (g : Int → Int) (w : World) : Prop where
  bel : Below W.heap.size W w
  tn : TN W.heap.size t vA vL o b c n S g w
section
variable {W w w' : World} {t o b c n n' : Nat} {vA vL : Value} {S S' : List It} {g g' : Int → Int} {v : Value} {f : Nat} {args : Array Value} {e : Ending}
theorem XS.later (h : XS W t vA vL o b c n S g w) (hb : Below w.heap.size w w') : XS W t vA vL o b c n S g w' := ⟨h.bel.trans (hb.mono h.bel.size), h.tn.later hb⟩
theorem XS.go (h : XS W t vA vL o b c n S g w) (r : XR W.heap.size t vA vL o b c n' S' g' v w e w') : e = .returned v ∧ XS W t vA vL o b c n' S' g' w' ∧ OX w w' := ⟨r.1, ⟨h.bel.trans r.2.2.1, r.2.1⟩, r.2.2.2⟩
theorem XS.run (h : XS W t vA vL o b c n S g w) (hc : Calls Try.prog f args w (XR W.heap.size t vA vL o b c n' S' g' v w)) : Calls Try.prog f args w (fun e w' => e = .returned v ∧ XS W t vA vL o b c n' S' g' w' ∧ OX w w') := hc.mono fun _ _ r => h.go r
theorem XS.box (h : XS W t vA vL o b c n S g w) (u : Obj) : XS W t vA vL o b c n S g (w.alloc u) := h.later (below_al w u)
/-- A store into a row of another kind that the call made. -/
theorem XS.cell (h : XS W t vA vL o b c n S g w) {s ty j : Nat} {cs : Array Value} {fr : Nat × Nat} (hs : W.heap.size ≤ s) (ht : w.heap[s]? = some (.cells cs ty fr)) (h1 : ty ≠ 179) (h2 : ty ≠ 150) (h3 : ty ≠ 99) (v : Value) : XS W t vA vL o b c n S g (w.setCell ⟨s, j, none⟩ v) := ⟨h.bel.setCell hs _, h.tn.cell ht h1 h2 h3 v⟩
theorem Dbk.ox {s : Nat} {i x y : Int} (h : Dbk w s i x y) (k : OX w w') : Dbk w' s i x y := k s _ _ _ h (by decide) (by decide)
end
theorem wf_small {x : Int} (h1 : -1000000 ≤ x) (h2 : x ≤ 1000000) : Wf x := wf_of (by omega) (by omega)
end Go.Proofs.Ytdpapnfjpefhkaa
