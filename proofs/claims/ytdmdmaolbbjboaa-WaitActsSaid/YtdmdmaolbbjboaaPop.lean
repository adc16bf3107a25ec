/- Pop, Remove, Take, Has walked. Conditions: each theorem's own premises. -/
import Derived.Test.YtdmdmaolbbjboaaPsh
namespace Go.Proofs.Ytdmdmaolbbjboaa
open Go.RowKit
set_option linter.unusedVariables false

theorem not_isq {w : World} {k : Nat} {cs : Array Value} {t : TypeId} {fr : Nat × Nat} (h : w.heap[k]? = some (.cells cs t fr)) (ht : t ≠ 48 ∧ t ≠ 50) : ¬ IsQ w k := by
  rintro ⟨cs', t', h1, h2⟩
  rw [h] at h1
  cases h1
  rcases h2 with h2 | h2
  · exact ht.1 h2
  · exact ht.2 h2
theorem Fr.at {B : Nat} {w w' : World} {k : Nat} {o : Obj} (h : Fr B w w') (hk : w.heap[k]? = some o) (hn : ¬ IsQ w k) : w'.heap[k]? = some o := (h.block k (lt_of_blk hk) (.inr hn)).trans hk
theorem Fr.setNew {B g i : Nat} {u w : World} (h : Fr B u w) (hg : u.heap.size ≤ g) (v : Value) : Fr B u (w.setCell ⟨g, i, none⟩ v) :=
  ⟨h.os, h.tape, h.output, by rw [size_set]; exact h.size, fun k hk hn => (Below.heap_setCell _ _ _ _ (by show k ≠ g; omega)).trans (h.block k hk hn)⟩
theorem LQ.setN {w : World} {B q : Nat} {ns : Ns} {g i : Nat} (h : LQ w B q ns) (hg : ¬ IsQ w g) (v : Value) : LQ (w.setCell ⟨g, i, none⟩ v) B q ns :=
  h.keep fun k _ hk => Below.heap_setCell _ _ _ _ (by rintro rfl; exact hg hk)
theorem not_isq_set {w : World} {g a i : Nat} {v : Value} (h : ¬ IsQ w g) : ¬ IsQ (w.setCell ⟨a, i, none⟩ v) g := by
  rintro ⟨cs, t, h1, h2⟩
  by_cases e : g = a
  · subst e
    simp only [World.setCell, Array.getElem?_modify, if_pos] at h1
    cases hw : w.heap[g]? with
    | none => rw [hw] at h1; simp at h1
    | some o =>
      rw [hw] at h1
      simp only [Option.map_some, Option.some.injEq] at h1
      cases o with
      | cells c t' fr => 
        simp only [Obj.cells.injEq] at h1
        obtain ⟨_, rfl, rfl⟩ := h1
        exact h ⟨c, _, hw, h2⟩
      | _ => cases h1
  · rw [Below.heap_setCell _ _ _ _ e] at h1
    exact h ⟨cs, t, h1, h2⟩
theorem frame_al {B : Nat} {w : World} {o : Obj} {w' : World} (h : Fr B (w.alloc o) w') : Fr B w w' := (Fr.of_below (below_al w o)).trans h
theorem pop_none {w : World} {B q : Nat} (h : QL w B q []) : Calls Try.prog 9 #[.pointer (some ⟨q, 0, none⟩)] w (PopR B q [] ⟨0, 0, 0⟩ false w) := by
  obtain ⟨ns, h, e⟩ := h
  obtain rfl : ns = [] := by simpa using e
  have HR := Lib.hid (h.later (below_al w (.cells #[.int .i64 0, .int .i64 0, .int .i64 0] 28)))
  clear h e
  go_enter Try.func9, Try.ntmps9
  go_wp2_with fail
  refine (head_any HR.out).mono ?_
  rintro e w' ⟨rfl, rfl⟩
  simp only [hd, adr_none]
  go_wp2_with fail
  refine bodyPost_ret (v := .tuple #[wG ⟨0, 0, 0⟩, .bool false]) ?_ rfl ⟨rfl, ⟨[], HR.out, rfl⟩, Fr.of_below (below_al _ _)⟩
  rw [results_cell_tmp rfl]; go_simp; rfl
theorem pop_some {w : World} {B q : Nat} {x : Wt} {l : List Wt} (h : QL w B q (x :: l)) (hl : l.length ≤ 1000000) : Calls Try.prog 9 #[.pointer (some ⟨q, 0, none⟩)] w (PopR B q l x true w) := by
  obtain ⟨ns, h, e⟩ := h
  obtain ⟨⟨b, x'⟩, r, rfl⟩ : ∃ m r, ns = m :: r := by cases ns with
    | nil => simp at e
    | cons m r => exact ⟨m, r, rfl⟩
  simp only [List.map_cons, List.cons.injEq] at e
  obtain ⟨rfl, rfl⟩ := e
  rw [List.length_map] at hl
  have HR := Lib.hid (h.later (below_al w (.cells #[.int .i64 0, .int .i64 0, .int .i64 0] 28)))
  clear h
  go_enter Try.func9, Try.ntmps9
  go_wp2_with fail
  refine (head_any HR.out).mono ?_
  rintro e w' ⟨rfl, rfl⟩
  simp only [hd, adr_some]
  go_wp2_with fail
  refine (cut_any (l := []) HR.out (by simp) hl).mono ?_
  rintro e w' ⟨rfl, h2, hb, hf⟩
  have hN : Nd w' b x' none (hd r none) := Nd.keep HR.out.sg.1 hb
  have c0 := hN.c0
  have c1 := hN.c1
  have c2 := hN.c2
  have hs := hf.size
  have hres : w'.heap[w.heap.size]? = some (.cells #[.int .i64 0, .int .i64 0, .int .i64 0] 28 (0, 0)) := hf.at (heap_alloc_new _ _) (not_isq (heap_alloc_new _ _) (by decide))
  have hne : b ≠ w.heap.size := by
    rintro rfl
    unfold Nd at hN
    rw [hN] at hres
    simp at hres
  have d0 : w'.cell? ⟨w.heap.size, 0, none⟩ = some (.int .i64 0) := by rw [cell_of_row w' _ 0 _ _ _ hres]; rfl
  have d1 : w'.cell? ⟨w.heap.size, 1, none⟩ = some (.int .i64 0) := by rw [cell_of_row w' _ 1 _ _ _ hres]; rfl
  have d2 : w'.cell? ⟨w.heap.size, 2, none⟩ = some (.int .i64 0) := by rw [cell_of_row w' _ 2 _ _ _ hres]; rfl
  have e0 := frozen_of_row w' w.heap.size 0 _ _ hres
  have e1 := frozen_of_row w' w.heap.size 1 _ _ hres
  have e2 := frozen_of_row w' w.heap.size 2 _ _ hres
  have H2 := Lib.hid h2
  have HF := Lib.hid (frame_al hf)
  have HN := Lib.hid (not_isq hres (by decide))
  clear hres hN h2 hb hf hs HR
  go_wp2_with fail
  refine bodyPost_ret (v := .tuple #[wG x', .bool true]) ?_ rfl ⟨rfl, ⟨r, ((H2.out.setN HN.out _).setN (not_isq_set HN.out) _).setN (not_isq_set (not_isq_set HN.out)) _, rfl⟩, ((HF.out.setNew (Nat.le_refl _) _).setNew (Nat.le_refl _) _).setNew (Nat.le_refl _) _⟩
  rw [results_cell_tmp rfl]; go_simp; rfl
end Go.Proofs.Ytdmdmaolbbjboaa
