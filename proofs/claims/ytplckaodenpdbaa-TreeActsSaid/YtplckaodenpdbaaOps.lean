/- What each call of package tree that makes one, reads it, or adds to it, does to a tree in memory. Conditions: each theorem's own premises. -/
import Derived.Test.YtplckaodenpdbaaMem
namespace Go.Proofs.Ytplckaodenpdbaa
open Go.RowKit
set_option linter.unusedVariables false
set_option maxRecDepth 100000

theorem inf3 : (Try.prog.info? 3).map (fun i => (i.zero, i.size, i.bytes)) = some (some (.int .i64 0), 1, 8) := by kernel_rfl
theorem inf57 : (Try.prog.info? 57).map (fun i => (i.zero, i.size, i.bytes)) = some (some (.agg #[.int .i64 0, .bool false, .slice none 0 0]), 3, 40) := by kernel_rfl
theorem nd_cell (p : Int) (l : Bool) : ∀ u ∈ ([.int .i64 p, .bool l, .slice none 0 0] : List Value), u.oneCell' = true := by intro u hu; simp at hu; rcases hu with rfl | rfl | rfl <;> rfl
theorem int_cell (x : Int) : ∀ u ∈ ([.int .i64 x] : List Value), u.oneCell' = true := by intro u hu; simp at hu; subst hu; rfl

theorem new_any (w : World) : Calls Try.prog 9 #[] w fun e w' => e = .returned (.pointer (some ⟨w.heap.size, 0, none⟩)) ∧ TR (fun k => w.heap.size ≤ k) w.heap.size [] w' w.heap.size ∧ Below w.heap.size w w' := by
  have hE : Hid (TR (fun k => w.heap.size ≤ k) w.heap.size [] (w.alloc (.cells #[.slice none 0 0] 55)) w.heap.size) := Lib.hid ⟨WF.nil, by simp, none, 0, [], TX.new w, rfl, fun i d h => (by simp at h)⟩
  go_enter Try.func9, Try.ntmps9
  go_wp2
  go_ret
  exact ⟨rfl, hE.out, below_al _ _⟩
theorem len_nil (w : World) : Calls Try.prog 14 #[.pointer none] w fun e w' => e = .returned (.int .i64 0) ∧ w = w' := by
  go_enter Try.func14, Try.ntmps14
  go_wp2
  go_ret
  exact ⟨rfl, rfl⟩
section
variable {F : Nat → Prop} {B t : Nat} {S : TS}
theorem len_any (w : World) (h : TR F B S w t) : Calls Try.prog 14 #[.pointer (some ⟨t, 0, none⟩)] w fun e w' => e = .returned (.int .i64 (S.length : Int)) ∧ w = w' := by
  obtain ⟨P, c, D, x, o⟩ := h.ex
  have h0 := x.c0
  have hl := o.1
  clear h x o
  rw [hl] at h0
  clear hl
  go_enter Try.func14, Try.ntmps14
  go_wp2
  go_ret
  exact ⟨rfl, rfl⟩
theorem has_yes (w : World) (h : TR F B S w t) (i : Nat) (hi : i < S.length) : Calls Try.prog 23 #[.pointer (some ⟨t, 0, none⟩), .int .i64 (i : Int)] w fun e w' => e = .returned (.bool true) ∧ w = w' := by
  have b1 : (i : Int) < (S.length : Int) := by omega
  have b2 : (0 : Int) ≤ (i : Int) := by omega
  go_enter Try.func23, Try.ntmps23
  go_wp2_with fail
  refine (len_any w h).mono ?_
  rintro e w' ⟨rfl, rfl⟩
  go_wp2_with fail
  go_ret
  exact ⟨rfl, rfl⟩
theorem has_no (w : World) (h : TR F B S w t) (i : Int) (hi : i < 0 ∨ (S.length : Int) ≤ i) : Calls Try.prog 23 #[.pointer (some ⟨t, 0, none⟩), .int .i64 i] w fun e w' => e = .returned (.bool false) ∧ w = w' := by
  by_cases c1 : i < 0
  · have c2 : ¬ 0 ≤ i := by omega
    clear hi h
    go_enter Try.func23, Try.ntmps23
    go_wp2_with fail
    go_ret
    exact ⟨rfl, rfl⟩
  · have c2 : 0 ≤ i := by omega
    have c3 : ¬ i < (S.length : Int) := by omega
    clear hi c1
    go_enter Try.func23, Try.ntmps23
    go_wp2_with fail
    refine (len_any w h).mono ?_
    rintro e w' ⟨rfl, rfl⟩
    go_wp2_with fail
    go_ret
    exact ⟨ret_bool (decide_eq_false (by omega)), rfl⟩

/-- What Parent tells. -/
theorem par_no (w : World) (h : TR F B S w t) (i : Int) (hi : i < 0 ∨ (S.length : Int) ≤ i) : Calls Try.prog 15 #[.pointer (some ⟨t, 0, none⟩), .int .i64 i] w fun e w' => e = .returned (.tuple #[.int .i64 0, .bool false, .bool false]) ∧ Below w.heap.size w w' := by
  go_enter Try.func15, Try.ntmps15
  go_wp2_with fail
  refine (has_no w h i hi).mono ?_
  rintro e w' ⟨rfl, rfl⟩
  go_wp2_with fail
  go_ret3
  exact ⟨rfl, Below.refl _ _⟩
theorem par_yes (w : World) (h : TR F B S w t) (i : Nat) {p : Int} {l : Bool} (hs : S[i]? = some (p, l)) : Calls Try.prog 15 #[.pointer (some ⟨t, 0, none⟩), .int .i64 (i : Int)] w fun e w' => e = .returned (.tuple #[.int .i64 p, .bool l, .bool true]) ∧ Below w.heap.size w w' := by
  have hi := (List.getElem?_eq_some_iff.1 hs).1
  have h3 := h.le
  obtain ⟨P, c, D, x, o⟩ := h.ex
  have hT := Lib.hid h
  obtain ⟨d, hd, h1, hks⟩ := o.one hi
  rw [hs] at h1
  simp only [Option.some.injEq, Prod.mk.injEq] at h1
  obtain ⟨rfl, rfl⟩ := h1
  obtain ⟨q, rfl, hc⟩ := x.form hd
  have h0 := x.c0
  have hl := o.1
  rw [hl] at h0
  obtain ⟨e1, e2, e3⟩ := x.cells rfl hd
  have b1 : (i : Int) < (S.length : Int) := by omega
  have b2 : (0 : Int) ≤ (i : Int) := by omega
  have hq := (row_lt x.own (k := q) rfl).2
  clear h x o hl hd hc hks
  go_enter Try.func15, Try.ntmps15
  go_wp2_with fail
  refine (has_yes w hT.out i hi).mono ?_
  rintro e w' ⟨rfl, rfl⟩
  go_wp2_with fail
  go_quiet (fail)
  go_wp2_with fail
  go_ret3
  exact ⟨rfl, (below_al w _).trans ((below_drewN _ _).mono (by simp))⟩
end
end Go.Proofs.Ytplckaodenpdbaa
