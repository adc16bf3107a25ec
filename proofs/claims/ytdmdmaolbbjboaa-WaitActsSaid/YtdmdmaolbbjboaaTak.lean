/- Take takes the first one of a task and case, Has asks for a task, All tells all. Conditions: the Queue holds l, not too many. -/
import Derived.Test.YtdmdmaolbbjboaaRem
namespace Go.Proofs.Ytdmdmaolbbjboaa
open Go.RowKit
set_option linter.unusedVariables false

def isTC (t c : Int) (x : Wt) : Bool := x.t == t && x.c == c
structure TakS (ns : Ns) (f : Wt → Bool) (pre rest : Ns) : Prop where
  e : ns = pre ++ rest
  no : ∀ m ∈ pre, f m.2 = false
theorem TakS.step {ns pre r : Ns} {f : Wt → Bool} {b : Nat} {x : Wt} (h : TakS ns f pre ((b, x) :: r)) (hx : f x = false) : TakS ns f (pre ++ [(b, x)]) r :=
  ⟨by rw [h.e]; simp, fun m hm => by
    rcases List.mem_append.1 hm with hm | hm
    · exact h.no m hm
    · simp at hm; subst hm; exact hx⟩
theorem TakS.none {ns pre : Ns} {f : Wt → Bool} (h : TakS ns f pre []) : ∀ x ∈ ns.map (·.2), f x = false := by
  intro x hx
  obtain ⟨m, hm, rfl⟩ := List.mem_map.1 hx
  have e := h.e
  rw [List.append_nil] at e
  subst e
  exact h.no m hm
/-- A cell for a result, beside a Queue. -/
structure Res (B : Nat) (W w' : World) : Prop where
  r : w'.heap[W.heap.size]? = some (.cells #[.int .i64 0, .int .i64 0, .int .i64 0] 28 (0, 0))
  fr : Fr B W w'
theorem Res.d0 {B : Nat} {W w : World} (h : Res B W w) : w.cell? ⟨W.heap.size, 0, none⟩ = some (.int .i64 0) := by rw [cell_of_row w _ 0 _ _ _ h.r]; rfl
theorem Res.d1 {B : Nat} {W w : World} (h : Res B W w) : w.cell? ⟨W.heap.size, 1, none⟩ = some (.int .i64 0) := by rw [cell_of_row w _ 1 _ _ _ h.r]; rfl
theorem Res.d2 {B : Nat} {W w : World} (h : Res B W w) : w.cell? ⟨W.heap.size, 2, none⟩ = some (.int .i64 0) := by rw [cell_of_row w _ 2 _ _ _ h.r]; rfl
theorem Res.fz {B : Nat} {W w : World} (h : Res B W w) (i : Nat) : w.frozen? ⟨W.heap.size, i, none⟩ = false := frozen_of_row w W.heap.size i _ _ h.r
theorem Res.go {B : Nat} {W w w' : World} (h : Res B W w) (f : Fr B w w') : Res B W w' := ⟨f.at h.r (not_isq h.r (by decide)), h.fr.trans f⟩
theorem Res.ne {B : Nat} {W w : World} (h : Res B W w) {b : Nat} {x : Wt} {p n : Option Nat} (hN : Nd w b x p n) : b ≠ W.heap.size := by
  rintro rfl
  have := h.r
  unfold Nd at hN
  rw [hN] at this
  simp at this
theorem Res.new (B : Nat) (w : World) : Res B w (w.alloc (.cells #[.int .i64 0, .int .i64 0, .int .i64 0] 28)) := ⟨heap_alloc_new _ _, Fr.of_below (below_al _ _)⟩

theorem take_any {w : World} {B q : Nat} {l : List Wt} (t c : Int) (h : QL w B q l) (hl : l.length ≤ 1000000) : Calls Try.prog 11 #[.pointer (some ⟨q, 0, none⟩), .int .i64 t, .int .i64 c] w fun e w' =>
    ((∀ x ∈ l, isTC t c x = false) ∧ PopR B q l ⟨0, 0, 0⟩ false w e w') ∨ ∃ l1 x l2, l = l1 ++ x :: l2 ∧ (∀ y ∈ l1, isTC t c y = false) ∧ isTC t c x = true ∧ PopR B q (l1 ++ l2) x true w e w' := by
  obtain ⟨ns, h, rfl⟩ := h
  rw [List.length_map] at hl
  have HL := Lib.hid (h.later (below_al w (.cells #[.int .i64 0, .int .i64 0, .int .i64 0] 28)))
  have HR := Lib.hid (Res.new B w)
  have HS : Hid (TakS ns (isTC t c) [] ns) := ⟨rfl, fun m hm => by simp at hm⟩
  clear h
  go_enter Try.func11, Try.ntmps11
  go_wp2_with fail
  refine (head_any HL.out).mono ?_
  rintro e w' ⟨rfl, rfl⟩
  go_wp2_with fail
  generalize w.alloc (.cells #[.int .i64 0, .int .i64 0, .int .i64 0] 28) = w1 at *
  go_loopg [8] ns.length (fun m p wr => ∃ (pre rest : Ns), p = .pointer (adr (hd rest none)) ∧ rest.length = m ∧ Hid (TakS ns (isTC t c) pre rest) ∧ w1 = wr)
  case atStart => exact ⟨[], ns, rfl, rfl, HS, rfl⟩
  case round =>
    obtain ⟨pre, rest, rfl, hm, hS, rfl⟩ := hrel
    clear HS
    cases rest with
    | nil =>
      rw [hd_nil, adr_none]
      have d0 := HR.out.d0
      have d1 := HR.out.d1
      have d2 := HR.out.d2
      have e0 := HR.out.fz 0
      have e1 := HR.out.fz 1
      have e2 := HR.out.fz 2
      have HN := Lib.hid (not_isq HR.out.r (by decide))
      go_wp2_with fail
      refine bodyPost_ret (v := .tuple #[wG ⟨0, 0, 0⟩, .bool false]) ?_ rfl (.inl ⟨hS.out.none, rfl, ⟨ns, ((HL.out.setN HN.out _).setN (not_isq_set HN.out) _).setN (not_isq_set (not_isq_set HN.out)) _, rfl⟩, ((HR.out.fr.setNew (Nat.le_refl _) _).setNew (Nat.le_refl _) _).setNew (Nat.le_refl _) _⟩)
      rw [results_cell_tmp rfl]; go_simp; rfl
    | cons bx r =>
      obtain ⟨b, x⟩ := bx
      rw [hd_cons, adr_some]
      have hL : LQ w1 B q (pre ++ (b, x) :: r) := by rw [← hS.out.e]; exact HL.out
      have hN := hL.mid.2.1
      have c0 := hN.c0
      have c1 := hN.c1
      have c4 := hN.c4
      have hlen : pre.length ≤ 1000000 ∧ r.length ≤ 1000000 := by
        have h3 := congrArg List.length hS.out.e
        rw [List.length_append, List.length_cons] at h3
        omega
      have HM := Lib.hid hm
      have HN := Lib.hid hlen
      have HLL := Lib.hid hL
      clear hN hL hm hlen
      by_cases hx : isTC t c x = true
      · obtain ⟨k1, k2⟩ : (x.t == t) = true ∧ (x.c == c) = true := by unfold isTC at hx; exact Bool.and_eq_true_iff.1 hx
        have HX := Lib.hid hx
        clear hx c4
        go_wp2_with fail
        refine (cut_any HLL.out HN.out.1 HN.out.2).mono ?_
        rintro e w2 ⟨rfl, hq2, hb2, hf2⟩
        have hN2 : Nd w2 b x _ _ := Nd.keep HLL.out.mid.2.1 hb2
        have hR2 := HR.out.go hf2
        have c0 := hN2.c0
        have c1 := hN2.c1
        have c2 := hN2.c2
        have hne := hR2.ne hN2
        have d0 := hR2.d0
        have d1 := hR2.d1
        have d2 := hR2.d2
        have e0 := hR2.fz 0
        have e1 := hR2.fz 1
        have e2 := hR2.fz 2
        have HI := Lib.hid (not_isq hR2.r (by decide))
        have HR2 := Lib.hid hR2
        have HQ2 := Lib.hid hq2
        clear hR2 hq2 hf2 hb2 hN2
        go_wp2_with fail
        refine bodyPost_ret (v := .tuple #[wG x, .bool true]) ?_ rfl (.inr ⟨pre.map (·.2), x, r.map (·.2), by rw [hS.out.e]; simp, ?_, HX.out, rfl, ⟨pre ++ r, ((HQ2.out.setN HI.out _).setN (not_isq_set HI.out) _).setN (not_isq_set (not_isq_set HI.out)) _, by simp⟩, ((HR2.out.fr.setNew (Nat.le_refl _) _).setNew (Nat.le_refl _) _).setNew (Nat.le_refl _) _⟩)
        · rw [results_cell_tmp rfl]; go_simp; rfl
        · intro y hy
          obtain ⟨m, hm, rfl⟩ := List.mem_map.1 hy
          exact hS.out.no m hm
      · have HS2 := Lib.hid (hS.out.step (by simpa using hx))
        clear HLL
        by_cases k1 : (x.t == t) = true
        · have k2 : (x.c == c) = false := by unfold isTC at hx; rw [k1] at hx; simpa using hx
          clear hx
          go_wp2_with fail
          go_roundg r.length
          case measure => have := HM.out; simp at this; omega
          case rel => exact ⟨pre ++ [(b, x)], r, rfl, rfl, HS2, rfl⟩
        · have k2 : (x.t == t) = false := by simpa using k1
          clear hx k1
          go_wp2_with fail
          go_roundg r.length
          case measure => have := HM.out; simp at this; omega
          case rel => exact ⟨pre ++ [(b, x)], r, rfl, rfl, HS2, rfl⟩

theorem has_any {w : World} {B q : Nat} {l : List Wt} (t : Int) (h : QL w B q l) : Calls Try.prog 12 #[.pointer (some ⟨q, 0, none⟩), .int .i64 t] w fun e w' => e = .returned (.bool (l.any (isT t))) ∧ w = w' := by
  obtain ⟨ns, h, rfl⟩ := h
  have HL := Lib.hid h
  have HS : Hid (TakS ns (isT t) [] ns) := ⟨rfl, fun m hm => by simp at hm⟩
  clear h
  go_enter Try.func12, Try.ntmps12
  go_wp2_with fail
  refine (head_any HL.out).mono ?_
  rintro e w' ⟨rfl, rfl⟩
  go_wp2_with fail
  go_loopg [5] ns.length (fun m p wr => ∃ (pre rest : Ns), p = .pointer (adr (hd rest none)) ∧ rest.length = m ∧ Hid (TakS ns (isT t) pre rest) ∧ w = wr)
  case atStart => exact ⟨[], ns, rfl, rfl, HS, rfl⟩
  case round =>
    obtain ⟨pre, rest, rfl, hm, hS, rfl⟩ := hrel
    clear HS
    cases rest with
    | nil =>
      rw [hd_nil, adr_none]
      go_wp2_with fail
      go_ret
      exact ⟨ret_bool (by symm; rw [List.any_eq_false]; intro x hx; simp [hS.out.none x hx]), rfl⟩
    | cons bx r =>
      obtain ⟨b, x⟩ := bx
      rw [hd_cons, adr_some]
      have hL : LQ w B q (pre ++ (b, x) :: r) := by rw [← hS.out.e]; exact HL.out
      have hN := hL.mid.2.1
      have c0 := hN.c0
      have c4 := hN.c4
      have HM := Lib.hid hm
      clear hN hL hm
      by_cases hx : (x.t == t) = true
      · go_wp2_with fail
        go_ret
        exact ⟨ret_bool (by symm; rw [List.any_eq_true]; exact ⟨x, by rw [hS.out.e]; simp, hx⟩), rfl⟩
      · have k2 : (x.t == t) = false := by simpa using hx
        have HS2 := Lib.hid (hS.out.step (show isT t x = false from k2))
        clear hx
        go_wp2_with fail
        go_roundg r.length
        case measure => have := HM.out; simp at this; omega
        case rel => exact ⟨pre ++ [(b, x)], r, rfl, rfl, HS2, rfl⟩
end Go.Proofs.Ytdmdmaolbbjboaa
