/- Wait puts a task behind those who wait. Conditions: each theorem's own premises. -/
import Derived.Test.YtmadcnpkaijllaaCAll
namespace Go.Proofs.Ytmadcnpkaijllaa.Ch
open Go.RowKit
set_option linter.unusedVariables false
set_option maxRecDepth 100000

/-- Who waits, and what it is told. -/
def wt (s : CS) (x : Wt) (b : Bool) : CS × Int :=
  if b = true ∧ s.kd ≠ 0 then (s, 7) else if s.cl = true then (s, 5) else if (fr s b || meet x.t (s.q (!b))) = true then (s, 1) else (s.sq b (s.q b ++ [x]), 0)
def WaR (F : Nat → Prop) (c : Nat) (g : CS × Int) (w : World) (e : Ending) (w' : World) : Prop := e = .returned (.int .i64 g.2) ∧ Go F c g.1 w w'
section
variable {w : World} {c : Nat} {F : Nat → Prop} {s : CS}
theorem wait_no (x : Wt) (b : Bool) (h : CH w F c s) (hn : (s.q (!b)).length ≤ 1000000) (hk : ¬ (b = true ∧ s.kd ≠ 0)) (hc : s.cl = false) (hm : (fr s b || meet x.t (s.q (!b))) = true) : Calls Try.prog 29 #[.pointer (some ⟨c, 0, none⟩), wG x, .bool b] w (WaR F c (s, 1) w) := by
  have c0 := (h.later (below_al w (.cells #[.int .i64 x.t, .int .i64 x.c, .int .i64 x.v] 60))).c0
  have c1 := (h.later (below_al w (.cells #[.int .i64 x.t, .int .i64 x.c, .int .i64 x.v] 60))).c1
  rw [hc] at c1
  have HC := Lib.hid (h.later (below_al w (.cells #[.int .i64 x.t, .int .i64 x.c, .int .i64 x.v] 60)))
  have HC0 := Lib.hid h
  have HN := Lib.hid hn
  have HK : Hid (∀ n, (w.alloc (.cells #[.int .i64 x.t, .int .i64 x.c, .int .i64 x.v] 60)).drewN n = (w.alloc (.cells #[.int .i64 x.t, .int .i64 x.c, .int .i64 x.v] 60)).drewN n) := fun _ => rfl
  clear h hn hc
  unfold wG
  cases b with
  | true =>
    have b1 : ((s.kd : Int) == 0) = true := by
      rw [beq_iff_eq]
      by_cases h0 : s.kd = 0
      · rw [h0]; rfl
      · exact absurd ⟨rfl, h0⟩ hk
    clear hk
    cases hf : fr s true with
    | true =>
      clear hm
      go_enter Try.func29, Try.ntmps29
      go_wp2_with fail
      refine (free_any true HC.out).mono ?_
      rintro e w' ⟨rfl, n, rfl⟩
      rw [hf]
      go_wp2_with fail
      go_ret
      exact ⟨rfl, (((Go.here HC0.out).later (below_al _ _)).draws rfl rfl rfl rfl)⟩
    | false =>
      rw [hf, Bool.false_or] at hm
      go_enter Try.func29, Try.ntmps29
      go_wp2_with fail
      refine (free_any true HC.out).mono ?_
      rintro e w' ⟨rfl, n, rfl⟩
      rw [hf]
      go_wp2_with fail
      refine (meets_any x.t true (HC.out.draw n) HN.out).mono ?_
      rintro e w2 ⟨rfl, hb⟩
      rw [hm]
      have HB := Lib.hid hb
      clear hb
      go_wp2_with fail
      go_ret
      exact ⟨rfl, (Go.here HC0.out).later ((below_drewN (below_al w (.cells #[.int .i64 x.t, .int .i64 x.c, .int .i64 x.v] 60)) n).trans (HB.out.mono (by simp)))⟩
  | false =>
    clear hk
    cases hf : fr s false with
    | true =>
      clear hm
      go_enter Try.func29, Try.ntmps29
      go_wp2_with fail
      refine (free_any false HC.out).mono ?_
      rintro e w' ⟨rfl, n, rfl⟩
      rw [hf]
      go_wp2_with fail
      go_ret
      exact ⟨rfl, (((Go.here HC0.out).later (below_al _ _)).draws rfl rfl rfl rfl)⟩
    | false =>
      rw [hf, Bool.false_or] at hm
      go_enter Try.func29, Try.ntmps29
      go_wp2_with fail
      refine (free_any false HC.out).mono ?_
      rintro e w' ⟨rfl, n, rfl⟩
      rw [hf]
      go_wp2_with fail
      refine (meets_any x.t false (HC.out.draw n) HN.out).mono ?_
      rintro e w2 ⟨rfl, hb⟩
      rw [hm]
      have HB := Lib.hid hb
      clear hb
      go_wp2_with fail
      go_ret
      exact ⟨rfl, (Go.here HC0.out).later ((below_drewN (below_al w (.cells #[.int .i64 x.t, .int .i64 x.c, .int .i64 x.v] 60)) n).trans (HB.out.mono (by simp)))⟩
theorem wait_kind (x : Wt) (h : CH w F c s) (hk : s.kd ≠ 0) : Calls Try.prog 29 #[.pointer (some ⟨c, 0, none⟩), wG x, .bool true] w (WaR F c (s, 7) w) := by
  have c0 := (h.later (below_al w (.cells #[.int .i64 x.t, .int .i64 x.c, .int .i64 x.v] 60))).c0
  have b1 : ((s.kd : Int) == 0) = false := by rw [beq_eq_false_iff_ne]; omega
  have HC0 := Lib.hid h
  clear h hk
  unfold wG
  go_enter Try.func29, Try.ntmps29
  go_wp2_with fail
  go_ret
  exact ⟨rfl, (Go.here HC0.out).later (below_al _ _)⟩
theorem wait_closed (x : Wt) (b : Bool) (h : CH w F c s) (hk : ¬ (b = true ∧ s.kd ≠ 0)) (hc : s.cl = true) : Calls Try.prog 29 #[.pointer (some ⟨c, 0, none⟩), wG x, .bool b] w (WaR F c (s, 5) w) := by
  have c0 := (h.later (below_al w (.cells #[.int .i64 x.t, .int .i64 x.c, .int .i64 x.v] 60))).c0
  have c1 := (h.later (below_al w (.cells #[.int .i64 x.t, .int .i64 x.c, .int .i64 x.v] 60))).c1
  rw [hc] at c1
  have HC0 := Lib.hid h
  clear h hc
  unfold wG
  cases b with
  | true =>
    have b1 : ((s.kd : Int) == 0) = true := by
      rw [beq_iff_eq]
      by_cases h0 : s.kd = 0
      · rw [h0]; rfl
      · exact absurd ⟨rfl, h0⟩ hk
    clear hk
    go_enter Try.func29, Try.ntmps29
    go_wp2_with fail
    go_ret
    exact ⟨rfl, (Go.here HC0.out).later (below_al _ _)⟩
  | false =>
    clear hk
    go_enter Try.func29, Try.ntmps29
    go_wp2_with fail
    go_ret
    exact ⟨rfl, (Go.here HC0.out).later (below_al _ _)⟩
set_option maxHeartbeats 2000000 in
theorem wait_yes (x : Wt) (b : Bool) (hx : Wf x.t) (h : CH w F c s) (hn : ∀ b, (s.q b).length ≤ 1000000) (hk : ¬ (b = true ∧ s.kd ≠ 0)) (hc : s.cl = false) (hf : fr s b = false) (hm : meet x.t (s.q (!b)) = false) : Calls Try.prog 29 #[.pointer (some ⟨c, 0, none⟩), wG x, .bool b] w (WaR F c (s.sq b (s.q b ++ [x]), 0) w) := by
  have c0 := (h.later (below_al w (.cells #[.int .i64 x.t, .int .i64 x.c, .int .i64 x.v] 60))).c0
  have c1 := (h.later (below_al w (.cells #[.int .i64 x.t, .int .i64 x.c, .int .i64 x.v] 60))).c1
  rw [hc] at c1
  have HC := Lib.hid (h.later (below_al w (.cells #[.int .i64 x.t, .int .i64 x.c, .int .i64 x.v] 60)))
  have HK : Hid ((w.alloc (.cells #[.int .i64 x.t, .int .i64 x.c, .int .i64 x.v] 60)).heap[w.heap.size]? = some (.cells #[.int .i64 x.t, .int .i64 x.c, .int .i64 x.v] 60 (0, 0))) := heap_alloc_new _ _
  have HN := Lib.hid hn
  clear h hn hc
  unfold wG
  cases b with
  | true =>
    have b1 : ((s.kd : Int) == 0) = true := by
      rw [beq_iff_eq]
      by_cases h0 : s.kd = 0
      · rw [h0]; rfl
      · exact absurd ⟨rfl, h0⟩ hk
    clear hk
    go_enter Try.func29, Try.ntmps29
    go_wp2_with fail
    refine (free_any true HC.out).mono ?_
    rintro e w' ⟨rfl, n, rfl⟩
    rw [hf]
    go_wp2_with fail
    refine (meets_any x.t true (HC.out.draw n) (HN.out false)).mono ?_
    rintro e w2 ⟨rfl, hb⟩
    rw [hm]
    have HC2 := Lib.hid ((HC.out.draw n).later hb)
    have HB : Hid (Below w.heap.size w w2) := (below_drewN (below_al w (.cells #[.int .i64 x.t, .int .i64 x.c, .int .i64 x.v] 60)) n).trans (hb.mono (by simp))
    have a := (hb.block w.heap.size (by simp)).trans HK.out
    have a0 := cell_of_row w2 w.heap.size 0 _ _ _ a
    have a1 := cell_of_row w2 w.heap.size 1 _ _ _ a
    have a2 := cell_of_row w2 w.heap.size 2 _ _ _ a
    simp only [List.getElem?_toArray, List.getElem?_cons_succ, List.getElem?_cons_zero] at a0 a1 a2
    have HL : Hid (∀ w3 : World, w3.heap = w2.heap → Calls Try.prog 39 #[.pointer (some ⟨c, 0, none⟩), .bool true] w3 fun e w' => e = .returned (.pointer (some ⟨c, 3, none⟩)) ∧ w3 = w') := fun w3 e => ch_line (HC2.out.keep fun _ _ => by rw [e]) true
    have HP : Hid (∀ w3 : World, w3.heap = w2.heap → w3.os = w2.os → w3.tape = w2.tape → w3.output = w2.output → Calls Try.prog 51 #[.pointer (some ⟨c, 3, none⟩), wG x] w3 fun e w' => (∃ k, e = .returned (.int .i64 k)) ∧ Go F c { s with ss := s.ss ++ [x] } w w') := by
      intro w3 e1 e2 e3 e4
      refine (ch_push x (HC2.out.keep (w' := w3) fun _ _ => by rw [e1]) true hx (HN.out true)).mono ?_
      rintro e w4 ⟨h1, g⟩
      exact ⟨h1, Go.from HB.out (Go.comp ((Tn.refl F w2).draws e1 e2 e3 e4) (fun b hb => .inl hb) g)⟩
    clear hb a hf hm HC HC2 HK HB b1 c0 c1
    unfold wG at HP
    go_wp2_with fail
    go_region_with (first
      | (go_at_call 39; go_loud (refine (HL.out _ (by rfl)).mono ?_; rintro e w3 ⟨rfl, rfl⟩))
      | (go_at_call 51; go_loud (refine (HP.out _ (by rfl) (by rfl) (by rfl) (by rfl)).mono ?_; rintro e w3 ⟨⟨k, rfl⟩, g⟩; have G := Lib.hid g; clear g)))
    all_goals
      go_wp2_with fail
      go_ret
      exact ⟨rfl, G.out.draws rfl rfl rfl rfl⟩
  | false =>
    clear hk
    go_enter Try.func29, Try.ntmps29
    go_wp2_with fail
    refine (free_any false HC.out).mono ?_
    rintro e w' ⟨rfl, n, rfl⟩
    rw [hf]
    go_wp2_with fail
    refine (meets_any x.t false (HC.out.draw n) (HN.out true)).mono ?_
    rintro e w2 ⟨rfl, hb⟩
    rw [hm]
    have HC2 := Lib.hid ((HC.out.draw n).later hb)
    have HB : Hid (Below w.heap.size w w2) := (below_drewN (below_al w (.cells #[.int .i64 x.t, .int .i64 x.c, .int .i64 x.v] 60)) n).trans (hb.mono (by simp))
    have a := (hb.block w.heap.size (by simp)).trans HK.out
    have a0 := cell_of_row w2 w.heap.size 0 _ _ _ a
    have a1 := cell_of_row w2 w.heap.size 1 _ _ _ a
    have a2 := cell_of_row w2 w.heap.size 2 _ _ _ a
    simp only [List.getElem?_toArray, List.getElem?_cons_succ, List.getElem?_cons_zero] at a0 a1 a2
    have HL : Hid (∀ w3 : World, w3.heap = w2.heap → Calls Try.prog 39 #[.pointer (some ⟨c, 0, none⟩), .bool false] w3 fun e w' => e = .returned (.pointer (some ⟨c, 6, none⟩)) ∧ w3 = w') := fun w3 e => ch_line (HC2.out.keep fun _ _ => by rw [e]) false
    have HP : Hid (∀ w3 : World, w3.heap = w2.heap → w3.os = w2.os → w3.tape = w2.tape → w3.output = w2.output → Calls Try.prog 51 #[.pointer (some ⟨c, 6, none⟩), wG x] w3 fun e w' => (∃ k, e = .returned (.int .i64 k)) ∧ Go F c { s with rs := s.rs ++ [x] } w w') := by
      intro w3 e1 e2 e3 e4
      refine (ch_push x (HC2.out.keep (w' := w3) fun _ _ => by rw [e1]) false hx (HN.out false)).mono ?_
      rintro e w4 ⟨h1, g⟩
      exact ⟨h1, Go.from HB.out (Go.comp ((Tn.refl F w2).draws e1 e2 e3 e4) (fun b hb => .inl hb) g)⟩
    clear hb a hf hm HC HC2 HK HB c0 c1
    unfold wG at HP
    go_wp2_with fail
    go_region_with (first
      | (go_at_call 39; go_loud (refine (HL.out _ (by rfl)).mono ?_; rintro e w3 ⟨rfl, rfl⟩))
      | (go_at_call 51; go_loud (refine (HP.out _ (by rfl) (by rfl) (by rfl) (by rfl)).mono ?_; rintro e w3 ⟨⟨k, rfl⟩, g⟩; have G := Lib.hid g; clear g)))
    all_goals
      go_wp2_with fail
      go_ret
      exact ⟨rfl, G.out.draws rfl rfl rfl rfl⟩
theorem wait_any (x : Wt) (b : Bool) (hx : Wf x.t) (h : CH w F c s) (hn : ∀ b, (s.q b).length ≤ 1000000) : Calls Try.prog 29 #[.pointer (some ⟨c, 0, none⟩), wG x, .bool b] w (WaR F c (wt s x b) w) := by
  unfold wt
  split
  · rename_i hk
    obtain ⟨rfl, hk⟩ := hk
    exact wait_kind x h hk
  · rename_i hk
    split
    · rename_i hc
      exact wait_closed x b h hk hc
    · rename_i hc
      have hc' : s.cl = false := by simpa using hc
      split
      · rename_i hm
        exact wait_no x b h (hn _) hk hc' hm
      · rename_i hm
        simp only [Bool.or_eq_true, not_or, Bool.not_eq_true] at hm
        exact wait_yes x b hx h hn hk hc' hm.1 hm.2
end
end Go.Proofs.Ytmadcnpkaijllaa.Ch
