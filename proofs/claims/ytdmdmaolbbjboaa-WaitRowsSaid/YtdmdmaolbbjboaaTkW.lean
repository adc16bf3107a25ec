/- The walk of WaitTakes. No condition. -/
import Derived.Test.YtdmdmaolbbjboaaAwk
namespace Go.Proofs.Ytdmdmaolbbjboaa
open Go.RowKit
set_option linter.unusedVariables false

/-- The first one that f takes has the value F; -1: there is none. -/
def FsR (f : Wt → Bool) (l : List Wt) (F : Int) : Prop := (l.find? f = none ∧ F = -1) ∨ ∃ x, l.find? f = some x ∧ F = x.v ∧ 0 ≤ F
theorem FsR.skip {f : Wt → Bool} {l : List Wt} {F : Int} {x : Wt} (h : FsR f l F) (hx : f x = false) : FsR f (l ++ [x]) F := by
  rcases h with ⟨h, e⟩ | ⟨y, h, e, e2⟩
  · exact .inl ⟨by rw [List.find?_append, h]; simp [hx], e⟩
  · exact .inr ⟨y, by rw [List.find?_append, h]; rfl, e, e2⟩
theorem FsR.stay {f : Wt → Bool} {l : List Wt} {F : Int} {x : Wt} (h : FsR f l F) (hF : 0 ≤ F) : FsR f (l ++ [x]) F := by
  rcases h with ⟨h, e⟩ | ⟨y, h, e, e2⟩
  · omega
  · exact .inr ⟨y, by rw [List.find?_append, h]; rfl, e, e2⟩
theorem FsR.here {f : Wt → Bool} {l : List Wt} {F : Int} {x : Wt} (h : FsR f l F) (hF : F < 0) (hx : f x = true) (h0 : 0 ≤ x.v) : FsR f (l ++ [x]) x.v := by
  rcases h with ⟨h, e⟩ | ⟨y, h, e, e2⟩
  · exact .inr ⟨x, by rw [List.find?_append, h]; simp [hx], rfl, h0⟩
  · omega
theorem FsR.no {f : Wt → Bool} {l : List Wt} {F : Int} (h : FsR f l F) (hl : ∀ x ∈ l, f x = false) : F = -1 := by
  rcases h with ⟨_, e⟩ | ⟨x, h, _⟩
  · exact e
  · have h1 := hl x (List.mem_of_find?_eq_some h)
    rw [List.find?_some h] at h1; cases h1
theorem FsR.yes {f : Wt → Bool} {l1 l2 : List Wt} {x : Wt} {F : Int} (h : FsR f (l1 ++ x :: l2) F) (hl : ∀ y ∈ l1, f y = false) (hx : f x = true) : F = x.v ∧ 0 ≤ F := by
  have hf : (l1 ++ x :: l2).find? f = some x := by
    rw [List.find?_append, List.find?_eq_none.2 (fun y hy => by simp [hl y hy])]
    simp [hx]
  rcases h with ⟨h, e⟩ | ⟨y, h, e, e2⟩
  · rw [hf] at h; cases h
  · rw [hf] at h; cases h; exact ⟨e, e2⟩
theorem any_ct (f : Wt → Bool) (l : List Wt) : l.any f = decide (0 < (l.countP f : Int)) := by
  cases h : l.any f with
  | true =>
    obtain ⟨x, hx, hf⟩ := List.any_eq_true.1 h
    have := List.countP_pos_iff.2 ⟨x, hx, hf⟩
    exact (decide_eq_true (by omega)).symm
  | false =>
    rw [List.any_eq_false] at h
    have : l.countP f = 0 := List.countP_eq_zero.2 (fun x hx => by simpa using h x hx)
    rw [this]; rfl
theorem any_gone (f : Wt → Bool) (l : List Wt) : (l.filter fun x => !f x).any f = false := by
  rw [List.any_eq_false]; intro x hx
  have := (List.mem_filter.1 hx).2
  simpa using this

structure TkS (W : World) (t c : Int) (k : Nat) (F : Int) (A : Nat) (l : List Wt) (w : World) : Prop where
  st : ST W l w
  len : l.length = k
  fs : FsR (isTC t c) l F
  ct : l.countP (isT t) = A
theorem TkS.le {W w : World} {t c F : Int} {k A : Nat} {l : List Wt} (h : TkS W t c k F A l w) : A ≤ k := by rw [← h.len, ← h.ct]; exact List.countP_le_length
theorem TkS.skip {W w w' : World} {t c F : Int} {k A : Nat} {l : List Wt} {x : Wt} (h : TkS W t c k F A l w) (s : ST W (l ++ [x]) w') (hx : isT t x = false) : TkS W t c (k + 1) F A (l ++ [x]) w' :=
  ⟨s, by simp [h.len], h.fs.skip (by unfold isTC; unfold isT at hx; rw [hx]; rfl), by simp [List.countP_append, hx, h.ct]⟩
theorem TkS.other {W w w' : World} {t c F : Int} {k A : Nat} {l : List Wt} {x : Wt} (h : TkS W t c k F A l w) (s : ST W (l ++ [x]) w') (hx : isT t x = true) (hc : (x.c == c) = false) : TkS W t c (k + 1) F (A + 1) (l ++ [x]) w' :=
  ⟨s, by simp [h.len], h.fs.skip (by unfold isTC; rw [hc, Bool.and_false]), by simp [List.countP_append, hx, h.ct]⟩
theorem TkS.more {W w w' : World} {t c F : Int} {k A : Nat} {l : List Wt} {x : Wt} (h : TkS W t c k F A l w) (s : ST W (l ++ [x]) w') (hx : isT t x = true) (hF : 0 ≤ F) : TkS W t c (k + 1) F (A + 1) (l ++ [x]) w' :=
  ⟨s, by simp [h.len], h.fs.stay hF, by simp [List.countP_append, hx, h.ct]⟩
theorem TkS.here {W w w' : World} {t c F : Int} {k A : Nat} {l : List Wt} {x : Wt} (h : TkS W t c k F A l w) (s : ST W (l ++ [x]) w') (hx : isT t x = true) (hc : (x.c == c) = true) (hF : F < 0) (h0 : 0 ≤ x.v) : TkS W t c (k + 1) x.v (A + 1) (l ++ [x]) w' :=
  ⟨s, by simp [h.len], h.fs.here hF (by unfold isTC; unfold isT at hx; rw [hc, hx]; rfl) h0, by simp [List.countP_append, hx, h.ct]⟩

set_option maxRecDepth 100000 in
set_option maxHeartbeats 4000000 in
theorem takes_in (n : Nat) (cs task kase : Int) (W : World) (hn : n ≤ 40) (hc1 : 1 ≤ cs) (hc4 : cs ≤ 4) : Calls Try.prog 5 #[.int .i64 n, .int .i64 cs, .int .i64 task, .int .i64 kase] W (BoolR true W) := by
  have b1 : (n : Int) ≤ 40 := by omega
  have b2 : 0 ≤ (n : Int) := by omega
  have b3 : (cs == 0) = false := by rw [beq_eq_false_iff_ne]; omega
  go_enter Try.func5, Try.ntmps5
  go_wp2_with fail
  refine (new_any W).mono ?_
  rintro e w1 q1
  obtain rfl := q1.1
  have S1 := Lib.hid (ST.start q1)
  clear q1
  go_wp2_with fail
  refine (round_any task 4 w1 (by omega) (by omega)).mono ?_
  rintro e w' ⟨rfl, rfl⟩
  generalize task % 4 = t at *
  go_wp2_with fail
  refine (round_any kase cs w1 (by omega) (by omega)).mono ?_
  rintro e w' ⟨rfl, rfl⟩
  generalize kase % cs = c at *
  have HS : Hid (TkS W t c 0 (-1) 0 [] w1) := ⟨S1.out, rfl, .inl ⟨rfl, rfl⟩, rfl⟩
  clear S1
  go_wp2_with fail
  go_loopw [12, 13, 14, 15] (fun f a s i wr => ∃ (k A D : Nat) (F : Int) (l : List Wt), k ≤ n ∧ D ≤ k ∧ -1 ≤ F ∧ F ≤ 40 ∧ f = .int .i64 F ∧ a = .int .i64 A ∧ s = .int .i64 D ∧ i = .int .i64 k ∧ Hid (TkS W t c k F A l wr)) (fun _ _ _ i _ => n - (intOf i).toNat)
  case atStart => exact ⟨0, 0, 0, -1, [], by omega, by omega, by omega, by omega, rfl, rfl, rfl, rfl, HS⟩
  case round =>
    clear HS
    obtain ⟨k, A, D, F, l, hk, hD, hF1, hF2, rfl, rfl, rfl, rfl, hS⟩ := hrel
    have hA := hS.out.le
    have hA2 : (A : Int) ≤ 40 := by omega
    have hD2 : (D : Int) ≤ 40 := by omega
    by_cases hlt : k < n
    · have k1 : (k : Int) < (n : Int) := by omega
      have k2 : (k : Int) ≤ 40 := by omega
      have k3 : 0 ≤ (k : Int) := by omega
      go_wp2_with fail
      generalize (k : Int) * 7 % 4 = m1 at *
      generalize (k : Int) * 3 % cs = m2 at *
      have ha : (wr.alloc (.cells #[.int .i64 m1, .int .i64 m2, .int .i64 k] 28)).heap[wr.heap.size]? = some (.cells #[.int .i64 m1, .int .i64 m2, .int .i64 k] 28 (0, 0)) := heap_alloc_new _ _
      have S1 := Lib.hid (hS.out.st.later (below_al wr (.cells #[.int .i64 m1, .int .i64 m2, .int .i64 k] 28)))
      generalize wr.heap.size = N1 at *
      generalize wr.alloc (.cells #[.int .i64 m1, .int .i64 m2, .int .i64 k] 28) = w1 at *
      refine (push_any ⟨m1, m2, k⟩ S1.out.ql (by rw [hS.out.len]; omega)).mono ?_
      rintro e w2 ⟨rfl, q2, f2⟩
      have hw := f2.at ha (not_isq ha (by decide))
      have c0 : w2.cell? ⟨N1, 0, none⟩ = some (.int .i64 m1) := by rw [cell_of_row w2 N1 0 _ _ _ hw]; rfl
      have c1 : w2.cell? ⟨N1, 1, none⟩ = some (.int .i64 m2) := by rw [cell_of_row w2 N1 1 _ _ _ hw]; rfl
      have S2 := Lib.hid (S1.out.go f2 q2)
      clear q2 f2 hw ha S1
      by_cases d1 : (m1 == t) = true
      · by_cases d2 : (m2 == c) = true
        · by_cases d3 : F < 0
          · have HT : Hid (TkS W t c (k + 1) k (A + 1) (l ++ [⟨m1, m2, k⟩]) w2) := hS.out.here S2.out d1 d2 d3 k3
            clear hS S2
            go_wp2_with fail
            go_roundw
            case rel => exact ⟨k + 1, A + 1, D + 1, k, _, by omega, by omega, by omega, by omega, rfl, by go_num, by go_num, by go_num, HT⟩
            case measure => simp [intOf]; omega
          · have HT : Hid (TkS W t c (k + 1) F (A + 1) (l ++ [⟨m1, m2, k⟩]) w2) := hS.out.more S2.out d1 (by omega)
            clear hS S2
            go_wp2_with fail
            go_roundw
            case rel => exact ⟨k + 1, A + 1, D + 1, F, _, by omega, by omega, by omega, by omega, rfl, by go_num, by go_num, by go_num, HT⟩
            case measure => simp [intOf]; omega
        · have d2' : (m2 == c) = false := by simpa using d2
          have HT : Hid (TkS W t c (k + 1) F (A + 1) (l ++ [⟨m1, m2, k⟩]) w2) := hS.out.other S2.out d1 d2'
          clear hS S2 d2
          go_wp2_with fail
          go_roundw
          case rel => exact ⟨k + 1, A + 1, D, F, _, by omega, by omega, by omega, by omega, rfl, by go_num, rfl, by go_num, HT⟩
          case measure => simp [intOf]; omega
      · have d1' : (m1 == t) = false := by simpa using d1
        have HT : Hid (TkS W t c (k + 1) F A (l ++ [⟨m1, m2, k⟩]) w2) := hS.out.skip S2.out d1'
        clear hS S2 d1
        go_wp2_with fail
        go_roundw
        case rel => exact ⟨k + 1, A, D, F, _, by omega, by omega, by omega, by omega, rfl, rfl, rfl, by go_num, HT⟩
        case measure => simp [intOf]; omega
    · obtain rfl : k = n := by omega
      go_wp2_with fail
      refine (take_any t c hS.out.st.ql (by rw [hS.out.len]; omega)).mono ?_
      rintro e w2 (⟨hno, rfl, q2, f2⟩ | ⟨l1, x, l2, rfl, hl1, hx, rfl, q2, f2⟩)
      · obtain rfl := hS.out.fs.no hno
        have S2 := Lib.hid (hS.out.st.go f2 q2)
        have HC3 := Lib.hid hS.out.ct
        have HL3 : Hid (l.length ≤ 1000000) := by have := hS.out.len; show _ ≤ _; omega
        clear q2 f2 hno hS
        unfold wG
        go_wp2_with fail
        have S3 := Lib.hid (S2.out.later (below_al _ (.cells #[.int .i64 0, .int .i64 0, .int .i64 0] 28)))
        generalize w2.alloc (.cells #[.int .i64 0, .int .i64 0, .int .i64 0] 28) = w3 at *
        clear S2
        refine (has_any t S3.out.ql).mono ?_
        rintro e w' ⟨rfl, rfl⟩
        rw [any_ct, HC3.out]
        go_wp2_with fail
        refine (remove_any t S3.out.ql (by have := HL3.out; omega)).mono ?_
        rintro e w4 ⟨rfl, q4, f4⟩
        have S4 := Lib.hid (S3.out.go f4 q4)
        clear q4 f4 S3
        rw [HC3.out]
        go_wp2_with fail
        refine (has_any t S4.out.ql).mono ?_
        rintro e w' ⟨rfl, rfl⟩
        rw [any_gone]
        go_wp2_with fail
        refine (awake_any w4).mono ?_
        rintro e w5 ⟨rfl, hb⟩
        have HB := Lib.hid (S4.out.later hb)
        clear hb S4
        go_wp2_with fail
        go_ret
        exact ⟨rfl, HB.out.bel⟩
      · obtain ⟨rfl, hF⟩ := hS.out.fs.yes hl1 hx
        have S2 := Lib.hid (hS.out.st.go f2 q2)
        obtain ⟨A, rfl⟩ : ∃ A', A = A' + 1 := ⟨A - 1, by
          have h1 := hS.out.ct
          have h2 : isT t x = true := by unfold isTC at hx; exact (Bool.and_eq_true_iff.1 hx).1
          simp [List.countP_append, h2] at h1
          omega⟩
        have HC3 : Hid ((l1 ++ l2).countP (isT t) = A) := by
          have h1 := hS.out.ct
          have h2 : isT t x = true := by unfold isTC at hx; exact (Bool.and_eq_true_iff.1 hx).1
          simp [List.countP_append, h2] at h1
          show _ = _
          rw [List.countP_append]; omega
        have HL3 : Hid ((l1 ++ l2).length ≤ 1000000) := by
          have h1 := hS.out.len
          simp at h1
          show _ ≤ _
          simp; omega
        have k5 : (A : Int) + 1 ≤ 40 := by omega
        obtain ⟨xt, xc, xv⟩ := x
        simp only at hF hF1 hF2
        clear q2 f2 hl1 hx hS
        unfold wG
        go_wp2_with fail
        have S3 := Lib.hid (S2.out.later (below_al _ (.cells #[.int .i64 xt, .int .i64 xc, .int .i64 xv] 28)))
        generalize w2.alloc (.cells #[.int .i64 xt, .int .i64 xc, .int .i64 xv] 28) = w3 at *
        clear S2
        refine (has_any t S3.out.ql).mono ?_
        rintro e w' ⟨rfl, rfl⟩
        rw [any_ct, HC3.out]
        go_wp2_with fail
        refine (remove_any t S3.out.ql (by have := HL3.out; omega)).mono ?_
        rintro e w4 ⟨rfl, q4, f4⟩
        have S4 := Lib.hid (S3.out.go f4 q4)
        clear q4 f4 S3
        rw [HC3.out]
        go_wp2_with fail
        refine (has_any t S4.out.ql).mono ?_
        rintro e w' ⟨rfl, rfl⟩
        rw [any_gone]
        go_wp2_with fail
        refine (awake_any w4).mono ?_
        rintro e w5 ⟨rfl, hb⟩
        have HB := Lib.hid (S4.out.later hb)
        clear hb S4
        go_wp2_with fail
        go_ret
        exact ⟨rfl, HB.out.bel⟩
theorem takes_out (n cs task kase : Int) (W : World) (h : n < 0 ∨ 40 < n ∨ cs < 1 ∨ 4 < cs) : Calls Try.prog 5 #[.int .i64 n, .int .i64 cs, .int .i64 task, .int .i64 kase] W (BoolR true W) := by
  by_cases d1 : n < 0
  · clear h
    go_enter Try.func5, Try.ntmps5
    go_wp2_with fail
    refine (awake_any W).mono ?_
    rintro e w' ⟨rfl, hb⟩
    have HB := Lib.hid hb
    clear hb
    go_wp2_with fail
    go_ret
    exact ⟨rfl, HB.out⟩
  by_cases d2 : 40 < n
  · clear h
    go_enter Try.func5, Try.ntmps5
    go_wp2_with fail
    refine (awake_any W).mono ?_
    rintro e w' ⟨rfl, hb⟩
    have HB := Lib.hid hb
    clear hb
    go_wp2_with fail
    go_ret
    exact ⟨rfl, HB.out⟩
  by_cases d3 : cs < 1
  · clear h
    go_enter Try.func5, Try.ntmps5
    go_wp2_with fail
    refine (awake_any W).mono ?_
    rintro e w' ⟨rfl, hb⟩
    have HB := Lib.hid hb
    clear hb
    go_wp2_with fail
    go_ret
    exact ⟨rfl, HB.out⟩
  · have d4 : 4 < cs := by omega
    clear h
    go_enter Try.func5, Try.ntmps5
    go_wp2_with fail
    refine (awake_any W).mono ?_
    rintro e w' ⟨rfl, hb⟩
    have HB := Lib.hid hb
    clear hb
    go_wp2_with fail
    go_ret
    exact ⟨rfl, HB.out⟩
theorem takes_walk (n cs task kase : Int) (W : World) : Calls Try.prog 5 #[.int .i64 n, .int .i64 cs, .int .i64 task, .int .i64 kase] W (BoolR true W) := by
  by_cases h : n < 0 ∨ 40 < n ∨ cs < 1 ∨ 4 < cs
  · exact takes_out n cs task kase W h
  · obtain ⟨m, rfl⟩ := Int.eq_ofNat_of_zero_le (show 0 ≤ n by omega)
    exact takes_in m cs task kase W (by omega) (by omega) (by omega)
end Go.Proofs.Ytdmdmaolbbjboaa
