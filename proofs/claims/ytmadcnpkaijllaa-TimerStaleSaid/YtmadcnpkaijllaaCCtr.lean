/- Send, Put, Drop, New, Timed, Signal, Len, Cap, Closed, Can, Remove. Conditions: each theorem's own premises. -/
import Derived.Test.YtmadcnpkaijllaaCGv
import Derived.Deep.RegionHeld3
import Derived.OwnWalk
namespace Go.Proofs.Ytmadcnpkaijllaa.Ch
open Go.RowKit
set_option linter.unusedVariables false
set_option maxRecDepth 100000

theorem beq_nat (k m : Nat) : ((k : Int) == (m : Int)) = decide (k = m) := by
  by_cases h : k = m
  · subst h; simp
  · rw [decide_eq_false h, beq_eq_false_iff_ne]; omega
section
variable {w : World} {c : Nat} {F : Nat → Prop} {s : CS}
theorem CH.draw (h : CH w F c s) (n : Nat) : CH (w.drewN n) F c s := h.keep fun _ _ => rfl
theorem CH.read (h : CH w F c s) : ∃ V, w.cell? ⟨c, 2, none⟩ = some (.pointer V) ∧ (∀ n, Calls Try.prog 43 #[.pointer V] (w.drewN n) fun e w' => e = .returned (.int .i64 s.l.length) ∧ w' = w.drewN n) ∧
    ∀ n, Calls Try.prog 44 #[.pointer V] (w.drewN n) fun e w' => e = .returned (.int .i64 s.sz) ∧ w' = w.drewN n := by
  obtain ⟨ro, ns, ms, hF, h⟩ := h
  refine ⟨vp ro, h.c2, ?_⟩
  have hx := h.rx
  obtain ⟨kd, cl, sz, l, ss, rs⟩ := s
  cases ro with
  | none =>
    obtain ⟨h1, h2⟩ := hx
    subst h1 h2
    exact ⟨fun n => (rlen_nil _).mono fun _ _ h => ⟨h.1, h.2.symm⟩, fun n => (rsize_nil _).mono fun _ _ h => ⟨h.1, h.2.symm⟩⟩
  | some m =>
    have k : ∀ n, RG (w.drewN n) m.1 m.2 sz l := fun n => RG.keep hx rfl rfl
    exact ⟨fun n => (rlen_any _ (k n)).mono fun _ _ h => ⟨h.1, h.2.symm⟩, fun n => (rsize_any _ (k n)).mono fun _ _ h => ⟨h.1, h.2.symm⟩⟩
def fr (s : CS) : Bool → Bool
  | true => decide (s.l.length < s.sz)
  | false => decide (0 < s.l.length)
theorem free_any (b : Bool) (h : CH w F c s) : Calls Try.prog 38 #[.pointer (some ⟨c, 0, none⟩), .bool b] w fun e w' => e = .returned (.bool (fr s b)) ∧ ∃ n, w' = w.drewN n := by
  obtain ⟨V, c2, hl, hs⟩ := h.read
  replace hl := Lib.hid hl
  replace hs := Lib.hid hs
  have c0 := h.c0
  clear h
  cases b
  · show Calls _ _ _ _ fun e w' => e = .returned (.bool (decide (0 < s.l.length))) ∧ _
    have hl0 := Lib.hid (hl.out 0)
    go_enter Try.func38, Try.ntmps38
    go_wp2_with fail
    refine hl0.out.mono ?_
    rintro e w' ⟨rfl, rfl⟩
    go_wp2_with fail
    go_ret
    exact ⟨rfl, 0, rfl⟩
  · show Calls _ _ _ _ fun e w' => e = .returned (.bool (decide (s.l.length < s.sz))) ∧ _
    go_enter Try.func38, Try.ntmps38
    go_wp2_with fail
    go_quiet (first | exact Calls.quiet_of_same (hl.out _) | exact Calls.quiet_of_same (hs.out _))
    go_wp2
    go_ret
    exact ⟨rfl, _, rfl⟩
theorem len_chan (h : CH w F c s) : Calls Try.prog 20 #[.pointer (some ⟨c, 0, none⟩)] w fun e w' => e = .returned (.int .i64 (if s.kd = 1 then 0 else s.l.length)) ∧ w = w' := by
  obtain ⟨V, c2, hl, hs⟩ := h.read
  have hl0 := Lib.hid (hl 0)
  have c0 := h.c0
  by_cases hk : s.kd = 1
  · rw [if_pos hk]
    rw [hk] at c0
    clear h hl hs hl0
    go_enter Try.func20, Try.ntmps20
    go_wp2
    go_ret
    exact ⟨rfl, rfl⟩
  · rw [if_neg hk]
    have b1 : ((s.kd : Int) == 1) = false := by rw [beq_eq_false_iff_ne]; omega
    clear h hl hs hk
    go_enter Try.func20, Try.ntmps20
    go_wp2_with fail
    refine hl0.out.mono ?_
    rintro e w' ⟨rfl, rfl⟩
    go_wp2
    go_ret
    exact ⟨rfl, rfl⟩
theorem cap_chan (h : CH w F c s) : Calls Try.prog 21 #[.pointer (some ⟨c, 0, none⟩)] w fun e w' => e = .returned (.int .i64 (if s.kd = 1 then 0 else s.sz)) ∧ w = w' := by
  obtain ⟨V, c2, hl, hs⟩ := h.read
  have hl0 := Lib.hid (hs 0)
  have c0 := h.c0
  by_cases hk : s.kd = 1
  · rw [if_pos hk]
    rw [hk] at c0
    clear h hl hs hl0
    go_enter Try.func21, Try.ntmps21
    go_wp2
    go_ret
    exact ⟨rfl, rfl⟩
  · rw [if_neg hk]
    have b1 : ((s.kd : Int) == 1) = false := by rw [beq_eq_false_iff_ne]; omega
    clear h hl hs hk
    go_enter Try.func21, Try.ntmps21
    go_wp2_with fail
    refine hl0.out.mono ?_
    rintro e w' ⟨rfl, rfl⟩
    go_wp2
    go_ret
    exact ⟨rfl, rfl⟩
/-- Can one go on? -/
def can (s : CS) (b : Bool) : Bool := if b = true ∧ s.kd ≠ 0 then false else (s.cl || fr s b || decide (0 < (s.q (!b)).length))
theorem can_any (b : Bool) (h : CH w F c s) : Calls Try.prog 18 #[.pointer (some ⟨c, 0, none⟩), .bool b] w fun e w' => e = .returned (.bool (can s b)) ∧ ∃ n, w' = w.drewN n := by
  have c0 := h.c0
  have c1 := h.c1
  have HC := Lib.hid h
  have hf := Lib.hid (free_any b h)
  clear h
  by_cases hk : b = true ∧ s.kd ≠ 0
  · have e : can s b = false := by unfold can; rw [if_pos hk]
    rw [e]
    obtain ⟨rfl, hk⟩ := hk
    have b1 : ((s.kd : Int) == 0) = false := by rw [beq_eq_false_iff_ne]; omega
    clear e hk
    go_enter Try.func18, Try.ntmps18
    go_wp2
    go_ret
    exact ⟨rfl, 0, rfl⟩
  · have e : can s b = (s.cl || fr s b || decide (0 < (s.q (!b)).length)) := by
      unfold can; rw [if_neg hk]
    rw [e]
    clear e
    cases hcl : s.cl with
    | true =>
      rw [hcl] at c1
      have hb : Hid (∀ d : Bool, (true || fr s b || d) = true) := fun d => rfl
      cases b with
      | true =>
        have b1 : ((s.kd : Int) == 0) = true := by
          rw [beq_iff_eq]
          by_cases h0 : s.kd = 0
          · rw [h0]; rfl
          · exact absurd ⟨rfl, h0⟩ hk
        clear hk
        go_enter Try.func18, Try.ntmps18
        go_wp2
        go_ret
        exact ⟨rfl, 0, rfl⟩
      | false =>
        clear hk
        go_enter Try.func18, Try.ntmps18
        go_wp2
        go_ret
        exact ⟨rfl, 0, rfl⟩
    | false =>
      rw [hcl] at c1
      cases b with
      | true =>
        have b1 : ((s.kd : Int) == 0) = true := by
          rw [beq_iff_eq]
          by_cases h0 : s.kd = 0
          · rw [h0]; rfl
          · exact absurd ⟨rfl, h0⟩ hk
        clear hk
        generalize fr s true = f at *
        cases f
        · go_enter Try.func18, Try.ntmps18
          go_wp2_with fail
          refine hf.out.mono ?_
          rintro e w' ⟨rfl, n, rfl⟩
          have HC2 := Lib.hid (HC.out.draw n)
          go_wp2_with fail
          refine (ch_line HC2.out false).mono ?_
          rintro e w' ⟨rfl, rfl⟩
          go_wp2_with fail
          refine (ch_qlen HC2.out false).mono ?_
          rintro e w' ⟨rfl, rfl⟩
          go_wp2
          go_ret
          exact ⟨rfl, n, rfl⟩
        · go_enter Try.func18, Try.ntmps18
          go_wp2_with fail
          refine hf.out.mono ?_
          rintro e w' ⟨rfl, n, rfl⟩
          go_wp2
          go_ret
          exact ⟨rfl, n, rfl⟩
      | false =>
        clear hk
        generalize fr s false = f at *
        cases f
        · go_enter Try.func18, Try.ntmps18
          go_wp2_with fail
          refine hf.out.mono ?_
          rintro e w' ⟨rfl, n, rfl⟩
          have HC2 := Lib.hid (HC.out.draw n)
          go_wp2_with fail
          refine (ch_line HC2.out true).mono ?_
          rintro e w' ⟨rfl, rfl⟩
          go_wp2_with fail
          refine (ch_qlen HC2.out true).mono ?_
          rintro e w' ⟨rfl, rfl⟩
          go_wp2
          go_ret
          exact ⟨rfl, n, rfl⟩
        · go_enter Try.func18, Try.ntmps18
          go_wp2_with fail
          refine hf.out.mono ?_
          rintro e w' ⟨rfl, n, rfl⟩
          go_wp2
          go_ret
          exact ⟨rfl, n, rfl⟩

/-! Send, Put, Drop. -/
def SnR (F : Nat → Prop) (c : Nat) (g : CS × List Wk × Bool) (w : World) (e : Ending) (w' : World) : Prop :=
  ∃ A cap, e = .returned (.tuple #[.bool g.2.2, .slice A g.2.1.length cap, .int .i64 0]) ∧ RdK w' A g.2.1.length g.2.1 ∧ Go F c g.1 w w'
theorem put_kind (v : Int) (h : CH w F c s) (hk : s.kd ≠ 1) : Calls Try.prog 33 #[.pointer (some ⟨c, 0, none⟩), .int .i64 v] w fun e w' => e = .returned (.tuple #[.slice none 0 0, .bool false]) ∧ w = w' := by
  have c0 := h.c0
  have b1 : ((s.kd : Int) == 1) = false := by rw [beq_eq_false_iff_ne]; omega
  clear h
  go_enter Try.func33, Try.ntmps33
  go_wp2
  go_ret2
  exact ⟨rfl, rfl⟩
theorem put_any (v : Int) (h : CH w F c s) (hk : s.kd = 1) (hn : s.rs.length ≤ 1000000) : Calls Try.prog 33 #[.pointer (some ⟨c, 0, none⟩), .int .i64 v] w (GvR F c (gv s v) w) := by
  have c0 := h.c0
  rw [hk] at c0
  have hg := Lib.hid (give_any v h hn)
  clear h
  generalize gv s v = g at *
  go_enter Try.func33, Try.ntmps33
  go_wp2_with fail
  refine hg.out.mono ?_
  rintro e w' ⟨A, cap, rfl, hK, hG⟩
  have HP : Hid (RdK w' A g.2.1.length g.2.1 ∧ Go F c g.1 w w') := ⟨hK, hG⟩
  clear hK hG hg
  go_wp2
  go_ret2
  exact ⟨A, cap, rfl, HP.out.1, HP.out.2⟩
theorem drop_kind (h : CH w F c s) (hk : s.kd ≠ 1) : Calls Try.prog 60 #[.pointer (some ⟨c, 0, none⟩)] w fun e w' => e = .returned (.bool false) ∧ w = w' := by
  have c0 := h.c0
  have b1 : ((s.kd : Int) == 1) = false := by rw [beq_eq_false_iff_ne]; omega
  clear h
  go_enter Try.func60, Try.ntmps60
  go_wp2
  go_ret
  exact ⟨rfl, rfl⟩
theorem drop_any (h : CH w F c s) (hk : s.kd = 1) : Calls Try.prog 60 #[.pointer (some ⟨c, 0, none⟩)] w fun e w' => e = .returned (.bool (decide (0 < s.l.length))) ∧ Go F c { s with l := [] } w w' := by
  have c0 := h.c0
  rw [hk] at c0
  obtain ⟨V, c2, _, _, hc, _⟩ := h.ring
  replace hc := Lib.hid hc
  clear h
  go_enter Try.func60, Try.ntmps60
  go_wp2_with fail
  refine hc.out.mono ?_
  rintro e w' ⟨rfl, g⟩
  have G := Lib.hid g
  clear g hc
  go_wp2
  go_ret
  exact ⟨rfl, G.out⟩

/-! New, Timed, Signal. -/
/-- A new channel. -/
structure Mk (c : Nat) (s : CS) (w w' : World) : Prop where
  ch : ∃ F, CH w' F c s ∧ ∀ b, F b → w.heap.size ≤ b
  bel : Below w.heap.size w w'
  at_ : w.heap.size ≤ c ∧ c < w'.heap.size
theorem mk_ring (w w1 : World) (n kd : Nat) (hk : kd ≤ 2) (hn : n ≤ 64) (e : Ending) (h : rNewR n w e w1) : Mk w1.heap.size ⟨kd, false, n, [], [], []⟩ w (w1.alloc (.cells (cB kd false (vp (some (w.heap.size + 1, w.heap.size))) [] []) 89)) := by
  obtain ⟨_, h1, h2, h3⟩ := h
  have hb := heap_alloc_new w1 (.cells (cB kd false (vp (some (w.heap.size + 1, w.heap.size))) [] []) 89)
  refine ⟨⟨_, ⟨some (w.heap.size + 1, w.heap.size), [], [], fun k => Iff.rfl, ⟨hb, trivial, trivial, List.nodup_nil, h1.later (below_al _ _), rfl, rfl, hk, hn, fun b x hx => ?_⟩⟩, fun b hb => ?_⟩, h2.trans ((below_al w1 _).mono h2.size), by omega, by simp⟩
  · cases b <;> simp [CS.q] at hx
  · rcases hb with rfl | hb | ⟨m, hm, _⟩ | ⟨m, hm, _⟩
    · omega
    · rcases hb with rfl | rfl <;> simp
    · simp at hm
    · simp at hm
theorem timed_any (w : World) : Calls Try.prog 63 #[] w fun e w' => ∃ c, e = .returned (.pointer (some ⟨c, 0, none⟩)) ∧ Mk c ⟨1, false, 1, [], [], []⟩ w w' := by
  have hr := Lib.hid (rnew_yes 1 w (by omega))
  go_enter Try.func63, Try.ntmps63
  go_wp2_with fail
  refine hr.out.mono ?_
  rintro e w1 h1
  have HM := Lib.hid (mk_ring w w1 1 1 (by omega) (by omega) e h1)
  obtain rfl := h1.1
  clear h1 hr
  go_wp2
  go_ret
  exact ⟨w1.heap.size, rfl, HM.out⟩
end
end Go.Proofs.Ytmadcnpkaijllaa.Ch
