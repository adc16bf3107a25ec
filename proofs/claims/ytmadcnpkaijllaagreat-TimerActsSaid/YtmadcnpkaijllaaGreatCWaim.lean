/- Wait puts a task behind those who wait. Conditions: each theorem's own premises.
The document's own channel in memory: a block of seven cells, three slices. No condition.
A channel, and the document's own beside it. Conditions: each theorem's own premises. -/
import Derived.Test.YtmadcnpkaijllaaGreatCRcvm
namespace Go.Proofs.YtmadcnpkaijllaaGreat.Ch
open Go.RowKit
set_option linter.unusedVariables false
set_option maxRecDepth 100000

/-- Who waits, and what it is told. -/
def wt (s : CS) (x : Wt) (b : Bool) : CS × Int :=
  if b = true ∧ s.kd ≠ 0 then (s, 7) else if s.cl = true then (s, 5) else if (fr s b || meet x.t (s.q (!b))) = true then (s, 1) else (s.sq b (s.q b ++ [x]), 0)
def WaR (F : Nat → Prop) (c : Nat) (g : CS × Int) (w : World) (e : Ending) (w' : World) : Prop := e = .returned (.int .i64 g.2) ∧ Go F c g.1 w w'
section
variable {w : World} {c : Nat} {F : Nat → Prop} {s : CS}
theorem wait_no (x : Wt) (b : Bool) (h : CH w F c s) (hn : (s.q (!b)).length ≤ 1000000) (hk : ¬ (b = true ∧ s.kd ≠ 0)) (hc : s.cl = false) (hm : (fr s b || meet x.t (s.q (!b))) = true) : Calls Tryz.prog 31 #[.pointer (some ⟨c, 0, none⟩), wG x, .bool b] w (WaR F c (s, 1) w) := by
  have c0 := (h.later (below_al w (.cells #[.int .i64 x.t, .int .i64 x.c, .int .i64 x.v] 87))).c0
  have c1 := (h.later (below_al w (.cells #[.int .i64 x.t, .int .i64 x.c, .int .i64 x.v] 87))).c1
  rw [hc] at c1
  have HC := Lib.hid (h.later (below_al w (.cells #[.int .i64 x.t, .int .i64 x.c, .int .i64 x.v] 87)))
  have HC0 := Lib.hid h
  have HN := Lib.hid hn
  have HK : Hid (∀ n, (w.alloc (.cells #[.int .i64 x.t, .int .i64 x.c, .int .i64 x.v] 87)).drewN n = (w.alloc (.cells #[.int .i64 x.t, .int .i64 x.c, .int .i64 x.v] 87)).drewN n) := fun _ => rfl
  clear h hn hc
  unfold wG
  cases b with
  | true =>
    have b1 : ((s.kd : Int) == 0) = true := by
      rw [beq_iff_eq]
      by_cases h0 : s.kd = 0
      · rw [h0]; rfl
      · exact absurd ⟨rfl, h0⟩ hk
    clear hk
    cases hf : fr s true with
    | true =>
      clear hm
      go_enter Tryz.func31, Tryz.ntmps31
      go_wp2_with fail
      refine (free_any true HC.out).mono ?_
      rintro e w' ⟨rfl, n, rfl⟩
      rw [hf]
      go_wp2_with fail
      go_ret
      exact ⟨rfl, (((Go.here HC0.out).later (below_al _ _)).draws rfl rfl rfl rfl)⟩
    | false =>
      rw [hf, Bool.false_or] at hm
      go_enter Tryz.func31, Tryz.ntmps31
      go_wp2_with fail
      refine (free_any true HC.out).mono ?_
      rintro e w' ⟨rfl, n, rfl⟩
      rw [hf]
      go_wp2_with fail
      refine (meets_any x.t true (HC.out.draw n) HN.out).mono ?_
      rintro e w2 ⟨rfl, hb⟩
      rw [hm]
      have HB := Lib.hid hb
      clear hb
      go_wp2_with fail
      go_ret
      exact ⟨rfl, (Go.here HC0.out).later ((below_drewN (below_al w (.cells #[.int .i64 x.t, .int .i64 x.c, .int .i64 x.v] 87)) n).trans (HB.out.mono (by simp)))⟩
  | false =>
    clear hk
    cases hf : fr s false with
    | true =>
      clear hm
      go_enter Tryz.func31, Tryz.ntmps31
      go_wp2_with fail
      refine (free_any false HC.out).mono ?_
      rintro e w' ⟨rfl, n, rfl⟩
      rw [hf]
      go_wp2_with fail
      go_ret
      exact ⟨rfl, (((Go.here HC0.out).later (below_al _ _)).draws rfl rfl rfl rfl)⟩
    | false =>
      rw [hf, Bool.false_or] at hm
      go_enter Tryz.func31, Tryz.ntmps31
      go_wp2_with fail
      refine (free_any false HC.out).mono ?_
      rintro e w' ⟨rfl, n, rfl⟩
      rw [hf]
      go_wp2_with fail
      refine (meets_any x.t false (HC.out.draw n) HN.out).mono ?_
      rintro e w2 ⟨rfl, hb⟩
      rw [hm]
      have HB := Lib.hid hb
      clear hb
      go_wp2_with fail
      go_ret
      exact ⟨rfl, (Go.here HC0.out).later ((below_drewN (below_al w (.cells #[.int .i64 x.t, .int .i64 x.c, .int .i64 x.v] 87)) n).trans (HB.out.mono (by simp)))⟩
theorem wait_kind (x : Wt) (h : CH w F c s) (hk : s.kd ≠ 0) : Calls Tryz.prog 31 #[.pointer (some ⟨c, 0, none⟩), wG x, .bool true] w (WaR F c (s, 7) w) := by
  have c0 := (h.later (below_al w (.cells #[.int .i64 x.t, .int .i64 x.c, .int .i64 x.v] 87))).c0
  have b1 : ((s.kd : Int) == 0) = false := by rw [beq_eq_false_iff_ne]; omega
  have HC0 := Lib.hid h
  clear h hk
  unfold wG
  go_enter Tryz.func31, Tryz.ntmps31
  go_wp2_with fail
  go_ret
  exact ⟨rfl, (Go.here HC0.out).later (below_al _ _)⟩
theorem wait_closed (x : Wt) (b : Bool) (h : CH w F c s) (hk : ¬ (b = true ∧ s.kd ≠ 0)) (hc : s.cl = true) : Calls Tryz.prog 31 #[.pointer (some ⟨c, 0, none⟩), wG x, .bool b] w (WaR F c (s, 5) w) := by
  have c0 := (h.later (below_al w (.cells #[.int .i64 x.t, .int .i64 x.c, .int .i64 x.v] 87))).c0
  have c1 := (h.later (below_al w (.cells #[.int .i64 x.t, .int .i64 x.c, .int .i64 x.v] 87))).c1
  rw [hc] at c1
  have HC0 := Lib.hid h
  clear h hc
  unfold wG
  cases b with
  | true =>
    have b1 : ((s.kd : Int) == 0) = true := by
      rw [beq_iff_eq]
      by_cases h0 : s.kd = 0
      · rw [h0]; rfl
      · exact absurd ⟨rfl, h0⟩ hk
    clear hk
    go_enter Tryz.func31, Tryz.ntmps31
    go_wp2_with fail
    go_ret
    exact ⟨rfl, (Go.here HC0.out).later (below_al _ _)⟩
  | false =>
    clear hk
    go_enter Tryz.func31, Tryz.ntmps31
    go_wp2_with fail
    go_ret
    exact ⟨rfl, (Go.here HC0.out).later (below_al _ _)⟩
set_option maxHeartbeats 2000000 in
theorem wait_yes (x : Wt) (b : Bool) (hx : Wf x.t) (h : CH w F c s) (hn : ∀ b, (s.q b).length ≤ 1000000) (hk : ¬ (b = true ∧ s.kd ≠ 0)) (hc : s.cl = false) (hf : fr s b = false) (hm : meet x.t (s.q (!b)) = false) : Calls Tryz.prog 31 #[.pointer (some ⟨c, 0, none⟩), wG x, .bool b] w (WaR F c (s.sq b (s.q b ++ [x]), 0) w) := by
  have c0 := (h.later (below_al w (.cells #[.int .i64 x.t, .int .i64 x.c, .int .i64 x.v] 87))).c0
  have c1 := (h.later (below_al w (.cells #[.int .i64 x.t, .int .i64 x.c, .int .i64 x.v] 87))).c1
  rw [hc] at c1
  have HC := Lib.hid (h.later (below_al w (.cells #[.int .i64 x.t, .int .i64 x.c, .int .i64 x.v] 87)))
  have HK : Hid ((w.alloc (.cells #[.int .i64 x.t, .int .i64 x.c, .int .i64 x.v] 87)).heap[w.heap.size]? = some (.cells #[.int .i64 x.t, .int .i64 x.c, .int .i64 x.v] 87 (0, 0))) := heap_alloc_new _ _
  have HN := Lib.hid hn
  clear h hn hc
  unfold wG
  cases b with
  | true =>
    have b1 : ((s.kd : Int) == 0) = true := by
      rw [beq_iff_eq]
      by_cases h0 : s.kd = 0
      · rw [h0]; rfl
      · exact absurd ⟨rfl, h0⟩ hk
    clear hk
    go_enter Tryz.func31, Tryz.ntmps31
    go_wp2_with fail
    refine (free_any true HC.out).mono ?_
    rintro e w' ⟨rfl, n, rfl⟩
    rw [hf]
    go_wp2_with fail
    refine (meets_any x.t true (HC.out.draw n) (HN.out false)).mono ?_
    rintro e w2 ⟨rfl, hb⟩
    rw [hm]
    have HC2 := Lib.hid ((HC.out.draw n).later hb)
    have HB : Hid (Below w.heap.size w w2) := (below_drewN (below_al w (.cells #[.int .i64 x.t, .int .i64 x.c, .int .i64 x.v] 87)) n).trans (hb.mono (by simp))
    have a := (hb.block w.heap.size (by simp)).trans HK.out
    have a0 := cell_of_row w2 w.heap.size 0 _ _ _ a
    have a1 := cell_of_row w2 w.heap.size 1 _ _ _ a
    have a2 := cell_of_row w2 w.heap.size 2 _ _ _ a
    simp only [List.getElem?_toArray, List.getElem?_cons_succ, List.getElem?_cons_zero] at a0 a1 a2
    have HL : Hid (∀ w3 : World, w3.heap = w2.heap → Calls Tryz.prog 51 #[.pointer (some ⟨c, 0, none⟩), .bool true] w3 fun e w' => e = .returned (.pointer (some ⟨c, 3, none⟩)) ∧ w3 = w') := fun w3 e => ch_line (HC2.out.keep fun _ _ => by rw [e]) true
    have HP : Hid (∀ w3 : World, w3.heap = w2.heap → w3.os = w2.os → w3.tape = w2.tape → w3.output = w2.output → Calls Tryz.prog 69 #[.pointer (some ⟨c, 3, none⟩), wG x] w3 fun e w' => (∃ k, e = .returned (.int .i64 k)) ∧ Go F c { s with ss := s.ss ++ [x] } w w') := by
      intro w3 e1 e2 e3 e4
      refine (ch_push x (HC2.out.keep (w' := w3) fun _ _ => by rw [e1]) true hx (HN.out true)).mono ?_
      rintro e w4 ⟨h1, g⟩
      exact ⟨h1, Go.from HB.out (Go.comp ((Tn.refl F w2).draws e1 e2 e3 e4) (fun b hb => .inl hb) g)⟩
    clear hb a hf hm HC HC2 HK HB b1 c0 c1
    unfold wG at HP
    go_wp2_with fail
    go_region_with (first
      | (go_at_call 51; go_loud (refine (HL.out _ (by rfl)).mono ?_; rintro e w3 ⟨rfl, rfl⟩))
      | (go_at_call 69; go_loud (refine (HP.out _ (by rfl) (by rfl) (by rfl) (by rfl)).mono ?_; rintro e w3 ⟨⟨k, rfl⟩, g⟩; have G := Lib.hid g; clear g)))
    all_goals
      go_wp2_with fail
      go_ret
      exact ⟨rfl, G.out.draws rfl rfl rfl rfl⟩
  | false =>
    clear hk
    go_enter Tryz.func31, Tryz.ntmps31
    go_wp2_with fail
    refine (free_any false HC.out).mono ?_
    rintro e w' ⟨rfl, n, rfl⟩
    rw [hf]
    go_wp2_with fail
    refine (meets_any x.t false (HC.out.draw n) (HN.out true)).mono ?_
    rintro e w2 ⟨rfl, hb⟩
    rw [hm]
    have HC2 := Lib.hid ((HC.out.draw n).later hb)
    have HB : Hid (Below w.heap.size w w2) := (below_drewN (below_al w (.cells #[.int .i64 x.t, .int .i64 x.c, .int .i64 x.v] 87)) n).trans (hb.mono (by simp))
    have a := (hb.block w.heap.size (by simp)).trans HK.out
    have a0 := cell_of_row w2 w.heap.size 0 _ _ _ a
    have a1 := cell_of_row w2 w.heap.size 1 _ _ _ a
    have a2 := cell_of_row w2 w.heap.size 2 _ _ _ a
    simp only [List.getElem?_toArray, List.getElem?_cons_succ, List.getElem?_cons_zero] at a0 a1 a2
    have HL : Hid (∀ w3 : World, w3.heap = w2.heap → Calls Tryz.prog 51 #[.pointer (some ⟨c, 0, none⟩), .bool false] w3 fun e w' => e = .returned (.pointer (some ⟨c, 6, none⟩)) ∧ w3 = w') := fun w3 e => ch_line (HC2.out.keep fun _ _ => by rw [e]) false
    have HP : Hid (∀ w3 : World, w3.heap = w2.heap → w3.os = w2.os → w3.tape = w2.tape → w3.output = w2.output → Calls Tryz.prog 69 #[.pointer (some ⟨c, 6, none⟩), wG x] w3 fun e w' => (∃ k, e = .returned (.int .i64 k)) ∧ Go F c { s with rs := s.rs ++ [x] } w w') := by
      intro w3 e1 e2 e3 e4
      refine (ch_push x (HC2.out.keep (w' := w3) fun _ _ => by rw [e1]) false hx (HN.out false)).mono ?_
      rintro e w4 ⟨h1, g⟩
      exact ⟨h1, Go.from HB.out (Go.comp ((Tn.refl F w2).draws e1 e2 e3 e4) (fun b hb => .inl hb) g)⟩
    clear hb a hf hm HC HC2 HK HB c0 c1
    unfold wG at HP
    go_wp2_with fail
    go_region_with (first
      | (go_at_call 51; go_loud (refine (HL.out _ (by rfl)).mono ?_; rintro e w3 ⟨rfl, rfl⟩))
      | (go_at_call 69; go_loud (refine (HP.out _ (by rfl) (by rfl) (by rfl) (by rfl)).mono ?_; rintro e w3 ⟨⟨k, rfl⟩, g⟩; have G := Lib.hid g; clear g)))
    all_goals
      go_wp2_with fail
      go_ret
      exact ⟨rfl, G.out.draws rfl rfl rfl rfl⟩
theorem wait_any (x : Wt) (b : Bool) (hx : Wf x.t) (h : CH w F c s) (hn : ∀ b, (s.q b).length ≤ 1000000) : Calls Tryz.prog 31 #[.pointer (some ⟨c, 0, none⟩), wG x, .bool b] w (WaR F c (wt s x b) w) := by
  unfold wt
  split
  · rename_i hk
    obtain ⟨rfl, hk⟩ := hk
    exact wait_kind x h hk
  · rename_i hk
    split
    · rename_i hc
      exact wait_closed x b h hk hc
    · rename_i hc
      have hc' : s.cl = false := by simpa using hc
      split
      · rename_i hm
        exact wait_no x b h (hn _) hk hc' hm
      · rename_i hm
        simp only [Bool.or_eq_true, not_or, Bool.not_eq_true] at hm
        exact wait_yes x b hx h hn hk hc' hm.1 hm.2
end
end Go.Proofs.YtmadcnpkaijllaaGreat.Ch
namespace Go.Proofs.YtmadcnpkaijllaaGreat.Ch
open Go.RowKit
set_option linter.unusedVariables false
set_option maxRecDepth 100000

/-- A slice reads as the row xs, in a block that is allowed. -/
def Ro (w : World) (ok : Nat → Prop) (a : Option Addr) (n c s : Nat) (xs : List Value) : Prop :=
  n ≤ c ∧ c ≤ 9223372036854775807 ∧ xs.length = n * s ∧ (0 < n → ∃ b off, a = some ⟨b, off, none⟩ ∧ b < w.heap.size ∧ ok b ∧ (∃ cs ty, w.heap[b]? = some (.cells cs ty (0, 0)) ∧ (ty = 3 ∨ ty = 87)) ∧ ∀ j u, xs[j]? = some u → w.cell? ⟨b, off + j, none⟩ = some u)
section
variable {w w' : World} {ok ok' : Nat → Prop} {a : Option Addr} {n c s : Nat} {xs : List Value}
theorem Ro.keep (h : Ro w ok a n c s xs) (hs : w.heap.size ≤ w'.heap.size) (k : ∀ b, b < w.heap.size → ok b → w'.heap[b]? = w.heap[b]?) : Ro w' ok a n c s xs :=
  ⟨h.1, h.2.1, h.2.2.1, fun h0 => by
    obtain ⟨b, off, e, hl, ho, hc⟩ := h.2.2.2 h0
    exact ⟨b, off, e, by omega, ho, (by obtain ⟨⟨cs, ty, t1, t2⟩, _⟩ := hc; exact ⟨cs, ty, (k b hl ho).trans t1, t2⟩), fun j u hu => (cell_blk (k b hl ho) _).trans (hc.2 j u hu)⟩⟩
theorem Ro.mono (h : Ro w ok a n c s xs) (k : ∀ b, b < w.heap.size → ok b → ok' b) : Ro w ok' a n c s xs :=
  ⟨h.1, h.2.1, h.2.2.1, fun h0 => by
    obtain ⟨b, off, e, hl, ho, hc⟩ := h.2.2.2 h0
    exact ⟨b, off, e, hl, k b hl ho, hc⟩⟩
theorem Ro.later (h : Ro w ok a n c s xs) (hb : Below w.heap.size w w') : Ro w' ok a n c s xs := h.keep hb.size fun b hl _ => hb.block b hl
theorem Ro.rd (h : Ro w ok a n c s xs) : Rd w w.heap.size a n s xs :=
  ⟨h.2.2.1, fun h0 => by
    obtain ⟨b, off, e, hl, _, hc⟩ := h.2.2.2 h0
    exact ⟨b, off, e, hl, hc.2⟩⟩
theorem Ro.nil (w : World) (ok : Nat → Prop) (a : Option Addr) (s c : Nat) (hc : c ≤ 9223372036854775807) : Ro w ok a 0 c s [] := ⟨by omega, hc, by simp, fun h => absurd h (by omega)⟩
theorem own_tag0 {base e : Nat} {v : Value} (h : w.ownsRow base e s v n xs) {b : Nat} (hb : v.ownBlock = some b) : ∃ cs, w.heap[b]? = some (.cells cs e (0, 0)) := by
  rcases h.2 with ⟨rfl, rfl⟩ | ⟨g, cap, cur, rfl, hg, hc, _⟩
  · cases hb
  · cases hb; exact ⟨cur, hc⟩
theorem Ro.of_own {base e : Nat} (h : w.ownsRow base e s (.slice a n c) n xs) (k : ∀ b, base ≤ b → ok b) (he : e = 3 ∨ e = 87 := by decide) : Ro w ok a n c s xs := by
  obtain ⟨a', c', e1, h1, h2⟩ := own_cap h
  cases e1
  refine ⟨h1, h2, h.1, fun hn => ?_⟩
  obtain ⟨g, cap, hv, hb, hlt⟩ := h.form hn
  cases hv
  obtain ⟨cs, ht⟩ := own_tag0 h (b := g) rfl
  exact ⟨g, 0, rfl, hlt, k g hb, ⟨cs, e, ht, he⟩, fun j u hu => by rw [Nat.zero_add, h.cellAt j (by rw [← h.1]; exact (List.getElem?_eq_some_iff.1 hu).1)]; exact hu⟩
end
theorem iV_len (l : List Int) : (iV l).length = l.length := by simp [iV]
theorem iV_one (l : List Int) : ∀ u ∈ iV l, u.oneCell' = true := by
  intro u hu
  obtain ⟨x, _, rfl⟩ := List.mem_map.1 hu
  rfl
theorem iV_app (a b : List Int) : iV (a ++ b) = iV a ++ iV b := by simp [iV]

/-- The block's cells. -/
def mB (s : CS) (vb vs vr : Value) : Array Value := #[.int .i64 s.sz, .bool (s.kd == 1), .bool (s.kd == 2), .bool s.cl, vb, vs, vr]
structure MX (w : World) (ok : Nat → Prop) (m : Nat) (s : CS) (b q r : Option Addr × Nat) : Prop where
  hb : w.heap[m]? = some (.cells (mB s (.slice b.1 s.l.length b.2) (.slice q.1 s.ss.length q.2) (.slice r.1 s.rs.length r.2)) 134 (0, 0))
  rb : Ro w ok b.1 s.l.length b.2 1 (iV s.l)
  rq : Ro w ok q.1 s.ss.length q.2 3 (flW s.ss)
  rr : Ro w ok r.1 s.rs.length r.2 3 (flW s.rs)
  no : ¬ ok m
def MD (w : World) (ok : Nat → Prop) (m : Nat) (s : CS) : Prop := ∃ b q r, MX w ok m s b q r
section
variable {w w' : World} {ok ok' : Nat → Prop} {m : Nat} {s : CS} {b q r : Option Addr × Nat}
theorem MX.c0 (h : MX w ok m s b q r) : w.cell? ⟨m, 0, none⟩ = some (.int .i64 s.sz) := by rw [cell_of_row w m 0 _ _ _ h.hb]; rfl
theorem MX.c1 (h : MX w ok m s b q r) : w.cell? ⟨m, 1, none⟩ = some (.bool (s.kd == 1)) := by rw [cell_of_row w m 1 _ _ _ h.hb]; rfl
theorem MX.c2 (h : MX w ok m s b q r) : w.cell? ⟨m, 2, none⟩ = some (.bool (s.kd == 2)) := by rw [cell_of_row w m 2 _ _ _ h.hb]; rfl
theorem MX.c3 (h : MX w ok m s b q r) : w.cell? ⟨m, 3, none⟩ = some (.bool s.cl) := by rw [cell_of_row w m 3 _ _ _ h.hb]; rfl
theorem MX.c4 (h : MX w ok m s b q r) : w.cell? ⟨m, 4, none⟩ = some (.slice b.1 s.l.length b.2) := by rw [cell_of_row w m 4 _ _ _ h.hb]; rfl
theorem MX.c5 (h : MX w ok m s b q r) : w.cell? ⟨m, 5, none⟩ = some (.slice q.1 s.ss.length q.2) := by rw [cell_of_row w m 5 _ _ _ h.hb]; rfl
theorem MX.c6 (h : MX w ok m s b q r) : w.cell? ⟨m, 6, none⟩ = some (.slice r.1 s.rs.length r.2) := by rw [cell_of_row w m 6 _ _ _ h.hb]; rfl
theorem MX.fz (h : MX w ok m s b q r) (i : Nat) : w.frozen? ⟨m, i, none⟩ = false := frozen_of_row w m i _ _ h.hb
theorem MX.lt (h : MX w ok m s b q r) : m < w.heap.size := lt_of_blk h.hb
theorem MX.later (h : MX w ok m s b q r) (hb : Below w.heap.size w w') : MX w' ok m s b q r := ⟨(hb.block m h.lt).trans h.hb, h.rb.later hb, h.rq.later hb, h.rr.later hb, h.no⟩
theorem MX.mono (h : MX w ok m s b q r) (k : ∀ b, b < w.heap.size → ok b → ok' b) (hn : ¬ ok' m) : MX w ok' m s b q r := ⟨h.hb, h.rb.mono k, h.rq.mono k, h.rr.mono k, hn⟩
theorem MX.keep (h : MX w ok m s b q r) (hs : w.heap.size ≤ w'.heap.size) (h1 : w'.heap[m]? = w.heap[m]?) (k : ∀ b, b < w.heap.size → ok b → w'.heap[b]? = w.heap[b]?) : MX w' ok m s b q r := ⟨h1.trans h.hb, h.rb.keep hs k, h.rq.keep hs k, h.rr.keep hs k, h.no⟩
theorem Ro.set {w : World} {ok : Nat → Prop} {a : Option Addr} {n c k i m : Nat} {xs : List Value} (h : Ro w ok a n c k xs) (hm : ¬ ok m) (v : Value) : Ro (w.setCell ⟨m, i, none⟩ v) ok a n c k xs :=
  h.keep (by rw [size_set]; exact Nat.le_refl _) fun b _ ho => Below.heap_setCell _ _ _ _ (by rintro rfl; exact hm ho)
theorem MX.setB {l : List Int} {b' : Option Addr × Nat} (h : MX w ok m s b q r) (hr : Ro w ok b'.1 l.length b'.2 1 (iV l)) : MX (w.setCell ⟨m, 4, none⟩ (.slice b'.1 l.length b'.2)) ok m { s with l := l } b' q r :=
  ⟨by rw [heap_setCell_same w m 4 _ _ _ h.hb]; rfl, hr.set h.no _, h.rq.set h.no _, h.rr.set h.no _, h.no⟩
theorem MX.setQ {l : List Wt} {q' : Option Addr × Nat} (h : MX w ok m s b q r) (hr : Ro w ok q'.1 l.length q'.2 3 (flW l)) : MX (w.setCell ⟨m, 5, none⟩ (.slice q'.1 l.length q'.2)) ok m { s with ss := l } b q' r :=
  ⟨by rw [heap_setCell_same w m 5 _ _ _ h.hb]; rfl, h.rb.set h.no _, hr.set h.no _, h.rr.set h.no _, h.no⟩
theorem MX.setR {l : List Wt} {r' : Option Addr × Nat} (h : MX w ok m s b q r) (hr : Ro w ok r'.1 l.length r'.2 3 (flW l)) : MX (w.setCell ⟨m, 6, none⟩ (.slice r'.1 l.length r'.2)) ok m { s with rs := l } b q r' :=
  ⟨by rw [heap_setCell_same w m 6 _ _ _ h.hb]; rfl, h.rb.set h.no _, h.rq.set h.no _, hr.set h.no _, h.no⟩
theorem MX.setC (h : MX w ok m s b q r) : MX (w.setCell ⟨m, 3, none⟩ (.bool true)) ok m { s with cl := true } b q r :=
  ⟨by rw [heap_setCell_same w m 3 _ _ _ h.hb]; rfl, h.rb.set h.no _, h.rq.set h.no _, h.rr.set h.no _, h.no⟩
theorem MD.later (h : MD w ok m s) (hb : Below w.heap.size w w') : MD w' ok m s := by obtain ⟨b, q, r, h⟩ := h; exact ⟨b, q, r, h.later hb⟩
theorem MD.lt (h : MD w ok m s) : m < w.heap.size := by obtain ⟨b, q, r, h⟩ := h; exact h.lt
theorem MD.mono (h : MD w ok m s) (k : ∀ b, b < w.heap.size → ok b → ok' b) (hn : ¬ ok' m) : MD w ok' m s := by obtain ⟨b, q, r, h⟩ := h; exact ⟨b, q, r, h.mono k hn⟩
theorem MD.keep (h : MD w ok m s) (hs : w.heap.size ≤ w'.heap.size) (h1 : w'.heap[m]? = w.heap[m]?) (k : ∀ b, b < w.heap.size → ok b → w'.heap[b]? = w.heap[b]?) : MD w' ok m s := by obtain ⟨b, q, r, h⟩ := h; exact ⟨b, q, r, h.keep hs h1 k⟩

/-- What is allowed behind a call: what was, and what is new. -/
def okN (ok : Nat → Prop) (N : Nat) (b : Nat) : Prop := ok b ∨ N ≤ b
/-- It has come to be s; nothing has turned but its block, and new ones. -/
def Mo (ok : Nat → Prop) (m : Nat) (s : CS) (w w' : World) : Prop := MD w' (okN ok w.heap.size) m s ∧ Tn (fun k => k = m) w w'
theorem Mo.same (h : MD w ok m s) : Mo ok m s w w := ⟨h.mono (fun b _ ho => .inl ho) (fun hn => by
  obtain ⟨b, q, r, hx⟩ := h
  rcases hn with hn | hn
  · exact hx.no hn
  · have := hx.lt; omega), Tn.refl _ _⟩
theorem Mo.later {w'' : World} (h : Mo ok m s w w') (hb : Below w'.heap.size w' w'') : Mo ok m s w w'' := ⟨h.1.later hb, h.2.later hb⟩
theorem Mo.draws {w'' : World} (h : Mo ok m s w w') (hh : w''.heap = w'.heap) (h1 : w''.os = w'.os) (h2 : w''.tape = w'.tape) (h3 : w''.output = w'.output) : Mo ok m s w w'' :=
  h.later ⟨h1, h2, h3, by rw [hh]; exact Nat.le_refl _, fun k _ => by rw [hh]⟩
/-- From an earlier world, between which only new blocks came. -/
theorem Mo.early {w0 : World} (hb : Below w0.heap.size w0 w) (hm : m < w0.heap.size) (hn : ¬ ok m) (h : Mo (okN ok w0.heap.size) m s w w') : Mo ok m s w0 w' :=
  ⟨h.1.mono (fun b _ ho => by
    rcases ho with (ho | ho) | ho
    · exact .inl ho
    · exact .inr ho
    · exact .inr (Nat.le_trans hb.size ho)) (fun hx => by rcases hx with hx | hx; exact hn hx; omega), (Tn.of_below (F := fun k => k = m) hb).trans h.2⟩
end
end Go.Proofs.YtmadcnpkaijllaaGreat.Ch
namespace Go.Proofs.YtmadcnpkaijllaaGreat.Ch
open Go.RowKit
set_option linter.unusedVariables false
set_option maxRecDepth 100000

/-- Block c is a channel that is s, block m the document's own that is t; they share nothing. -/
structure JS (W : World) (c m : Nat) (s t : CS) (w : World) : Prop where
  bel : Below W.heap.size W w
  ch : ∃ F, CH w F c s ∧ (∀ b, F b → W.heap.size ≤ b) ∧ W.heap.size ≤ m ∧ MD w (fun b => W.heap.size ≤ b ∧ ¬ F b ∧ b ≠ m) m t
/-- Nothing has turned but channels' blocks, block m, and new ones. -/
def Km (m : Nat) (w w' : World) : Prop := (∃ cs, w.heap[m]? = some (.cells cs 134 (0, 0))) ∧ w.heap.size ≤ w'.heap.size ∧ ∀ k, k < w.heap.size → ¬ IsC w k → k ≠ m → w'.heap[k]? = w.heap[k]?
theorem Km.at {m : Nat} {w w' : World} (h : Km m w w') {k : Nat} {cs : Array Value} {t : TypeId} {f : Nat × Nat} (hk : w.heap[k]? = some (.cells cs t f)) (ht : t ≠ 115 ∧ t ≠ 153 ∧ t ≠ 3 ∧ t ≠ 157) (h9 : t ≠ 134) : w'.heap[k]? = some (.cells cs t f) := by
  obtain ⟨⟨ds, hm⟩, _, h1⟩ := h
  exact (h1 k (lt_of_blk hk) (not_isc hk ht) (tag_ne hk hm h9)).trans hk
theorem RdK.km {m : Nat} {w w' : World} {A : Option Addr} {n : Nat} {l : List Wk} (h : RdK w A n l) (k : Km m w w') : RdK w' A n l := h.keep fun b cs e => (k.at e (by decide) (by decide)).trans e.symm
section
variable {W w w' : World} {c m : Nat} {s t : CS}
theorem MD.blk {ok : Nat → Prop} (h : MD w ok m s) : ∃ cs, w.heap[m]? = some (.cells cs 134 (0, 0)) := by obtain ⟨b, q, r, hx⟩ := h; exact ⟨_, hx.hb⟩
theorem JS.blk (h : JS W c m s t w) : ∃ cs, w.heap[m]? = some (.cells cs 134 (0, 0)) := by obtain ⟨_, F, _, _, _, h1⟩ := h; exact h1.blk
theorem JS.chan (h : JS W c m s t w) : ∃ F, CH w F c s ∧ ∀ s' w', Go F c s' w w' → JS W c m s' t w' ∧ Km m w w' := by
  obtain ⟨h0, F, h1, h2, h3, h4⟩ := h
  have hnm : ¬ F m := fun hf => by
    obtain ⟨cs, hb⟩ := h4.blk
    exact not_isc hb (by decide) (h1.tag hf)
  refine ⟨F, h1, fun s' w' g => ⟨⟨h0.trans (g.below h0.size h2), ?_⟩, h4.blk, g.tn.size, fun k hk hn _ => g.other h1 hk hn⟩⟩
  obtain ⟨F', hc', hs, tn⟩ := g
  refine ⟨F', hc', fun b hb => ?_, h3, ?_⟩
  · rcases hs b hb with hf | hf
    · exact h2 b hf
    · have := h0.size; omega
  · have e1 : MD w (fun b => (W.heap.size ≤ b ∧ ¬ F b ∧ b ≠ m) ∧ (W.heap.size ≤ b ∧ ¬ F' b ∧ b ≠ m)) m t := h4.mono (fun b hb ho => ⟨ho, ho.1, fun hf => by
      rcases hs b hf with h9 | h9
      · exact ho.2.1 h9
      · omega, ho.2.2⟩) (fun h => h.1.2.2 rfl)
    exact (e1.keep tn.size (tn.block m h4.lt hnm) fun b hb ho => tn.block b hb ho.1.2.1).mono (fun b _ ho => ho.2) (fun h => h.2.2 rfl)
theorem JS.model (h : JS W c m s t w) : ∃ ok, MD w ok m t ∧ ∀ t' w', Mo ok m t' w w' → JS W c m s t' w' ∧ Km m w w' := by
  obtain ⟨h0, F, h1, h2, h3, h4⟩ := h
  have hnm : ¬ F m := fun hf => by
    obtain ⟨cs, hb⟩ := h4.blk
    exact not_isc hb (by decide) (h1.tag hf)
  refine ⟨_, h4, fun t' w' ⟨g, tn⟩ => ⟨⟨h0.trans (tn.below h0.size fun b hb => by rw [hb]; exact h3), F, h1.keep fun b hb => tn.block b (h1.lt hb) fun e => hnm (e ▸ hb), h2, h3, ?_⟩, h4.blk, tn.size, fun k hk _ hne => tn.block k hk hne⟩⟩
  refine g.mono (fun b _ ho => ?_) (fun h => h.2.2 rfl)
  rcases ho with ho | ho
  · exact ho
  · exact ⟨Nat.le_trans h0.size ho, fun hf => by have := h1.lt hf; omega, fun e => by have := h4.lt; omega⟩
theorem JS.later (h : JS W c m s t w) (hb : Below w.heap.size w w') : JS W c m s t w' := by
  obtain ⟨h0, F, h1, h2, h3, h4⟩ := h
  exact ⟨h0.trans (hb.mono h0.size), F, h1.later hb, h2, h3, h4.later hb⟩
theorem JS.draws (h : JS W c m s t w) (hh : w'.heap = w.heap) (h1 : w'.os = w.os) (h2 : w'.tape = w.tape) (h3 : w'.output = w.output) : JS W c m s t w' :=
  h.later ⟨h1, h2, h3, by rw [hh]; exact Nat.le_refl _, fun k _ => by rw [hh]⟩
theorem JS.km (h : JS W c m s t w) (hb : Below w.heap.size w w') : Km m w w' := ⟨h.blk, hb.size, fun k hk _ _ => hb.block k hk⟩
theorem JS.kd (h : JS W c m s t w) : s.kd ≤ 2 := by obtain ⟨_, F, h1, _⟩ := h; exact h1.kd
theorem JS.sz (h : JS W c m s t w) : s.sz ≤ 64 := by obtain ⟨_, F, h1, _⟩ := h; exact h1.sz
theorem JS.le (h : JS W c m s t w) : s.l.length ≤ s.sz := by obtain ⟨_, F, h1, _⟩ := h; exact h1.le
/-- Begun. -/
theorem JS.start {w1 w2 : World} (hb : Below W.heap.size W w) (k : Mk c s w w1) (hm : ∀ ok : Nat → Prop, ¬ ok m → MD w2 ok m t) (hb2 : Below w1.heap.size w1 w2) (h1 : w1.heap.size ≤ m) : JS W c m s t w2 := by
  obtain ⟨⟨F, hc, hF⟩, hbw, _⟩ := k
  have hsz := hb.size
  have hsz2 := hbw.size
  exact ⟨(hb.trans (hbw.mono hsz)).trans (hb2.mono (by omega)), F, hc.later hb2, fun b hf => by have := hF b hf; omega, by omega, hm _ fun h => h.2.2 rfl⟩
/-- How many wait. -/
def nw (s : CS) : Nat := s.ss.length + s.rs.length
theorem nw_gv (s : CS) (v : Int) : nw (gv s v).1 ≤ nw s := by
  unfold gv nw
  split
  · rename_i h; rw [h]; simp
  · split <;> simp
theorem nw_rc (s : CS) : nw (rc s).1 ≤ nw s := by
  unfold rc nw
  split <;> (rename_i h1 h2; simp [h2])
theorem nw_wt (s : CS) (x : Wt) (b : Bool) : nw (wt s x b).1 ≤ nw s + 1 := by
  unfold wt nw
  split
  · simp
  · split
    · simp
    · split
      · simp
      · cases b <;> simp [CS.sq, CS.q] <;> omega
end
end Go.Proofs.YtmadcnpkaijllaaGreat.Ch
