/- The document's own channel: Recv. Conditions: each theorem's own premises. -/
import Derived.Test.YtmadcnpkaijllaaGreatCSl
import Derived.Test.YtmadcnpkaijllaaGreatCRcvm
import Derived.Deep.CutRange
namespace Go.Proofs.YtmadcnpkaijllaaGreat.Ch
open Go.RowKit
set_option linter.unusedVariables false
set_option maxRecDepth 100000

def MrR (ok : Nat → Prop) (m : Nat) (g : CS × Int × Bool × Bool × List Wk) (w : World) (e : Ending) (w' : World) : Prop :=
  ∃ A cap, e = .returned (.tuple #[.int .i64 g.2.1, .bool g.2.2.1, .bool g.2.2.2.1, .slice A g.2.2.2.2.length cap]) ∧ RdK w' A g.2.2.2.2.length g.2.2.2.2 ∧ Mo ok m g.1 w w'
theorem Ro.of_ownV {w : World} {ok : Nat → Prop} {a : Option Addr} {n c s base e : Nat} {xs : List Value} (h : w.ownsRow base e s (.slice a n c) n xs) (k : ∀ b, (Value.slice a n c).ownBlock = some b → ok b) (he : e = 3 ∨ e = 87 := by decide) : Ro w ok a n c s xs := by
  obtain ⟨a', c', e1, h1, h2⟩ := own_cap h
  cases e1
  refine ⟨h1, h2, h.1, fun hn => ?_⟩
  obtain ⟨g, cap, hv, hb, hlt⟩ := h.form hn
  cases hv
  obtain ⟨cs, ht⟩ := own_tag0 h (b := g) rfl
  exact ⟨g, 0, rfl, hlt, k g rfl, ⟨cs, e, ht, he⟩, fun j u hu => by rw [Nat.zero_add, h.cellAt j (by rw [← h.1]; exact (List.getElem?_eq_some_iff.1 hu).1)]; exact hu⟩
theorem own_kv {w w' : World} {base n sz : Nat} {e : TypeId} {v : Value} {xs : List Value} (h : w.ownsRow base e sz v n xs) (k : ∀ b, v.ownBlock = some b → w'.heap[b]? = w.heap[b]?) : w'.ownsRow base e sz v n xs := by
  refine ⟨h.1, ?_⟩
  rcases h.2 with hn | ⟨g, cap, cur, q1, q2, q3, q4⟩
  · exact .inl hn
  · exact .inr ⟨g, cap, cur, q1, q2, by rw [k g (by rw [q1]; rfl)]; exact q3, q4⟩
theorem own_tag {w : World} {base n sz : Nat} {e : TypeId} {v : Value} {xs : List Value} (h : w.ownsRow base e sz v n xs) {b : Nat} (hb : v.ownBlock = some b) : ∃ cs, w.heap[b]? = some (.cells cs e (0, 0)) := by
  rcases h.2 with ⟨rfl, _⟩ | ⟨g, cap, cur, rfl, _, q1, _⟩
  · cases hb
  · cases hb; exact ⟨_, q1⟩
theorem own_ne {w : World} {b1 b2 e1 e2 s1 s2 n1 n2 : Nat} {v1 v2 : Value} {x1 x2 : List Value} (h1 : w.ownsRow b1 e1 s1 v1 n1 x1) (h2 : w.ownsRow b2 e2 s2 v2 n2 x2) (he : e1 ≠ e2) : ∀ b, v1.ownBlock = some b → v2.ownBlock ≠ some b := by
  intro b k1 k2
  rcases h1.2 with ⟨rfl, _⟩ | ⟨g, cap, cur, rfl, _, q1, _⟩
  · cases k1
  · cases k1
    rcases h2.2 with ⟨rfl, _⟩ | ⟨g2, cap2, cur2, rfl, _, q2, _⟩
    · cases k2
    · cases k2
      exact tag_ne q1 q2 he rfl
/-- But for its values. -/
structure MY (w : World) (ok : Nat → Prop) (m : Nat) (s : CS) (vb : Value) (q r : Option Addr × Nat) : Prop where
  hb : w.heap[m]? = some (.cells (mB s vb (.slice q.1 s.ss.length q.2) (.slice r.1 s.rs.length r.2)) 134 (0, 0))
  rq : Ro w ok q.1 s.ss.length q.2 3 (flW s.ss)
  rr : Ro w ok r.1 s.rs.length r.2 3 (flW s.rs)
  no : ¬ ok m
theorem MX.my {w : World} {ok : Nat → Prop} {m : Nat} {s : CS} {b q r : Option Addr × Nat} (h : MX w ok m s b q r) : MY w ok m s (.slice b.1 s.l.length b.2) q r := ⟨h.hb, h.rq, h.rr, h.no⟩
section
variable {w w' : World} {ok ok' : Nat → Prop} {m : Nat} {s : CS} {vb : Value} {q r : Option Addr × Nat}
theorem MY.c4 (h : MY w ok m s vb q r) : w.cell? ⟨m, 4, none⟩ = some vb := by rw [cell_of_row w m 4 _ _ _ h.hb]; rfl
theorem MY.c5 (h : MY w ok m s vb q r) : w.cell? ⟨m, 5, none⟩ = some (.slice q.1 s.ss.length q.2) := by rw [cell_of_row w m 5 _ _ _ h.hb]; rfl
theorem MY.fz (h : MY w ok m s vb q r) (i : Nat) : w.frozen? ⟨m, i, none⟩ = false := frozen_of_row w m i _ _ h.hb
theorem MY.lt (h : MY w ok m s vb q r) : m < w.heap.size := lt_of_blk h.hb
theorem MY.later (h : MY w ok m s vb q r) (hb : Below w.heap.size w w') : MY w' ok m s vb q r := ⟨(hb.block m h.lt).trans h.hb, h.rq.later hb, h.rr.later hb, h.no⟩
theorem MY.mono (h : MY w ok m s vb q r) (k : ∀ b, b < w.heap.size → ok b → ok' b) (hn : ¬ ok' m) : MY w ok' m s vb q r := ⟨h.hb, h.rq.mono k, h.rr.mono k, hn⟩
theorem MY.keep (h : MY w ok m s vb q r) (hs : w.heap.size ≤ w'.heap.size) (h1 : w'.heap[m]? = w.heap[m]?) (k : ∀ b, b < w.heap.size → ok b → w'.heap[b]? = w.heap[b]?) : MY w' ok m s vb q r := ⟨h1.trans h.hb, h.rq.keep hs k, h.rr.keep hs k, h.no⟩
theorem MY.setB {l : List Int} {b' : Option Addr × Nat} (h : MY w ok m s vb q r) (ho : ∀ b, ok b → ok' b) (hn : ¬ ok' m) (hr : Ro w ok' b'.1 l.length b'.2 1 (iV l)) : MX (w.setCell ⟨m, 4, none⟩ (.slice b'.1 l.length b'.2)) ok' m { s with l := l } b' q r :=
  ⟨by rw [heap_setCell_same w m 4 _ _ _ h.hb]; rfl, hr.set hn _, (h.rq.mono fun b _ => ho b).set hn _, (h.rr.mono fun b _ => ho b).set hn _, hn⟩
theorem MY.setQ {l : List Wt} {q' : Option Addr × Nat} (h : MY w ok m s vb q r) (hr : Ro w ok q'.1 l.length q'.2 3 (flW l)) : MY (w.setCell ⟨m, 5, none⟩ (.slice q'.1 l.length q'.2)) ok m { s with ss := l } vb q' r :=
  ⟨by rw [heap_setCell_same w m 5 _ _ _ h.hb]; rfl, hr.set h.no _, h.rr.set h.no _, h.no⟩
end
theorem okN_no {ok : Nat → Prop} {N m : Nat} (h : ¬ ok m) (hm : m < N) : ¬ okN ok N m := fun hn => by rcases hn with hn | hn; exact h hn; omega
theorem iV_cons (v : Int) (l : List Int) : iV (v :: l) = iV [v] ++ iV l := rfl
section
variable {w : World} {ok : Nat → Prop} {m : Nat} {s : CS}
set_option maxRecDepth 100000 in
theorem mrecv_none (h : MD w ok m s) (hl : s.l = []) (hs : s.ss = []) : Calls Tryz.prog 28 #[.pointer (some ⟨m, 0, none⟩)] w (MrR ok m (s, 0, false, s.cl, []) w) := by
  have HM := Lib.hid (Mo.same h)
  obtain ⟨b, q, r, hx⟩ := h
  have c3 := hx.c3
  have c4 := hx.c4
  have c5 := hx.c5
  rw [hl] at c4
  rw [hs] at c5
  simp only [List.length_nil] at c4 c5
  clear hx hl hs
  go_enter Tryz.func28, Tryz.ntmps28
  go_wp2_with fail
  go_quiet (fail)
  go_wp2_with fail
  refine bodyPost_ret (results_tmp4 rfl _ _ _) rfl ?_
  exact ⟨none, 0, rfl, RdK.nil _ _, HM.out.draws rfl rfl rfl rfl⟩
set_option maxRecDepth 100000 in
set_option maxHeartbeats 4000000 in
theorem mrecv_val {v : Int} {l : List Int} (h : MD w ok m s) (hl : s.l = v :: l) (hs : s.ss = []) (hn : l.length ≤ 1000) : Calls Tryz.prog 28 #[.pointer (some ⟨m, 0, none⟩)] w (MrR ok m ({ s with l := l }, v, true, true, []) w) := by
  obtain ⟨b, q, r, hx⟩ := h
  obtain ⟨i0, hi, hz0, hz1, hz2⟩ := info_parts infI
  have hrb := hx.rb
  rw [hl] at hrb
  rw [iV_cons, List.length_cons] at hrb
  obtain ⟨bk, off, e4, hbl, hc, _⟩ := hrb.cut rfl
  have c4 := hx.c4
  have f4 := hx.fz 4
  have c5 := hx.c5
  have d0 : w.cell? ⟨bk, off, none⟩ = some (.int .i64 v) := hc 0 _ rfl
  rw [hl, e4, List.length_cons] at c4
  rw [hs, List.length_nil] at c5
  rw [e4] at hrb
  have HRB := Lib.hid hrb
  have HX := Lib.hid hx
  have hml := hx.lt
  have p1 : 0 ≤ (l.length : Int) := by omega
  have p2 : (l.length : Int) ≤ 1000 := by omega
  have p3 : 0 < (l.length : Int) + 1 := by omega
  clear hx hrb hc hl hs e4
  go_enter Tryz.func28, Tryz.ntmps28
  go_wp2_with (first
    | (refine wp_tail (f := iV [v]) (xs := iV l) (n := l.length) rfl (.tmp 28) rfl Tryz.underlying131 hi hz1 rfl (HRB.out.later (below_al w _)) rfl ?_; intro a1 k1 hr1; have HR1 := Lib.hid hr1; clear hr1)
    | (at_builtin; go_loud (refine app_wp rfl (.tmp 24) (.tmp 29) 131 rfl w.heap.size 3 1 8 i0 (.int .i64 0) Tryz.underlying131 hi hz0 hz1 hz2 rfl (by decide) (.slice (some ⟨w.heap.size, 0, none⟩) 0 0) 0 [] rfl (own_empty _ 3 1 w.heap.size _ rfl (Nat.le_refl _)) _ a1 l.length k1 (iV l) rfl HR1.out.rd (iV_one _) (by unfold maxLen; omega) (by omega) (by simp) ?_; intro v1 w1 ho1 hg1; rw [Nat.zero_add, List.nil_append] at ho1; have hb1 := below_app (below_al w (.cells #[] 3)) (Nat.le_refl _) (by simp) (own_empty w 3 1 w.heap.size w.heap.size rfl (Nat.le_refl _)) hg1; obtain ⟨A1, k2, hv1, _, _⟩ := own_cap ho1; subst hv1; have hx1 := HX.out.next hb1; have f41 := hx1.fz 4; have hl1 := hx1.lt; have c41 := hx1.c4; have c51 := (cell_blk (hb1.block m hml) 5).trans c5; have HS := Lib.hid (hx1.setB (l := l) (b' := (A1, k2)) (Ro.of_own ho1 okN_new)); have HB1 := Lib.hid hb1; clear ho1 hg1 hb1 hx1)))
  have T1 : Hid (Mo ok m { s with l := l } w (w1.setCell ⟨m, 4, none⟩ (.slice A1 l.length k2))) := ⟨⟨_, _, _, HS.out⟩, (Tn.of_below (F := fun k => k = m) HB1.out).set (.inl rfl) _⟩
  clear HS HB1
  refine bodyPost_ret (results_tmp4 rfl _ _ _) rfl ?_
  exact ⟨none, 0, rfl, RdK.nil _ _, T1.out⟩
set_option maxRecDepth 100000 in
set_option maxHeartbeats 4000000 in
theorem mrecv_hand {x : Wt} {l : List Wt} (h : MD w ok m s) (hl : s.l = []) (hs : s.ss = x :: l) (hn : l.length ≤ 1000) : Calls Tryz.prog 28 #[.pointer (some ⟨m, 0, none⟩)] w (MrR ok m ({ s with ss := l }, x.v, true, true, [⟨x.t, x.c, 0, true, false⟩]) w) := by
  obtain ⟨b, q, r, hx⟩ := h
  obtain ⟨i0, hi, hz0, hz1, hz2⟩ := info_parts inf30
  have hrq := hx.rq
  rw [hs] at hrq
  rw [flW_cons, List.length_cons] at hrq
  obtain ⟨bk, off, e5, hbl, hc, _⟩ := hrq.cut rfl
  have c4 := hx.c4
  have c5 := hx.c5
  have f5 := hx.fz 5
  have d0 : w.cell? ⟨bk, off, none⟩ = some (.int .i64 x.t) := hc 0 _ rfl
  have d1 : w.cell? ⟨bk, off + 1, none⟩ = some (.int .i64 x.c) := hc 1 _ rfl
  have d2 : w.cell? ⟨bk, off + 2, none⟩ = some (.int .i64 x.v) := hc 2 _ rfl
  rw [hs, e5, List.length_cons] at c5
  rw [hl, List.length_nil] at c4
  rw [e5] at hrq
  have HRQ := Lib.hid hrq
  have HX := Lib.hid hx
  have hml := hx.lt
  have p1 : 0 ≤ (l.length : Int) := by omega
  have p2 : (l.length : Int) ≤ 1000 := by omega
  have p3 : 0 < (l.length : Int) + 1 := by omega
  clear hx hrq hc hl hs e5
  go_enter Tryz.func28, Tryz.ntmps28
  go_wp2_with (first
    | (refine wp_tail (f := wV x) (xs := flW l) (n := l.length) rfl (.tmp 91) rfl Tryz.underlying132 hi hz1 rfl (HRQ.out.later (two_al w _ _)) rfl ?_; intro a1 k1 hr1; have HR1 := Lib.hid hr1; clear hr1)
    | (at_builtin; go_loud (refine app_wp rfl (.tmp 87) (.tmp 92) 132 rfl w.heap.size 87 3 24 i0 (.agg #[.int .i64 0, .int .i64 0, .int .i64 0]) Tryz.underlying132 hi hz0 hz1 hz2 rfl (by decide) (.slice (some ⟨w.heap.size + 1, 0, none⟩) 0 0) 0 [] rfl (own_empty _ 87 3 w.heap.size _ (by simp) (by simp)) _ a1 l.length k1 (flW l) rfl HR1.out.rd (flW_one _) (by unfold maxLen; omega) (by omega) (by simp <;> omega) ?_; intro v1 w1 ho1 hg1; rw [Nat.zero_add, List.nil_append] at ho1; have hb1 := below_app (two_al w (.cells #[.int .i64 x.t, .int .i64 x.c, .int .i64 x.v] 87) (.cells #[] 87)) (Nat.le_refl _) (by simp <;> omega) (own_empty (w.alloc (.cells #[.int .i64 x.t, .int .i64 x.c, .int .i64 x.v] 87)) 87 3 w.heap.size (w.heap.size + 1) (by simp) (by simp)) hg1; obtain ⟨A1, k2, hv1, _, _⟩ := own_cap ho1; subst hv1; have hx1 := HX.out.next hb1; have f51 := hx1.fz 5; have c51 := hx1.c5; have hl1 := hx1.lt; have HS := Lib.hid (hx1.setQ (l := l) (q' := (A1, k2)) (Ro.of_own ho1 okN_new)); have hk1 : w1.heap[w.heap.size]? = some (.cells #[.int .i64 x.t, .int .i64 x.c, .int .i64 x.v] 87 (0, 0)) := (hg1.block w.heap.size (by simp; omega) (by simp [Value.ownBlock])).trans ((below_al (w.alloc (.cells #[.int .i64 x.t, .int .i64 x.c, .int .i64 x.v] 87)) (.cells #[] 87)).block w.heap.size (by simp) |>.trans (heap_alloc_new _ _)); have HB1 := Lib.hid hb1; clear ho1 hg1 hb1 hx1)))
  have hk2 : (w1.setCell ⟨m, 5, none⟩ (.slice A1 l.length k2)).heap[w.heap.size]? = some (.cells #[.int .i64 x.t, .int .i64 x.c, .int .i64 x.v] 87 (0, 0)) := (Below.heap_setCell _ _ _ _ (by show w.heap.size ≠ m; omega)).trans hk1
  have T1 : Hid (Mo ok m { s with ss := l } w (w1.setCell ⟨m, 5, none⟩ (.slice A1 l.length k2))) := ⟨⟨_, _, _, HS.out⟩, (Tn.of_below (F := fun k => k = m) HB1.out).set (.inl rfl) _⟩
  have g0 := cell_of_row _ w.heap.size 0 _ _ _ hk2
  have g1 := cell_of_row _ w.heap.size 1 _ _ _ hk2
  have g2 := cell_of_row _ w.heap.size 2 _ _ _ hk2
  simp only [List.getElem?_toArray, List.getElem?_cons_succ, List.getElem?_cons_zero] at g0 g1 g2
  have hgs := lt_of_blk hk2
  clear hk1 hk2 c51 f51 hl1 HS HB1 HX d0 d1 d2 c4 c5 f5
  generalize w1.setCell ⟨m, 5, none⟩ (.slice A1 l.length k2) = w2 at *
  go_region
  all_goals
    go_wp2_with fail
    refine bodyPost_ret (results_tmp4 rfl _ _ _) rfl ?_
    exact ⟨some ⟨_, 0, none⟩, 1, rfl, (RdK.one _ ⟨x.t, x.c, 0, true, false⟩ _ (by simp)).keep (fun _ _ h => rfl), (T1.out.later (below_al _ _)).draws rfl rfl rfl rfl⟩
/-- The numbers' row is apart from what else the channel has. -/
def okA (ok : Nat → Prop) (N : Nat) (v : Value) (b : Nat) : Prop := okN ok N b ∧ v.ownBlock ≠ some b
set_option maxRecDepth 100000 in
set_option maxHeartbeats 4000000 in
theorem mrecv_both {v : Int} {x : Wt} {l : List Int} {ls : List Wt} (h : MD w ok m s) (hl : s.l = v :: l) (hs : s.ss = x :: ls) (hn : l.length ≤ 1000) (hn2 : ls.length ≤ 1000) : Calls Tryz.prog 28 #[.pointer (some ⟨m, 0, none⟩)] w (MrR ok m ({ s with l := l ++ [x.v], ss := ls }, v, true, true, [⟨x.t, x.c, 0, true, false⟩]) w) := by
  obtain ⟨b, q, r, hx⟩ := h
  obtain ⟨i0, hi, hz0, hz1, hz2⟩ := info_parts infI
  obtain ⟨j0, hj, hy0, hy1, hy2⟩ := info_parts inf30
  have hrb := hx.rb
  rw [hl] at hrb
  rw [iV_cons, List.length_cons] at hrb
  obtain ⟨bk, off, e4, hbl, hc, _⟩ := hrb.cut rfl
  have hrq := hx.rq
  rw [hs] at hrq
  rw [flW_cons, List.length_cons] at hrq
  obtain ⟨bs, ofs, e5, hbs, hcs, _⟩ := hrq.cut rfl
  have hnbm : bs ≠ m := by
    obtain ⟨b', o', e', _, hok, _⟩ := hrq.2.2.2 (by omega)
    rw [e5] at e'
    cases e'
    rintro rfl
    exact hx.no hok
  have c4 := hx.c4
  have f4 := hx.fz 4
  have v0 : w.cell? ⟨bk, off, none⟩ = some (.int .i64 v) := hc 0 _ rfl
  rw [hl, e4, List.length_cons] at c4
  rw [e4] at hrb
  rw [e5] at hrq
  have HRB := Lib.hid hrb
  have HRQ := Lib.hid hrq
  have HX := Lib.hid hx
  have HCS : Hid (∀ j u, (wV x)[j]? = some u → w.cell? ⟨bs, ofs + j, none⟩ = some u) := hcs
  have HE5 : Hid (q.1 = some ⟨bs, ofs, none⟩ ∧ s.ss = x :: ls) := ⟨e5, hs⟩
  have hml := hx.lt
  have p1 : 0 ≤ (l.length : Int) := by omega
  have p2 : (l.length : Int) ≤ 1000 := by omega
  have p3 : 0 < (l.length : Int) + 1 := by omega
  have p4 : 0 ≤ (ls.length : Int) := by omega
  have p5 : (ls.length : Int) ≤ 1000 := by omega
  have p6 : (((ls.length : Int) + 1) == 0) = false := by rw [beq_eq_false_iff_ne]; omega
  have p7 : ¬ ((ls.length : Int) + 1) = 0 := by omega
  have p8 : 0 < (ls.length : Int) + 1 := by omega
  clear hx hrb hrq hc hcs hl hs e4 e5
  go_enter Tryz.func28, Tryz.ntmps28
  go_upto_region 6 with (first
    | (refine wp_tail (f := iV [v]) (xs := iV l) (n := l.length) rfl (.tmp 28) rfl Tryz.underlying131 hi hz1 rfl (HRB.out.later (below_al w _)) rfl ?_; intro a1 k1 hr1; have HR1 := Lib.hid hr1; clear hr1)
    | (at_builtin; (refine app_wp rfl (.tmp 24) (.tmp 29) 131 rfl w.heap.size 3 1 8 i0 (.int .i64 0) Tryz.underlying131 hi hz0 hz1 hz2 rfl (by decide) (.slice (some ⟨w.heap.size, 0, none⟩) 0 0) 0 [] rfl (own_empty _ 3 1 w.heap.size _ rfl (Nat.le_refl _)) _ a1 l.length k1 (iV l) rfl HR1.out.rd (iV_one _) (by unfold maxLen; omega) (by omega) (by simp) ?_; intro v1 w1 ho1 hg1; rw [Nat.zero_add, List.nil_append] at ho1; have hb1 := below_app (below_al w (.cells #[] 3)) (Nat.le_refl _) (by simp) (own_empty w 3 1 w.heap.size w.heap.size rfl (Nat.le_refl _)) hg1; obtain ⟨A1, k2, hv1, _, _⟩ := own_cap ho1; subst hv1; have hx1 := HX.out.next hb1; have f41 := hx1.fz 4; have hl1 := hx1.lt; have c41 := hx1.c4; have HO1 := Lib.hid ho1; have HX1 := Lib.hid hx1; have HB1 := Lib.hid hb1; clear ho1 hg1 hb1 hx1)))
  have hX2 := HX1.out.setB (l := l) (b' := (A1, k2)) (Ro.of_own HO1.out okN_new)
  have T2 : Hid (Tn (fun k => k = m) w (w1.setCell ⟨m, 4, none⟩ (.slice A1 l.length k2))) := (Tn.of_below (F := fun k => k = m) HB1.out).set (.inl rfl) _
  have hO2 : (w1.setCell ⟨m, 4, none⟩ (.slice A1 l.length k2)).ownsRow w.heap.size 3 1 (.slice A1 l.length k2) l.length (iV l) := own_kv HO1.out fun b hb => Below.heap_setCell _ _ _ _ (by have := (HO1.out.lt b hb).1; show b ≠ m; omega)
  have HX2 := Lib.hid hX2
  have HO2 := Lib.hid hO2
  clear hX2 hO2 HX1 HO1 HB1 f41 c41 hl1 HR1 c4 f4 v0
  generalize w1.setCell ⟨m, 4, none⟩ (.slice A1 l.length k2) = w2 at *
  have c5 : w2.cell? ⟨m, 5, none⟩ = some (.slice (some ⟨bs, ofs, none⟩) (ls.length + 1) q.2) := by have h9 := HX2.out.c5; rw [HE5.out.1, HE5.out.2, List.length_cons] at h9; exact h9
  have hbk : w2.heap[bs]? = w.heap[bs]? := T2.out.block bs hbs hnbm
  have d0 : w2.cell? ⟨bs, ofs, none⟩ = some (.int .i64 x.t) := (cell_blk hbk _).trans (HCS.out 0 _ rfl)
  have d1 : w2.cell? ⟨bs, ofs + 1, none⟩ = some (.int .i64 x.c) := (cell_blk hbk _).trans (HCS.out 1 _ rfl)
  have d2 : w2.cell? ⟨bs, ofs + 2, none⟩ = some (.int .i64 x.v) := (cell_blk hbk _).trans (HCS.out 2 _ rfl)
  have HRQ2 : Hid (Ro w2 (fun b => b ≠ m) (some ⟨bs, ofs, none⟩) (ls.length + 1) q.2 3 (wV x ++ flW ls)) := (HRQ.out.mono fun b _ ho => by rintro rfl; exact HX.out.no ho).keep T2.out.size fun b hb hne => T2.out.block b hb hne
  have hs2 := T2.out.size
  have hm2 : m < w2.heap.size := by omega
  have hb2s : bs < w2.heap.size := by omega
  clear hbk HCS HE5 HRQ
  go_upto_region 10 with (first
    | (refine wp_tail (f := wV x) (xs := flW ls) (n := ls.length) rfl (.tmp 51) rfl Tryz.underlying132 hj hy1 rfl (HRQ2.out.later (two_al w2 _ _)) rfl ?_; intro a3 k3 hr3; have HR3 := Lib.hid hr3; clear hr3)
    | (at_builtin; go_loud (refine app_wp rfl (.tmp 47) (.tmp 52) 132 rfl w.heap.size 87 3 24 j0 (.agg #[.int .i64 0, .int .i64 0, .int .i64 0]) Tryz.underlying132 hj hy0 hy1 hy2 rfl (by decide) (.slice (some ⟨w2.heap.size + 1, 0, none⟩) 0 0) 0 [] rfl (own_empty _ 87 3 w.heap.size _ (by simp) (by simp; omega)) _ a3 ls.length k3 (flW ls) rfl HR3.out.rd (flW_one _) (by unfold maxLen; omega) (by omega) (by simp <;> omega) ?_; intro v4 w4 ho4 hg4; rw [Nat.zero_add, List.nil_append] at ho4; have hb4 : Below w2.heap.size w2 w4 := below_app (two_al w2 (.cells #[.int .i64 x.t, .int .i64 x.c, .int .i64 x.v] 87) (.cells #[] 87)) (Nat.le_refl _) (by simp <;> omega) (own_empty (w2.alloc (.cells #[.int .i64 x.t, .int .i64 x.c, .int .i64 x.v] 87)) 87 3 w2.heap.size (w2.heap.size + 1) (by simp) (by simp)) hg4; obtain ⟨A4, k4, hv4, _, _⟩ := own_cap ho4; subst hv4; have hx4 := HX2.out.later hb4; have f54 := hx4.fz 5; have c54 := hx4.c5; have hl4 := hx4.lt; have hk4 : w4.heap[w2.heap.size]? = some (.cells #[.int .i64 x.t, .int .i64 x.c, .int .i64 x.v] 87 (0, 0)) := (hg4.block w2.heap.size (by simp; omega) (by simp [Value.ownBlock])).trans ((below_al (w2.alloc (.cells #[.int .i64 x.t, .int .i64 x.c, .int .i64 x.v] 87)) (.cells #[] 87)).block w2.heap.size (by simp) |>.trans (heap_alloc_new _ _)); have HK4 := Lib.hid hk4; have HX4 := Lib.hid hx4; have HO4 := Lib.hid ho4; have HB4 := Lib.hid hb4; clear ho4 hg4 hb4 hx4 hk4)))
  have hX5 := HX4.out.setQ (l := ls) (q' := (A4, k4)) (Ro.of_own HO4.out okN_new)
  have hO5 : (w4.setCell ⟨m, 5, none⟩ (.slice A4 ls.length k4)).ownsRow w.heap.size 87 3 (.slice A4 ls.length k4) ls.length (flW ls) := own_kv HO4.out fun b hb => Below.heap_setCell _ _ _ _ (by have := (HO4.out.lt b hb).1; show b ≠ m; omega)
  have hP5 : (w4.setCell ⟨m, 5, none⟩ (.slice A4 ls.length k4)).ownsRow w.heap.size 3 1 (.slice A1 l.length k2) l.length (iV l) := own_kv HO2.out fun b hb => (Below.heap_setCell _ _ _ _ (by have := (HO2.out.lt b hb).1; show b ≠ m; omega)).trans (HB4.out.block b (HO2.out.lt b hb).2)
  have T5 : Hid (Tn (fun k => k = m) w (w4.setCell ⟨m, 5, none⟩ (.slice A4 ls.length k4))) := (T2.out.later HB4.out).set (.inl rfl) _
  have hK5 : (w4.setCell ⟨m, 5, none⟩ (.slice A4 ls.length k4)).heap[w2.heap.size]? = some (.cells #[.int .i64 x.t, .int .i64 x.c, .int .i64 x.v] 87 (0, 0)) := (Below.heap_setCell _ _ _ _ (by show w2.heap.size ≠ m; omega)).trans HK4.out
  have HY5 : Hid (MY (w4.setCell ⟨m, 5, none⟩ (.slice A4 ls.length k4)) (okA ok w.heap.size (.slice A1 l.length k2)) m { s with l := l, ss := ls } (.slice A1 l.length k2) (A4, k4) r) := by
    refine ⟨hX5.hb, Ro.of_ownV hO5 fun b hb => ⟨.inr (hO5.lt b hb).1, fun h9 => own_ne hP5 hO5 (by decide) b h9 hb⟩, ?_, fun h9 => okN_no HX.out.no hml h9.1⟩
    refine (HX.out.rr.mono fun b hb ho => (⟨.inl ho, fun h9 => by have := (hP5.lt b h9).1; omega⟩ : okA ok w.heap.size (.slice A1 l.length k2) b)).keep T5.out.size fun b hb ho => T5.out.block b hb ?_
    rintro rfl
    exact okN_no HX.out.no hml ho.1
  have HP5 := Lib.hid hP5
  have HK5 := Lib.hid hK5
  have hsz5 : Hid (w2.heap.size < (w4.setCell ⟨m, 5, none⟩ (.slice A4 ls.length k4)).heap.size) := lt_of_blk hK5
  clear hX5 hO5 hP5 hK5 HX4 HO4 HB4 HK4 f54 c54 hl4 HR3 HRQ2 HX2 HO2 T2 c5 d0 d1 d2
  generalize w2.heap.size = N2 at *
  generalize w4.setCell ⟨m, 5, none⟩ (.slice A4 ls.length k4) = w5 at *
  have c4 := HY5.out.c4
  have f4 := HY5.out.fz 4
  have hl5 := HY5.out.lt
  have g2 := cell_of_row w5 N2 2 _ _ _ HK5.out
  simp only [List.getElem?_toArray, List.getElem?_cons_succ, List.getElem?_cons_zero] at g2
  have hs5 := T5.out.size
  have HQ5 : Hid (∀ wx, Below w5.heap.size w5 wx → wx.ownsRow w.heap.size 3 1 (.slice A1 l.length k2) l.length (iV l)) := fun wx hb => own_kv HP5.out fun b h9 => hb.block b (HP5.out.lt b h9).2
  have HG5 : Hid (∀ wx w7 : World, Below w5.heap.size w5 wx → wx.grownBy w7 (Value.slice A1 l.length k2).ownBlock → MY w7 (okA ok w.heap.size (.slice A1 l.length k2)) m { s with l := l, ss := ls } (.slice A1 l.length k2) (A4, k4) r ∧ Tn (fun k => k = m) w w7 ∧ w7.heap[N2]? = some (.cells #[.int .i64 x.t, .int .i64 x.c, .int .i64 x.v] 87 (0, 0))) := by
    intro wx w7 hb hg
    have hy := HY5.out.later hb
    have ho := HQ5.out wx hb
    refine ⟨hy.keep hg.size (hg.block m hy.lt fun e => ?_) (fun b hlt hok => hg.block b hlt fun e => hok.2 e.symm), ?_, ?_⟩
    · have := (ho.lt m e.symm).1; omega
    · refine (T5.out.later hb).comp (G := fun k => (Value.slice A1 l.length k2).ownBlock = some k) ⟨hg.os, hg.tape, hg.output, hg.size, fun k hk hn => hg.block k hk fun e => hn e.symm⟩ fun k hk => .inr (ho.lt k hk).1
    · have hkx : wx.heap[N2]? = some (.cells #[.int .i64 x.t, .int .i64 x.c, .int .i64 x.v] 87 (0, 0)) := (hb.block N2 (lt_of_blk HK5.out)).trans HK5.out
      refine (hg.block N2 (lt_of_blk hkx) fun e => ?_).trans hkx
      obtain ⟨cs, h9⟩ := own_tag ho e.symm
      exact tag_ne hkx h9 (by decide) rfl
  clear HP5 HY5 HK5 T5
  go_region_law (go_loud (refine step_app rfl (.tmp 60) (.tmp 63) 131 rfl w.heap.size 3 1 8 i0 (.int .i64 0) Tryz.underlying131 hi hz0 hz1 hz2 rfl (by decide) (.slice A1 l.length k2) l.length (iV l) rfl (HQ5.out _ (by repeat' (first | exact Below.refl _ _ | refine Below.drew ?_ | refine Below.alloc ?_ (by first | omega | (simp <;> omega)) _))) _ (some ⟨w5.heap.size, 0, none⟩) 1 1 (iV [x.v]) rfl (by exact Rd.new w5 #[.int .i64 x.v] 1 1 3 rfl) (iV_one _) (by unfold maxLen; omega) (by omega) (by simp; omega) ?_; intro v7 w7 ho7 hg7; have hG := HG5.out _ w7 (by repeat' (first | exact Below.refl _ _ | refine Below.drew ?_ | refine Below.alloc ?_ (by first | omega | (simp <;> omega)) _)) hg7; rw [← iV_app] at ho7; obtain ⟨A7, k7, hv7, _, _⟩ := own_cap ho7; subst hv7; have f47 := hG.1.fz 4; have hl7 := hG.1.lt; have c47 := hG.1.c4; have hS : MX (w7.setCell ⟨m, 4, none⟩ (.slice A7 (l.length + 1) k7)) (okN ok w.heap.size) m { s with l := l ++ [x.v], ss := ls } (A7, k7) (A4, k4) r := (by have h9 := hG.1.setB (ok' := okN ok w.heap.size) (l := l ++ [x.v]) (b' := (A7, k7)) (fun b hb => hb.1) (okN_no HX.out.no hml) (Ro.of_own (by rw [List.length_append]; exact ho7) okN_new); rw [List.length_append] at h9; exact h9); have T8 : Hid (Mo ok m { s with l := l ++ [x.v], ss := ls } w (w7.setCell ⟨m, 4, none⟩ (.slice A7 (l.length + 1) k7))) := ⟨⟨_, _, _, hS⟩, hG.2.1.set (.inl rfl) _⟩; have hK8 : (w7.setCell ⟨m, 4, none⟩ (.slice A7 (l.length + 1) k7)).heap[N2]? = some (.cells #[.int .i64 x.t, .int .i64 x.c, .int .i64 x.v] 87 (0, 0)) := (Below.heap_setCell _ _ _ _ (by show N2 ≠ m; omega)).trans hG.2.2; have HK8 := Lib.hid hK8; clear ho7 hg7 hG hS hK8 c4 f4))
  all_goals
    have g0 := cell_of_row _ N2 0 _ _ _ HK8.out
    have g1 := cell_of_row _ N2 1 _ _ _ HK8.out
    simp only [List.getElem?_toArray, List.getElem?_cons_succ, List.getElem?_cons_zero] at g0 g1
    have hgs := lt_of_blk HK8.out
    clear HK8 c47 f47 hl7 HG5 HQ5 g2 HX
    generalize w7.setCell ⟨m, 4, none⟩ (.slice A7 (l.length + 1) k7) = w8 at *
    go_wp2_with fail
    go_region
    all_goals
      go_wp2_with fail
      refine bodyPost_ret (results_tmp4 rfl _ _ _) rfl ?_
      exact ⟨some ⟨_, 0, none⟩, 1, rfl, (RdK.one _ ⟨x.t, x.c, 0, true, false⟩ _ (by simp)).keep (fun _ _ h => rfl), (T8.out.later (below_al _ _)).draws rfl rfl rfl rfl⟩
theorem mrecv_any (h : MD w ok m s) (hl : s.l.length ≤ 1000) (hs : s.ss.length ≤ 1000) : Calls Tryz.prog 28 #[.pointer (some ⟨m, 0, none⟩)] w (MrR ok m (rc s) w) := by
  cases h1 : s.l with
  | nil =>
    cases h2 : s.ss with
    | nil =>
      have e : rc s = (s, 0, false, s.cl, []) := by unfold rc; rw [h1, h2]
      rw [e]
      exact mrecv_none h h1 h2
    | cons x r =>
      have e : rc s = ({ s with ss := r }, x.v, true, true, [⟨x.t, x.c, 0, true, false⟩]) := by unfold rc; rw [h1, h2]
      rw [e]
      rw [h2] at hs
      exact mrecv_hand h h1 h2 (by simp only [List.length_cons] at hs; omega)
  | cons v l =>
    rw [h1] at hl
    cases h2 : s.ss with
    | nil =>
      have e : rc s = ({ s with l := l }, v, true, true, []) := by unfold rc; rw [h1, h2]
      rw [e]
      exact mrecv_val h h1 h2 (by simp only [List.length_cons] at hl; omega)
    | cons x r =>
      have e : rc s = ({ s with l := l ++ [x.v], ss := r }, v, true, true, [⟨x.t, x.c, 0, true, false⟩]) := by unfold rc; rw [h1, h2]
      rw [e]
      rw [h2] at hs
      exact mrecv_both h h1 h2 (by simp only [List.length_cons] at hl; omega) (by simp only [List.length_cons] at hs; omega)
theorem mrecv_nil (w : World) : Calls Tryz.prog 28 #[.pointer none] w fun e w' => e = .returned (.tuple #[.int .i64 0, .bool false, .bool false, .slice none 0 0]) ∧ w = w' := by
  go_enter Tryz.func28, Tryz.ntmps28
  go_wp2
  refine bodyPost_ret (results_tmp4 rfl _ _ _) rfl ?_
  exact ⟨rfl, rfl⟩
end
end Go.Proofs.YtmadcnpkaijllaaGreat.Ch
