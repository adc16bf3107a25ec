/- The document's own channel: send, Send, Put. Conditions: each theorem's own premises. -/
import Derived.Test.YtmcacmbllpphiaaMd
namespace Go.Proofs.Ytmcacmbllpphiaa
open Go.RowKit
set_option linter.unusedVariables false

theorem infI : (Try.prog.info? 3).map (fun i => (i.zero, i.size, i.bytes)) = some (some (.int .i64 0), 1, 8) := by kernel_rfl
def MsR (ok : Nat → Prop) (m : Nat) (g : CS × List Wk × Bool) (w : World) (e : Ending) (w' : World) : Prop :=
  ∃ A cap, e = .returned (.tuple #[.bool g.2.2, .slice A g.2.1.length cap]) ∧ RdK w' A g.2.1.length g.2.1 ∧ Mo ok m g.1 w w'
theorem flW_cons (x : Wt) (l : List Wt) : flW (x :: l) = wV x ++ flW l := rfl
/-- The first one, and the rest. -/
theorem Ro.cut {w : World} {ok : Nat → Prop} {a : Option Addr} {c s : Nat} {f xs : List Value} {n : Nat} (h : Ro w ok a (n + 1) c s (f ++ xs)) (hf : f.length = s) : ∃ bk off, a = some ⟨bk, off, none⟩ ∧ bk < w.heap.size ∧ (∀ j u, f[j]? = some u → w.cell? ⟨bk, off + j, none⟩ = some u) ∧
    ((n = 0 ∧ c = 1) ∨ ∃ cp, c = cp + 2 ∧ Ro w ok (some ⟨bk, off + s, none⟩) n (cp + 1) s xs) := by
  obtain ⟨h1, h2, h3, h4⟩ := h
  obtain ⟨bk, off, e, hl, ho, hc⟩ := h4 (by omega)
  refine ⟨bk, off, e, hl, fun j u hu => ?_, ?_⟩
  · have hj : j < f.length := (List.getElem?_eq_some_iff.1 hu).1
    exact hc j u (by rw [List.getElem?_append_left hj]; exact hu)
  · by_cases h0 : c = 1
    · exact .inl ⟨by omega, h0⟩
    · refine .inr ⟨c - 2, by omega, by omega, by omega, ?_, fun _ => ⟨bk, off + s, rfl, hl, ho, fun j u hu => ?_⟩⟩
      · rw [List.length_append, hf, Nat.add_mul] at h3; omega
      · rw [Nat.add_assoc]
        exact hc (s + j) u (by rw [List.getElem?_append_right (by omega), hf, Nat.add_sub_cancel_left]; exact hu)
theorem okN_new {ok : Nat → Prop} {N : Nat} : ∀ b, N ≤ b → okN ok N b := fun b h => .inr h
theorem MX.next {w w1 : World} {ok : Nat → Prop} {m : Nat} {s : CS} {b q r : Option Addr × Nat} (h : MX w ok m s b q r) (hb : Below w.heap.size w w1) : MX w1 (okN ok w.heap.size) m s b q r :=
  (h.later hb).mono (fun b _ ho => .inl ho) (fun hn => by rcases hn with hn | hn; exact h.no hn; have := h.lt; omega)
section
variable {w : World} {ok : Nat → Prop} {m : Nat} {s : CS}
set_option maxRecDepth 100000 in
set_option maxHeartbeats 4000000 in
theorem msend_one {x : Wt} {b q r : Option Addr × Nat} (v : Int) (hx : MX w ok m s b q r) (hr : s.rs = [x]) {bk off : Nat} (e6 : r.1 = some ⟨bk, off, none⟩) (hbl : bk < w.heap.size) (hc : ∀ j u, (wV x)[j]? = some u → w.cell? ⟨bk, off + j, none⟩ = some u) (hcp : r.2 = 1) : Calls Try.prog 63 #[.pointer (some ⟨m, 0, none⟩), .int .i64 v] w (MsR ok m ({ s with rs := [] }, [⟨x.t, x.c, v, true, false⟩], true) w) := by
  obtain ⟨i0, hi, hz0, hz1, hz2⟩ := info_parts inf30
  have c6 := hx.c6
  have f6 := hx.fz 6
  rw [hr, e6, hcp] at c6
  simp only [List.length_cons, List.length_nil] at c6
  have d0 : w.cell? ⟨bk, off, none⟩ = some (.int .i64 x.t) := hc 0 _ rfl
  have d1 : w.cell? ⟨bk, off + 1, none⟩ = some (.int .i64 x.c) := hc 1 _ rfl
  have d2 : w.cell? ⟨bk, off + 2, none⟩ = some (.int .i64 x.v) := hc 2 _ rfl
  have HX := Lib.hid hx
  have hml := hx.lt
  clear hx hc e6 hr hcp
  go_enter Try.func63, Try.ntmps63
  go_wp2_with (at_builtin; go_loud (refine app_wp rfl (.tmp 20) (.tmp 25) 66 rfl w.heap.size 35 3 24 i0 (.agg #[.int .i64 0, .int .i64 0, .int .i64 0]) Try.underlying66 hi hz0 hz1 hz2 rfl (by decide) (.slice (some ⟨w.heap.size + 1, 0, none⟩) 0 0) 0 [] rfl (own_empty _ 35 3 w.heap.size _ (by simp) (by simp)) _ (some ⟨bk, off, none⟩) 0 0 (flW []) rfl (Rd.nil _ w.heap.size _ _) (flW_one _) (by unfold maxLen; omega) (by omega) (by simp <;> omega) ?_; intro v1 w1 ho1 hg1; rw [Nat.zero_add, List.nil_append] at ho1; have hb1 := below_app (two_al w (.cells #[.int .i64 x.t, .int .i64 x.c, .int .i64 x.v] 35) (.cells #[] 35)) (Nat.le_refl _) (by simp <;> omega) (own_empty (w.alloc (.cells #[.int .i64 x.t, .int .i64 x.c, .int .i64 x.v] 35)) 35 3 w.heap.size (w.heap.size + 1) (by simp) (by simp)) hg1; obtain ⟨A1, k1, hv1, _, _⟩ := own_cap ho1; subst hv1; have hx1 := HX.out.next hb1; have c61 := hx1.c6; have f61 := hx1.fz 6; have hl1 := hx1.lt; have HS := Lib.hid (hx1.setR (l := []) (r' := (A1, k1)) (Ro.of_own ho1 okN_new)); have hk1 : w1.heap[w.heap.size]? = some (.cells #[.int .i64 x.t, .int .i64 x.c, .int .i64 x.v] 35 (0, 0)) := (hg1.block w.heap.size (by simp; omega) (by simp [Value.ownBlock])).trans ((below_al (w.alloc (.cells #[.int .i64 x.t, .int .i64 x.c, .int .i64 x.v] 35)) (.cells #[] 35)).block w.heap.size (by simp) |>.trans (heap_alloc_new _ _)); have HB1 := Lib.hid hb1; clear ho1 hg1 hb1 hx1))
  have hk2 : (w1.setCell ⟨m, 6, none⟩ (.slice A1 0 k1)).heap[w.heap.size]? = some (.cells #[.int .i64 x.t, .int .i64 x.c, .int .i64 x.v] 35 (0, 0)) := (Below.heap_setCell _ _ _ _ (by show w.heap.size ≠ m; omega)).trans hk1
  have T1 : Hid (Mo ok m { s with rs := [] } w (w1.setCell ⟨m, 6, none⟩ (.slice A1 0 k1))) := ⟨⟨_, _, _, HS.out⟩, (Tn.of_below (F := fun k => k = m) HB1.out).set (.inl rfl) _⟩
  have g0 := cell_of_row _ w.heap.size 0 _ _ _ hk2
  have g1 := cell_of_row _ w.heap.size 1 _ _ _ hk2
  simp only [List.getElem?_toArray, List.getElem?_cons_succ, List.getElem?_cons_zero] at g0 g1
  have hgs := lt_of_blk hk2
  clear hk1 hk2 c61 f61 hl1 HS HB1 HX d0 d1 d2 c6 f6
  generalize w1.setCell ⟨m, 6, none⟩ (.slice A1 0 k1) = w2 at *
  go_region
  all_goals
    go_wp2_with fail
    go_ret2
    exact ⟨some ⟨_, 0, none⟩, 1, rfl, (RdK.one _ ⟨x.t, x.c, v, true, false⟩ _ (by simp)).keep (fun _ _ h => rfl), (T1.out.later (below_al _ _)).draws rfl rfl rfl rfl⟩
set_option maxRecDepth 100000 in
set_option maxHeartbeats 4000000 in
theorem msend_more {x : Wt} {rl : List Wt} {b q r : Option Addr × Nat} (v : Int) (hx : MX w ok m s b q r) (hr : s.rs = x :: rl) (hn : rl.length ≤ 1000) {bk off cp : Nat} (e6 : r.1 = some ⟨bk, off, none⟩) (hbl : bk < w.heap.size) (hc : ∀ j u, (wV x)[j]? = some u → w.cell? ⟨bk, off + j, none⟩ = some u) (hcp : r.2 = cp + 2) (hR : Ro w ok (some ⟨bk, off + 3, none⟩) rl.length (cp + 1) 3 (flW rl)) : Calls Try.prog 63 #[.pointer (some ⟨m, 0, none⟩), .int .i64 v] w (MsR ok m ({ s with rs := rl }, [⟨x.t, x.c, v, true, false⟩], true) w) := by
  obtain ⟨i0, hi, hz0, hz1, hz2⟩ := info_parts inf30
  have c6 := hx.c6
  have f6 := hx.fz 6
  rw [hr, e6, hcp] at c6
  simp only [List.length_cons] at c6
  have d0 : w.cell? ⟨bk, off, none⟩ = some (.int .i64 x.t) := hc 0 _ rfl
  have d1 : w.cell? ⟨bk, off + 1, none⟩ = some (.int .i64 x.c) := hc 1 _ rfl
  have d2 : w.cell? ⟨bk, off + 2, none⟩ = some (.int .i64 x.v) := hc 2 _ rfl
  have HX := Lib.hid hx
  have hml := hx.lt
  have HRr := Lib.hid hR
  clear hR
  clear hx hc e6 hr hcp
  go_enter Try.func63, Try.ntmps63
  go_wp2_with (at_builtin; go_loud (refine app_wp rfl (.tmp 20) (.tmp 25) 66 rfl w.heap.size 35 3 24 i0 (.agg #[.int .i64 0, .int .i64 0, .int .i64 0]) Try.underlying66 hi hz0 hz1 hz2 rfl (by decide) (.slice (some ⟨w.heap.size + 1, 0, none⟩) 0 0) 0 [] rfl (own_empty _ 35 3 w.heap.size _ (by simp) (by simp)) _ (some ⟨bk, off + 3, none⟩) rl.length (cp + 1) (flW rl) rfl ((HRr.out.later (two_al w _ _)).rd) (flW_one _) (by unfold maxLen; omega) (by omega) (by simp <;> omega) ?_; intro v1 w1 ho1 hg1; rw [Nat.zero_add, List.nil_append] at ho1; have hb1 := below_app (two_al w (.cells #[.int .i64 x.t, .int .i64 x.c, .int .i64 x.v] 35) (.cells #[] 35)) (Nat.le_refl _) (by simp <;> omega) (own_empty (w.alloc (.cells #[.int .i64 x.t, .int .i64 x.c, .int .i64 x.v] 35)) 35 3 w.heap.size (w.heap.size + 1) (by simp) (by simp)) hg1; obtain ⟨A1, k1, hv1, _, _⟩ := own_cap ho1; subst hv1; have hx1 := HX.out.next hb1; have c61 := hx1.c6; have f61 := hx1.fz 6; have hl1 := hx1.lt; have HS := Lib.hid (hx1.setR (l := rl) (r' := (A1, k1)) (Ro.of_own ho1 okN_new)); have hk1 : w1.heap[w.heap.size]? = some (.cells #[.int .i64 x.t, .int .i64 x.c, .int .i64 x.v] 35 (0, 0)) := (hg1.block w.heap.size (by simp; omega) (by simp [Value.ownBlock])).trans ((below_al (w.alloc (.cells #[.int .i64 x.t, .int .i64 x.c, .int .i64 x.v] 35)) (.cells #[] 35)).block w.heap.size (by simp) |>.trans (heap_alloc_new _ _)); have HB1 := Lib.hid hb1; clear ho1 hg1 hb1 hx1))
  have hk2 : (w1.setCell ⟨m, 6, none⟩ (.slice A1 rl.length k1)).heap[w.heap.size]? = some (.cells #[.int .i64 x.t, .int .i64 x.c, .int .i64 x.v] 35 (0, 0)) := (Below.heap_setCell _ _ _ _ (by show w.heap.size ≠ m; omega)).trans hk1
  have T1 : Hid (Mo ok m { s with rs := rl } w (w1.setCell ⟨m, 6, none⟩ (.slice A1 rl.length k1))) := ⟨⟨_, _, _, HS.out⟩, (Tn.of_below (F := fun k => k = m) HB1.out).set (.inl rfl) _⟩
  have g0 := cell_of_row _ w.heap.size 0 _ _ _ hk2
  have g1 := cell_of_row _ w.heap.size 1 _ _ _ hk2
  simp only [List.getElem?_toArray, List.getElem?_cons_succ, List.getElem?_cons_zero] at g0 g1
  have hgs := lt_of_blk hk2
  clear hk1 hk2 c61 f61 hl1 HS HB1 HX d0 d1 d2 c6 f6
  generalize w1.setCell ⟨m, 6, none⟩ (.slice A1 rl.length k1) = w2 at *
  go_region
  all_goals
    go_wp2_with fail
    go_ret2
    exact ⟨some ⟨_, 0, none⟩, 1, rfl, (RdK.one _ ⟨x.t, x.c, v, true, false⟩ _ (by simp)).keep (fun _ _ h => rfl), (T1.out.later (below_al _ _)).draws rfl rfl rfl rfl⟩
set_option maxRecDepth 100000 in
theorem msend_full (v : Int) (h : MD w ok m s) (hr : s.rs = []) (hl : ¬ s.l.length < s.sz) (hz : s.sz ≤ 64) (hn : s.l.length ≤ 1000) : Calls Try.prog 63 #[.pointer (some ⟨m, 0, none⟩), .int .i64 v] w (MsR ok m (s, [], false) w) := by
  have HM := Lib.hid (Mo.same h)
  obtain ⟨b, q, r, hx⟩ := h
  have c0 := hx.c0
  have c4 := hx.c4
  have c6 := hx.c6
  rw [hr] at c6
  simp only [List.length_nil] at c6
  have p1 : ¬ (s.l.length : Int) < (s.sz : Int) := by omega
  have p2 : (s.l.length : Int) ≤ 1000 := by omega
  clear hx hr hl
  go_enter Try.func63, Try.ntmps63
  go_wp2_with fail
  go_quiet (fail)
  go_wp2_with fail
  go_ret2
  exact ⟨none, 0, rfl, RdK.nil _ _, HM.out.draws rfl rfl rfl rfl⟩
set_option maxRecDepth 100000 in
set_option maxHeartbeats 4000000 in
theorem msend_room (v : Int) (h : MD w ok m s) (hr : s.rs = []) (hl : s.l.length < s.sz) (hz : s.sz ≤ 64) : Calls Try.prog 63 #[.pointer (some ⟨m, 0, none⟩), .int .i64 v] w (MsR ok m ({ s with l := s.l ++ [v] }, [], true) w) := by
  obtain ⟨b, q, r, hx⟩ := h
  obtain ⟨i0, hi, hz0, hz1, hz2⟩ := info_parts infI
  have c0 := hx.c0
  have c4 := hx.c4
  have c6 := hx.c6
  rw [hr] at c6
  simp only [List.length_nil] at c6
  have p1 : (s.l.length : Int) < (s.sz : Int) := by omega
  have p2 : (s.l.length : Int) ≤ 64 := by omega
  have p3 : s.l.length ≤ 64 := by omega
  have HX := Lib.hid hx
  have HX2 : Hid (∀ n, MX (w.drewN n) ok m s b q r) := fun n => hx.later ⟨rfl, rfl, rfl, Nat.le_refl _, fun _ _ => rfl⟩
  have HB2 : Hid (∀ n, Below w.heap.size w (w.drewN n)) := fun n => below_drewN (Below.refl _ _) n
  clear hx hr hl
  go_enter Try.func63, Try.ntmps63
  go_wp2_with fail
  go_quiet (fail)
  have hx2 := HX2.out nq
  have hb2 := HB2.out nq
  have hbs := hb2.size
  have HX3 := Lib.hid hx2
  clear c0 c4 c6 HX2 HB2
  generalize w.drewN nq = w2 at *
  have c4 := hx2.c4
  have f4 := hx2.fz 4
  have hml := hx2.lt
  clear hx2
  go_wp2_with (first
    | (at_builtin; (refine app_wp rfl (.tmp 47) (.tmp 51) 22 rfl w.heap.size 3 1 8 i0 (.int .i64 0) Try.underlying22 hi hz0 hz1 hz2 rfl (by decide) (.slice (some ⟨w2.heap.size, 0, none⟩) 0 0) 0 [] rfl (own_empty _ 3 1 w.heap.size _ rfl hbs) _ b.1 s.l.length b.2 (iV s.l) rfl ((HX3.out.rb.later (below_al w2 _)).rd) (iV_one _) (by unfold maxLen; omega) (by omega) (by simp; omega) ?_); intro v1 w3 ho1 hg1; rw [Nat.zero_add, List.nil_append] at ho1; have hb3 := below_app (hb2.alloc hbs (.cells #[] 3)) (Nat.le_refl _) (by simp; omega) (own_empty w2 3 1 w.heap.size w2.heap.size rfl hbs) hg1; have HO1 := Lib.hid ho1; have HB3 := Lib.hid hb3; have hbs3 := hb3.size; clear ho1 hg1 hb3)
    | (at_builtin; go_loud (refine app_wp rfl (.tmp 52) (.tmp 54) 22 rfl w.heap.size 3 1 8 i0 (.int .i64 0) Try.underlying22 hi hz0 hz1 hz2 rfl (by decide) v1 s.l.length (iV s.l) rfl (HO1.out.alloc _) _ (some ⟨w3.heap.size, 0, none⟩) 1 1 (iV [v]) rfl (Rd.new w3 #[.int .i64 v] 1 1 3 rfl) (iV_one _) (by unfold maxLen; omega) (by omega) (by simp; omega) ?_; intro v2 w4 ho2 hg2; have hb4 := below_app (HB3.out.alloc hbs3 (.cells #[.int .i64 v] 3)) (Nat.le_refl _) (by simp; omega) (HO1.out.alloc _) hg2; rw [← iV_app] at ho2; obtain ⟨A2, k2, hv2, _, _⟩ := own_cap ho2; subst hv2; have hx4 := HX.out.next hb4; have HS : Hid (MX (w4.setCell ⟨m, 4, none⟩ (.slice A2 (s.l.length + 1) k2)) (okN ok w.heap.size) m { s with l := s.l ++ [v] } (A2, k2) q r) := (by have h9 := hx4.setB (l := s.l ++ [v]) (b' := (A2, k2)) (Ro.of_own (by rw [List.length_append]; exact ho2) okN_new); rw [List.length_append] at h9; exact h9); have c4 := hx4.c4; have f4 := hx4.fz 4; have hl4 := hx4.lt; have HB4 := Lib.hid hb4; clear ho2 hg2 hb4 hx4 HO1 HB3)))
  have T1 : Hid (Mo ok m { s with l := s.l ++ [v] } w (w4.setCell ⟨m, 4, none⟩ (.slice A2 (s.l.length + 1) k2))) := ⟨⟨_, _, _, HS.out⟩, (Tn.of_below (F := fun k => k = m) HB4.out).set (.inl rfl) _⟩
  clear HS HB4 c4 f4
  generalize w4.setCell ⟨m, 4, none⟩ (.slice A2 (s.l.length + 1) k2) = w5 at *
  go_ret2
  exact ⟨none, 0, rfl, RdK.nil _ _, T1.out⟩
theorem msend_any (v : Int) (h : MD w ok m s) (hz : s.sz ≤ 64) (hl : s.l.length ≤ 1000) (hr : s.rs.length ≤ 1000) : Calls Try.prog 63 #[.pointer (some ⟨m, 0, none⟩), .int .i64 v] w (MsR ok m (gv s v) w) := by
  cases hrs : s.rs with
  | nil =>
    by_cases h0 : s.l.length < s.sz
    · have e : gv s v = ({ s with l := s.l ++ [v] }, [], true) := by unfold gv; rw [hrs]; simp only; rw [if_pos h0]
      rw [e]
      exact msend_room v h hrs h0 hz
    · have e : gv s v = (s, [], false) := by unfold gv; rw [hrs]; simp only; rw [if_neg h0]
      rw [e]
      exact msend_full v h hrs h0 hz hl
  | cons x rl =>
    have e : gv s v = ({ s with rs := rl }, [⟨x.t, x.c, v, true, false⟩], true) := by unfold gv; rw [hrs]
    rw [e]
    obtain ⟨b, q, r, hx⟩ := h
    have hrr := hx.rr
    rw [hrs] at hrr hr
    rw [List.length_cons] at hrr hr
    rw [flW_cons] at hrr
    obtain ⟨bk, off, e6, hbl, hc, hcap⟩ := hrr.cut rfl
    rcases hcap with ⟨h0, h1⟩ | ⟨cp, h1, hR⟩
    · obtain rfl := List.eq_nil_of_length_eq_zero h0
      exact msend_one v hx hrs e6 hbl hc h1
    · exact msend_more v hx hrs (by omega) e6 hbl hc h1 hR
/-! Send, Put. -/
theorem MX.k1 {b q r : Option Addr × Nat} {k : Nat} (h : MX w ok m s b q r) (hk : s.kd = k) : w.cell? ⟨m, 1, none⟩ = some (.bool (k == 1)) := by rw [← hk]; exact h.c1
theorem MX.k2 {b q r : Option Addr × Nat} {k : Nat} (h : MX w ok m s b q r) (hk : s.kd = k) : w.cell? ⟨m, 2, none⟩ = some (.bool (k == 2)) := by rw [← hk]; exact h.c2
theorem MX.k3 {b q r : Option Addr × Nat} {k : Bool} (h : MX w ok m s b q r) (hk : s.cl = k) : w.cell? ⟨m, 3, none⟩ = some (.bool k) := by rw [← hk]; exact h.c3
theorem mSend_kind (v : Int) (h : MD w ok m s) (hk : s.kd ≠ 0) (hk2 : s.kd ≤ 2) : Calls Try.prog 31 #[.pointer (some ⟨m, 0, none⟩), .int .i64 v] w fun e w' => e = .returned (.tuple #[.bool false, .slice none 0 0, .int .i64 7]) ∧ w = w' := by
  obtain ⟨b, q, r, hx⟩ := h
  by_cases h1 : s.kd = 1
  · have c1 : w.cell? ⟨m, 1, none⟩ = some (.bool true) := hx.k1 h1
    clear hx hk hk2
    go_enter Try.func31, Try.ntmps31
    go_wp2
    go_ret3
    exact ⟨rfl, rfl⟩
  · have h2 : s.kd = 2 := by omega
    have c1 : w.cell? ⟨m, 1, none⟩ = some (.bool false) := hx.k1 h2
    have c2 : w.cell? ⟨m, 2, none⟩ = some (.bool true) := hx.k2 h2
    clear hx hk hk2 h1
    go_enter Try.func31, Try.ntmps31
    go_wp2
    go_ret3
    exact ⟨rfl, rfl⟩
theorem mSend_closed (v : Int) (h : MD w ok m s) (hk : s.kd = 0) (hc : s.cl = true) : Calls Try.prog 31 #[.pointer (some ⟨m, 0, none⟩), .int .i64 v] w fun e w' => e = .returned (.tuple #[.bool false, .slice none 0 0, .int .i64 5]) ∧ w = w' := by
  obtain ⟨b, q, r, hx⟩ := h
  have c1 : w.cell? ⟨m, 1, none⟩ = some (.bool false) := hx.k1 hk
  have c2 : w.cell? ⟨m, 2, none⟩ = some (.bool false) := hx.k2 hk
  have c3 := hx.k3 hc
  clear hx
  go_enter Try.func31, Try.ntmps31
  go_wp2
  go_ret3
  exact ⟨rfl, rfl⟩
def MSnR (ok : Nat → Prop) (m : Nat) (g : CS × List Wk × Bool) (w : World) (e : Ending) (w' : World) : Prop :=
  ∃ A cap, e = .returned (.tuple #[.bool g.2.2, .slice A g.2.1.length cap, .int .i64 0]) ∧ RdK w' A g.2.1.length g.2.1 ∧ Mo ok m g.1 w w'
theorem mSend_go (v : Int) (h : MD w ok m s) (hk : s.kd = 0) (hc : s.cl = false) (hz : s.sz ≤ 64) (hl : s.l.length ≤ 1000) (hr : s.rs.length ≤ 1000) : Calls Try.prog 31 #[.pointer (some ⟨m, 0, none⟩), .int .i64 v] w (MSnR ok m (gv s v) w) := by
  have HC := Lib.hid (msend_any v h hz hl hr)
  obtain ⟨b, q, r, hx⟩ := h
  have c1 : w.cell? ⟨m, 1, none⟩ = some (.bool false) := hx.k1 hk
  have c2 : w.cell? ⟨m, 2, none⟩ = some (.bool false) := hx.k2 hk
  have c3 := hx.k3 hc
  clear hx
  generalize gv s v = g at *
  go_enter Try.func31, Try.ntmps31
  go_wp2_with fail
  refine HC.out.mono ?_
  rintro e w' ⟨A, cap, rfl, hK, hG⟩
  have HP : Hid (RdK w' A g.2.1.length g.2.1 ∧ Mo ok m g.1 w w') := ⟨hK, hG⟩
  clear hK hG HC
  go_wp2
  go_ret3
  exact ⟨A, cap, rfl, HP.out.1, HP.out.2⟩
theorem mSend_nil (v : Int) (w : World) : Calls Try.prog 31 #[.pointer none, .int .i64 v] w fun e w' => e = .returned (.tuple #[.bool false, .slice none 0 0, .int .i64 0]) ∧ w = w' := by
  go_enter Try.func31, Try.ntmps31
  go_wp2
  go_ret3
  exact ⟨rfl, rfl⟩
theorem mPut_kind (v : Int) (h : MD w ok m s) (hk : s.kd ≠ 1) : Calls Try.prog 40 #[.pointer (some ⟨m, 0, none⟩), .int .i64 v] w fun e w' => e = .returned (.tuple #[.slice none 0 0, .bool false]) ∧ w = w' := by
  obtain ⟨b, q, r, hx⟩ := h
  have c1 : w.cell? ⟨m, 1, none⟩ = some (.bool false) := by have h9 := hx.c1; rw [show (s.kd == 1) = false by simpa using hk] at h9; exact h9
  clear hx
  go_enter Try.func40, Try.ntmps40
  go_wp2
  go_ret2
  exact ⟨rfl, rfl⟩
def MPtR (ok : Nat → Prop) (m : Nat) (g : CS × List Wk × Bool) (w : World) (e : Ending) (w' : World) : Prop :=
  ∃ A cap, e = .returned (.tuple #[.slice A g.2.1.length cap, .bool g.2.2]) ∧ RdK w' A g.2.1.length g.2.1 ∧ Mo ok m g.1 w w'
theorem mPut_go (v : Int) (h : MD w ok m s) (hk : s.kd = 1) (hz : s.sz ≤ 64) (hl : s.l.length ≤ 1000) (hr : s.rs.length ≤ 1000) : Calls Try.prog 40 #[.pointer (some ⟨m, 0, none⟩), .int .i64 v] w (MPtR ok m (gv s v) w) := by
  have HC := Lib.hid (msend_any v h hz hl hr)
  obtain ⟨b, q, r, hx⟩ := h
  have c1 : w.cell? ⟨m, 1, none⟩ = some (.bool true) := hx.k1 hk
  clear hx
  generalize gv s v = g at *
  go_enter Try.func40, Try.ntmps40
  go_wp2_with fail
  refine HC.out.mono ?_
  rintro e w' ⟨A, cap, rfl, hK, hG⟩
  have HP : Hid (RdK w' A g.2.1.length g.2.1 ∧ Mo ok m g.1 w w') := ⟨hK, hG⟩
  clear hK hG HC
  go_wp2
  go_ret2
  exact ⟨A, cap, rfl, HP.out.1, HP.out.2⟩
theorem mPut_nil (v : Int) (w : World) : Calls Try.prog 40 #[.pointer none, .int .i64 v] w fun e w' => e = .returned (.tuple #[.slice none 0 0, .bool false]) ∧ w = w' := by
  go_enter Try.func40, Try.ntmps40
  go_wp2
  go_ret2
  exact ⟨rfl, rfl⟩
end
end Go.Proofs.Ytmcacmbllpphiaa
