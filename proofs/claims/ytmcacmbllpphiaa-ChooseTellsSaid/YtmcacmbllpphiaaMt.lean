/- The document's own channel: Remove, NewTimed; two rows of who is woken, alike. Conditions: each theorem's own premises. -/
import Derived.Test.YtmcacmbllpphiaaMs
import Derived.Test.YtmcacmbllpphiaaRmv
import Derived.Test.YtmcacmbllpphiaaAll
import Derived.IntWalk
namespace Go.Proofs.Ytmcacmbllpphiaa
open Go.RowKit
set_option linter.unusedVariables false

def kpW (t : Int) (l : List Wt) : List Wt := l.filter fun x => !isT t x
theorem kpW_len (t : Int) (l : List Wt) : l.countP (isT t) + (kpW t l).length = l.length := by
  unfold kpW
  rw [← List.countP_eq_length_filter]
  have h := List.length_eq_countP_add_countP (p := isT t) (l := l)
  have e : (l.countP fun a => decide ¬ isT t a = true) = l.countP fun x => !isT t x := List.countP_congr fun a _ => by simp
  rw [e] at h
  exact h.symm
theorem kpW_snoc (t : Int) (l : List Wt) (x : Wt) : kpW t (l ++ [x]) = if isT t x = true then kpW t l else kpW t l ++ [x] := by
  unfold kpW
  rw [List.filter_append]
  cases h : isT t x <;> simp [h]
structure WOs (W : World) (t : Int) (l : List Wt) (v : Value) (w : World) : Prop where
  row : w.ownsRow W.heap.size 35 3 v (kpW t l).length (flW (kpW t l))
  bel : Below W.heap.size W w
set_option maxRecDepth 100000 in
set_option maxHeartbeats 4000000 in
theorem without_any {w : World} {A : Option Addr} {n c : Nat} {l : List Wt} (t : Int) (h : RdW w A n l) (hn : n ≤ 1000) : Calls Try.prog 73 #[.slice A n c, .int .i64 t] w fun e w' => ∃ A' c', e = .returned (.slice A' (kpW t l).length c') ∧ WOs w t l (.slice A' (kpW t l).length c') w' := by
  obtain ⟨i0, hi, hz0, hz1, hz2⟩ := info_parts inf30
  have H := Lib.hid h
  have b1 : (n : Int) ≤ 1000 := by omega
  have HS : Hid (WOs w t (l.take 0) (.slice none 0 0) w) := ⟨World.ownsRow_nil _ _ _ _, Below.refl _ _⟩
  clear h
  go_enter Try.func73, Try.ntmps73
  go_wp2_with fail
  go_loopw [5, 6] (fun v i wr => ∃ k : Nat, k ≤ n ∧ i = .int .i64 k ∧ Hid (WOs w t (l.take k) v wr)) (fun _ i _ => n - (intOf i).toNat)
  case atStart => exact ⟨0, by omega, rfl, HS⟩
  case round =>
    clear HS
    obtain ⟨k, hk, rfl, hS⟩ := hrel
    by_cases hlt : k < n
    · have k1 : (k : Int) < (n : Int) := by omega
      have k2 : 0 ≤ (k : Int) := by omega
      have hkl : k < l.length := by rw [H.out.1]; exact hlt
      have hx : l[k]? = some (l[k]'hkl) := List.getElem?_eq_getElem hkl
      have HT : Hid (l.take (k + 1) = l.take k ++ [l[k]'hkl]) := List.take_succ_eq_append_getElem hkl
      obtain ⟨bb, o, e0, hb, hc⟩ := H.out.cells (by omega)
      subst e0
      obtain ⟨c0, c1, c2⟩ := hc k _ hx
      have hbk := hS.out.bel.block bb hb
      have d0 := (cell_blk hbk _).trans c0
      have d1 := (cell_blk hbk _).trans c1
      have d2 := (cell_blk hbk _).trans c2
      generalize l[k]'hkl = x at *
      have hsz := hS.out.bel.size
      clear hc hx hkl c0 c1 c2 hbk
      by_cases d : x.t = t
      · have HS2 : Hid (WOs w t (l.take (k + 1)) u5 wr) := by
          have e9 : kpW t (l.take (k + 1)) = kpW t (l.take k) := by rw [HT.out, kpW_snoc, if_pos (by simp [isT, d])]
          refine ⟨?_, hS.out.bel⟩
          rw [e9]; exact hS.out.row
        clear hS HT
        go_wp2_with fail
        go_roundw
        case rel => exact ⟨k + 1, by omega, by go_num, HS2⟩
        case measure => simp [intOf]; omega
      · have HE : Hid (kpW t (l.take (k + 1)) = kpW t (l.take k) ++ [x]) := by
          show _ = _
          rw [HT.out, kpW_snoc, if_neg (by simp [isT, d])]
        have hle : (kpW t (l.take k)).length ≤ 1000 := by
          have h1 := kpW_len t (l.take k)
          rw [List.length_take] at h1
          omega
        have d9 : ¬ x.t = t := d
        clear HT
        go_wp2_with (at_builtin; go_loud (refine app_wp rfl (.tmp 20) (.tmp 25) 66 rfl w.heap.size 35 3 24 i0 (.agg #[.int .i64 0, .int .i64 0, .int .i64 0]) Try.underlying66 hi hz0 hz1 hz2 rfl (by decide) u5 (kpW t (l.take k)).length (flW (kpW t (l.take k))) rfl (hS.out.row.alloc _) _ (some ⟨wr.heap.size, 0, none⟩) 1 1 (flW [x]) rfl (Rd.one wr x _ rfl) (flW_one _) (by unfold maxLen; omega) (by omega) (by simp; omega) ?_; intro v1 w1 ho1 hg1; have hb1 := below_app (hS.out.bel.alloc hsz _) (Nat.le_refl _) (by simp; omega) (hS.out.row.alloc _) hg1; have HS1 : Hid (WOs w t (l.take (k + 1)) v1 w1) := ⟨by rw [HE.out, List.length_append, flW_app]; exact ho1, hb1⟩; clear ho1 hg1 hb1))
        go_roundw
        case rel => exact ⟨k + 1, by omega, by go_num, HS1⟩
        case measure => simp [intOf]; omega
    · obtain rfl : k = n := by omega
      have HS9 : Hid (WOs w t l u5 wr) := by
        have h9 := hS.out
        rw [List.take_of_length_le (by rw [H.out.1]; exact Nat.le_refl _)] at h9
        exact h9
      obtain ⟨A9, c9, hv, _, _⟩ := own_cap HS9.out.row
      subst hv
      clear hS
      go_wp2_with fail
      go_ret
      exact ⟨A9, c9, rfl, HS9.out⟩
section
variable {w : World} {ok : Nat → Prop} {m : Nat} {s : CS}
theorem okN_n2 {ok : Nat → Prop} {N m : Nat} (h : ¬ ok m) (hm : m < N) : ¬ okN ok N m := fun hn => by rcases hn with hn | hn; exact h hn; omega
set_option maxRecDepth 100000 in
set_option maxHeartbeats 8000000 in
theorem mremove (t : Int) (h : MD w ok m s) (hn : s.ss.length ≤ 1000) (hn2 : s.rs.length ≤ 1000) : Calls Try.prog 38 #[.pointer (some ⟨m, 0, none⟩), .int .i64 t] w fun e w' => e = .returned (.int .i64 ((s.ss.countP (isT t) : Int) + (s.rs.countP (isT t) : Int))) ∧ Mo ok m (gone s t) w w' := by
  obtain ⟨b, q, r, hx⟩ := h
  have hml := hx.lt
  have c5 := hx.c5
  have c6 := hx.c6
  have h1 := kpW_len t s.ss
  have h2 := kpW_len t s.rs
  have HX := Lib.hid hx
  have e0 : (s.ss.length : Int) ≤ 1000 := by omega
  have e1 : (s.rs.length : Int) ≤ 1000 := by omega
  have e2 : IntKind.i64.wrap ((s.ss.length : Int) + (s.rs.length : Int)) = (s.ss.length : Int) + (s.rs.length : Int) := IntWalk.i64_in _ (by omega)
  have HR : Hid (∀ (w1 : World), Below w.heap.size w w1 → Calls Try.prog 73 #[.slice q.1 s.ss.length q.2, .int .i64 t] w1 fun e w' => ∃ A c, e = .returned (.slice A (kpW t s.ss).length c) ∧ Hid (Ro w' (fun b => w.heap.size ≤ b) A (kpW t s.ss).length c 3 (flW (kpW t s.ss)) ∧ Below w.heap.size w w') ∧ w'.cell? ⟨m, 6, none⟩ = some (.slice r.1 s.rs.length r.2)) := by
    intro w1 hb
    refine (without_any t ⟨rfl, (hx.rq.later hb).rd⟩ hn).mono ?_
    rintro e w' ⟨A, c, rfl, hw⟩
    have hb2 := hb.trans (hw.bel.mono hb.size)
    exact ⟨A, c, rfl, ⟨Ro.of_own hw.row fun b hb' => Nat.le_trans hb.size hb', hb2⟩, (cell_blk (hb2.block m hml) 6).trans c6⟩
  have HR2 : Hid (∀ (A0 : Option Addr) (n0 c0 : Nat) (xs : List Value) (wa w1 : World), Hid (Ro wa (fun b => w.heap.size ≤ b) A0 n0 c0 3 xs ∧ Below w.heap.size w wa) → Below wa.heap.size wa w1 → Calls Try.prog 73 #[.slice r.1 s.rs.length r.2, .int .i64 t] w1 fun e w' => ∃ A c, e = .returned (.slice A (kpW t s.rs).length c) ∧ Hid (Ro w' (fun b => w.heap.size ≤ b) A0 n0 c0 3 xs ∧ Ro w' (fun b => w.heap.size ≤ b) A (kpW t s.rs).length c 3 (flW (kpW t s.rs)) ∧ Below w.heap.size w w')) := by
    intro A0 n0 c0 xs wa w1 h hb
    have hbw := h.2.trans (hb.mono h.2.size)
    refine (without_any t ⟨rfl, (hx.rr.later hbw).rd⟩ hn2).mono ?_
    rintro e w' ⟨A, c, rfl, hw⟩
    exact ⟨A, c, rfl, (h.1.later hb).later hw.bel, Ro.of_own hw.row fun b hb' => Nat.le_trans hbw.size hb', hbw.trans (hw.bel.mono hbw.size)⟩
  have HQ : Hid (∀ (A1 A2 : Option Addr) (k1 k2 : Nat) (w7 : World), Hid (Ro w7 (fun b => w.heap.size ≤ b) A1 (kpW t s.ss).length k1 3 (flW (kpW t s.ss)) ∧ Ro w7 (fun b => w.heap.size ≤ b) A2 (kpW t s.rs).length k2 3 (flW (kpW t s.rs)) ∧ Below w.heap.size w w7) → MX ((w7.setCell ⟨m, 5, none⟩ (.slice A1 (kpW t s.ss).length k1)).setCell ⟨m, 6, none⟩ (.slice A2 (kpW t s.rs).length k2)) (okN ok w.heap.size) m (gone s t) b (A1, k1) (A2, k2) ∧ Mo ok m (gone s t) w ((w7.setCell ⟨m, 5, none⟩ (.slice A1 (kpW t s.ss).length k1)).setCell ⟨m, 6, none⟩ (.slice A2 (kpW t s.rs).length k2))) := by
    intro A1 A2 k1 k2 w7 h
    have hno := okN_n2 (N := w.heap.size) hx.no hml
    have h3 := (hx.later h.2.2).mono (ok' := okN ok w.heap.size) (fun b _ ho => .inl ho) hno
    have h4 := h3.setQ (l := kpW t s.ss) (q' := (A1, k1)) (h.1.mono fun b _ hb => .inr hb)
    have h5 := h4.setR (l := kpW t s.rs) (r' := (A2, k2)) ((h.2.1.mono fun b _ hb => .inr hb).set hno _)
    exact ⟨h5, ⟨_, _, _, h5⟩, ((Tn.of_below (F := fun k => k = m) h.2.2).set (.inl rfl) _).set (.inl rfl) _⟩
  clear hx
  go_enter Try.func38, Try.ntmps38
  go_wp2_with fail
  go_quiet (fail)
  go_wp2_with fail
  go_region_with (first
    | (go_at_call 73; ((with_reducible refine (HR.out _ ?hb).mono ?_); (case hb => (first | exact below_drewN (Below.refl _ _) _ | (repeat' (first | exact Below.refl _ _ | exact below_drewN (Below.refl _ _) _ | (with_reducible assumption) | refine Below.drew ?_)))); rintro e w6 ⟨A1, k1, rfl, h6, c66⟩))
    | (go_at_call 73; go_loud ((with_reducible refine (HR2.out _ _ _ _ _ _ h6 ?hb).mono ?_); (case hb => (first | exact below_drewN (Below.refl _ _) _ | (repeat' (first | exact Below.refl _ _ | exact below_drewN (Below.refl _ _) _ | (with_reducible assumption) | refine Below.drew ?_)))); rintro e w7 ⟨A2, k2, rfl, h7⟩; have hQ := HQ.out _ _ _ _ _ h7; have hx7 := HX.out.later h7.2.2; have f57 := hx7.fz 5; have f67 := hx7.fz 6; have l7 := hx7.lt; have c57 := hx7.c5; have c67 := hx7.c6; have HM7 := Lib.hid hQ.2; have HX7 := Lib.hid hQ.1; clear hQ hx7 h6 c66)))
  all_goals
    have c5' := HX7.out.c5
    have c6' := HX7.out.c6
    simp only [gone] at c5' c6'
    have c5 : _ = some (Value.slice A1 (kpW t s.ss).length k1) := c5'
    have c6 : _ = some (Value.slice A2 (kpW t s.rs).length k2) := c6'
    clear c57 c67 f57 f67 l7 HX7 h7 HR HR2 HQ c5' c6'
    generalize (w7.setCell ⟨m, 5, none⟩ (.slice A1 (kpW t s.ss).length k1)).setCell ⟨m, 6, none⟩ (.slice A2 (kpW t s.rs).length k2) = w8 at *
    have p1 : IntKind.i64.wrap ((s.ss.length : Int) + (s.rs.length : Int) - ((kpW t s.ss).length : Int)) = (s.ss.length : Int) + (s.rs.length : Int) - ((kpW t s.ss).length : Int) := IntWalk.i64_in _ (by omega)
    have p2 : IntKind.i64.wrap ((s.ss.length : Int) + (s.rs.length : Int) - ((kpW t s.ss).length : Int) - ((kpW t s.rs).length : Int)) = (s.ss.length : Int) + (s.rs.length : Int) - ((kpW t s.ss).length : Int) - ((kpW t s.rs).length : Int) := IntWalk.i64_in _ (by omega)
    have HE : Hid ((s.ss.length : Int) + (s.rs.length : Int) - ((kpW t s.ss).length : Int) - ((kpW t s.rs).length : Int) = (s.ss.countP (isT t) : Int) + (s.rs.countP (isT t) : Int)) := by show _ = _; omega
    clear h1 h2
    go_wp2_with fail
    go_quiet (fail)
    go_wp2_with fail
    go_ret
    exact ⟨ret_int HE.out, HM7.out.draws rfl rfl rfl rfl⟩
theorem mremove_nil (t : Int) (w : World) : Calls Try.prog 38 #[.pointer none, .int .i64 t] w fun e w' => e = .returned (.int .i64 0) ∧ w = w' := by
  go_enter Try.func38, Try.ntmps38
  go_wp2
  go_ret
  exact ⟨rfl, rfl⟩
theorem newtimed_any (w : World) : Calls Try.prog 29 #[] w fun e w' => e = .returned (.pointer (some ⟨w.heap.size, 0, none⟩)) ∧ w' = w.alloc (.cells (mB ⟨1, false, 1, [], [], []⟩ (.slice none 0 0) (.slice none 0 0) (.slice none 0 0)) 81) := by
  go_enter Try.func29, Try.ntmps29
  go_wp2
  go_ret
  exact ⟨rfl, rfl⟩
/-- A new one of the document's own. -/
theorem md_new (w : World) (ok : Nat → Prop) (s : CS) (hl : s.l = []) (hs : s.ss = []) (hr : s.rs = []) (hn : ¬ ok w.heap.size) : MD (w.alloc (.cells (mB s (.slice none 0 0) (.slice none 0 0) (.slice none 0 0)) 81)) ok w.heap.size s := by
  refine ⟨(none, 0), (none, 0), (none, 0), ?_, ?_, ?_, ?_, hn⟩
  · rw [hl, hs, hr]; exact heap_alloc_new _ _
  · rw [hl]; exact Ro.nil _ _ _ _ _ (by omega)
  · rw [hs]; exact Ro.nil _ _ _ _ _ (by omega)
  · rw [hr]; exact Ro.nil _ _ _ _ _ (by omega)
end
theorem wakes_yes (A A' : Option Addr) (n c c' : Nat) (l : List Wk) (w : World) (h : RdK w A n l) (h' : RdK w A' n l) (hn : n ≤ 1000000) :
    Calls Try.prog 18 #[.slice A n c, .slice A' n c'] w fun e w' => e = .returned (.bool true) ∧ ∃ m, w' = w.drewN m := by
  replace h := Lib.hid h
  replace h' := Lib.hid h'
  have b1 : (n : Int) ≤ 1000000 := by omega
  go_enter Try.func18, Try.ntmps18
  go_wp2_with fail
  go_loopw [5] (fun i wr => ∃ k : Nat, k ≤ n ∧ i = .int .i64 k ∧ ∃ m, wr = w.drewN m) (fun i _ => n - (intOf i).toNat)
  case atStart => exact ⟨0, by omega, rfl, 0, rfl⟩
  case round =>
    obtain ⟨k, hk, rfl, m, rfl⟩ := hrel
    by_cases hlt : k < n
    · have hky : k < l.length := by rw [h.out.1]; exact hlt
      obtain ⟨b, cs, e1, hb, hc⟩ := h.out.2 (by omega)
      obtain ⟨b', cs', e2, hb', hc'⟩ := h'.out.2 (by omega)
      subst e1 e2
      obtain ⟨c0, c1, c2, c3, c4⟩ := hc k (l[k]'hky) (List.getElem?_eq_getElem hky)
      obtain ⟨d0, d1, d2, d3, d4⟩ := hc' k (l[k]'hky) (List.getElem?_eq_getElem hky)
      generalize l[k]'hky = x at *
      obtain ⟨xt, xc, xv, xo, xp⟩ := x
      simp only at c0 c1 c2 c3 c4 d0 d1 d2 d3 d4
      have q1 : (k : Int) < (n : Int) := by omega
      have q2 : 0 ≤ (k : Int) := by omega
      clear hc hc' hky hb hb'
      go_wp2_with fail
      go_quiet (fail)
      go_wp2_with fail
      go_roundw
      case rel => exact ⟨k + 1, by omega, by go_num, _, rfl⟩
      case measure => simp [intOf]; omega
    · obtain rfl : k = n := by omega
      go_wp2_with fail
      go_ret
      exact ⟨rfl, _, rfl⟩
end Go.Proofs.Ytmcacmbllpphiaa
