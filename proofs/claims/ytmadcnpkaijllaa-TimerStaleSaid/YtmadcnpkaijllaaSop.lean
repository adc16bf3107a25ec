/- What Len, get, Kind, Chan, Gen, Next, New of package timer answer, and what the timers and channels of a set do. Conditions: each theorem's own premises. -/
import Derived.Test.YtmadcnpkaijllaaStm
namespace Go.Proofs.Ytmadcnpkaijllaa
open Go.RowKit Ch
set_option linter.unusedVariables false
set_option maxRecDepth 100000
abbrev pS (t : Nat) : Value := .pointer (some ⟨t, 0, none⟩)
abbrev oG (x : On) : Value := .agg #[.int .i64 x.kd, .int .i64 x.dt, .pointer (cp x.ch), .int .i64 x.gn]
def zO : On := ⟨0, 0, none, 0⟩
section
variable {W w w' w'' : World} {t m n n' i j c : Nat} {E E' : List On} {S S' : List It} {g g' : Int → Int} {L L' : List (Nat × CS)} {v : Value} {e : Ending} {x : On} {s s' : CS}
theorem new_set (w : World) : Calls Try.prog 11 #[] w fun e w' => e = .returned (pS w.heap.size) ∧ w' = w.alloc (.cells #[.slice none 0 0, .pointer none, .map none, .int .i64 0] 73) := by
  go_enter Try.func11, Try.ntmps11
  go_wp2
  go_ret
  exact ⟨rfl, rfl⟩
theorem ss_new (hb : Below W.heap.size W w) : Calls Try.prog 11 #[] w fun e w' => e = .returned (pS w.heap.size) ∧ SS W w.heap.size [] 0 0 [] (fun _ => 0) [] w' ∧ Below w.heap.size w w' := by
  refine (new_set w).mono ?_
  rintro e w' ⟨rfl, rfl⟩
  exact ⟨rfl, SS.new hb, below_al _ _⟩
theorem len_set (h : SS W t E m n S g L w) : Calls Try.prog 27 #[pS t] w fun e w' => e = .returned (.int .i64 (E.length : Int)) ∧ w = w' := by
  obtain ⟨P, c, c0, -, -⟩ := h.cells
  clear h
  go_enter Try.func27, Try.ntmps27
  go_wp2_with fail
  go_ret
  exact ⟨rfl, rfl⟩
/-- What get answers. -/
def GtR (x : On) (w : World) (e : Ending) (w' : World) : Prop := e = .returned (.agg #[.int .i64 x.kd, .int .i64 x.dt, .pointer (cp x.ch), .int .i64 x.gn]) ∧ Below w.heap.size w w'
set_option maxHeartbeats 4000000 in
theorem get_yes (h : SS W t E m n S g L w) (hx : E[i]? = some x) : Calls Try.prog 46 #[pS t, .int .i64 (i : Int)] w (GtR x w) := by
  have hi := (List.getElem?_eq_some_iff.1 hx).1
  have b1 : ¬ (i : Int) < 0 := by omega
  have b2 : ¬ (E.length : Int) ≤ (i : Int) := by omega
  have ht := h.lt
  have HA := Lib.hid h
  obtain ⟨P, c, c0, -, -, -, hr⟩ := h.cells
  obtain ⟨q, rfl, hq, ⟨x0, x1, x2, x3⟩, -, -⟩ := hr i x hx
  clear hr h hx
  go_enter Try.func46, Try.ntmps46
  go_wp2_with fail
  refine (len_set (HA.out.box _)).mono ?_
  rintro e w' ⟨rfl, rfl⟩
  go_wp2_with fail
  refine bodyPost_ret (v := oG x) ?_ rfl ⟨rfl, ?_⟩
  · rw [results_cell_row rfl _ _ w.heap.size 80 #[.int .i64 x.kd, .int .i64 x.dt, .pointer (cp x.ch), .int .i64 x.gn] (0, 0) _ rfl (heap_alloc_new w _) Try.underlying80 rfl (by kernel_rfl)]
  · first | exact below_al _ _ | (repeat' (first | exact below_al _ _ | refine Below.alloc ?_ (by omega) _))
set_option maxHeartbeats 4000000 in
theorem get_no {k : Int} (h : SS W t E m n S g L w) (hk : k < 0 ∨ (E.length : Int) ≤ k) : Calls Try.prog 46 #[pS t, .int .i64 k] w (GtR zO w) := by
  have HA := Lib.hid h
  have ht := h.lt
  by_cases b1 : k < 0
  · clear hk h
    go_enter Try.func46, Try.ntmps46
    go_wp2_with fail
    refine bodyPost_ret (v := .agg #[.int .i64 0, .int .i64 0, .pointer none, .int .i64 0]) ?_ rfl ⟨rfl, ?_⟩
    · rw [results_cell_row rfl _ _ w.heap.size 80 #[.int .i64 0, .int .i64 0, .pointer none, .int .i64 0] (0, 0) _ rfl (heap_alloc_new w _) Try.underlying80 rfl (by kernel_rfl)]
    · first | exact below_al _ _ | (repeat' (first | exact below_al _ _ | refine Below.alloc ?_ (by omega) _))
  · have b2 : (E.length : Int) ≤ k := by omega
    clear hk h
    go_enter Try.func46, Try.ntmps46
    go_wp2_with fail
    refine (len_set (HA.out.box _)).mono ?_
    rintro e w' ⟨rfl, rfl⟩
    go_wp2_with fail
    refine bodyPost_ret (v := .agg #[.int .i64 0, .int .i64 0, .pointer none, .int .i64 0]) ?_ rfl ⟨rfl, ?_⟩
    · rw [results_cell_row rfl _ _ w.heap.size 80 #[.int .i64 0, .int .i64 0, .pointer none, .int .i64 0] (0, 0) _ rfl (heap_alloc_new w _) Try.underlying80 rfl (by kernel_rfl)]
    · first | exact below_al _ _ | (repeat' (first | exact below_al _ _ | refine Below.alloc ?_ (by omega) _))
/-- What was made under a number, if anything was. -/
def eA (E : List On) (k : Int) : On := if k < 0 then zO else (E[k.toNat]?).getD zO
theorem eA_at (hx : E[i]? = some x) : eA E i = x := by
  unfold eA
  rw [if_neg (by omega)]
  simp [hx]
theorem eA_no {k : Int} (hk : k < 0 ∨ (E.length : Int) ≤ k) : eA E k = zO := by
  unfold eA
  split
  · rfl
  · rw [List.getElem?_eq_none (by omega)]; rfl
theorem get_any (k : Int) (h : SS W t E m n S g L w) : Calls Try.prog 46 #[pS t, .int .i64 k] w (GtR (eA E k) w) := by
  by_cases hk : k < 0 ∨ (E.length : Int) ≤ k
  · rw [eA_no hk]; exact get_no h hk
  · have hi : k.toNat < E.length := by omega
    have hx : E[k.toNat]? = some E[k.toNat] := List.getElem?_eq_getElem hi
    have ek : k = (k.toNat : Int) := by omega
    rw [ek, eA_at hx]
    exact get_yes h hx
theorem fd0 (x : On) (w : World) : (Instr.field 80 (.agg #[.int .i64 x.kd, .int .i64 x.dt, .pointer (cp x.ch), .int .i64 x.gn]) 0).run Try.prog w = .ok (.int .i64 x.kd) w := by kernel_rfl
theorem fd2 (x : On) (w : World) : (Instr.field 80 (.agg #[.int .i64 x.kd, .int .i64 x.dt, .pointer (cp x.ch), .int .i64 x.gn]) 2).run Try.prog w = .ok (.pointer (cp x.ch)) w := by kernel_rfl
theorem fd3 (x : On) (w : World) : (Instr.field 80 (.agg #[.int .i64 x.kd, .int .i64 x.dt, .pointer (cp x.ch), .int .i64 x.gn]) 3).run Try.prog w = .ok (.int .i64 x.gn) w := by kernel_rfl
theorem kind_any (k : Int) (h : SS W t E m n S g L w) : Calls Try.prog 23 #[pS t, .int .i64 k] w (SZ W t E m n S g L (.int .i64 (eA E k).kd) w) := by
  have HA := Lib.hid h
  clear h
  go_enter Try.func23, Try.ntmps23
  go_wp2_with fail
  refine (get_any k HA.out).mono ?_
  rintro e w' ⟨rfl, hb⟩
  have HB := Lib.hid hb
  clear hb
  generalize eA E k = x at *
  have hfd := fd0 x
  go_wp2_with fail
  go_ret
  exact HA.out.sz ⟨rfl, HB.out⟩
theorem chan_any (k : Int) (h : SS W t E m n S g L w) : Calls Try.prog 24 #[pS t, .int .i64 k] w (SZ W t E m n S g L (.pointer (cp (eA E k).ch)) w) := by
  have HA := Lib.hid h
  clear h
  go_enter Try.func24, Try.ntmps24
  go_wp2_with fail
  refine (get_any k HA.out).mono ?_
  rintro e w' ⟨rfl, hb⟩
  have HB := Lib.hid hb
  clear hb
  generalize eA E k = x at *
  have hfd := fd2 x
  go_wp2_with fail
  go_ret
  exact HA.out.sz ⟨rfl, HB.out⟩
theorem gen_any (k : Int) (h : SS W t E m n S g L w) : Calls Try.prog 26 #[pS t, .int .i64 k] w (SZ W t E m n S g L (.int .i64 (eA E k).gn) w) := by
  have HA := Lib.hid h
  clear h
  go_enter Try.func26, Try.ntmps26
  go_wp2_with fail
  refine (get_any k HA.out).mono ?_
  rintro e w' ⟨rfl, hb⟩
  have HB := Lib.hid hb
  clear hb
  generalize eA E k = x at *
  have hfd := fd3 x
  go_wp2_with fail
  go_ret
  exact HA.out.sz ⟨rfl, HB.out⟩
/-! The timers. -/
theorem ss_tarm (k y z : Int) (h : SS W t E m n S g L w) (hk : Wf k) (hy : Fit y) (hz : Fit z) (hn : n ≤ 1000000) (hl : S.length < 1000) : Calls Try.prog 62 #[pT t, .int .i64 k, .int .i64 y, .int .i64 z] w (SZ W t E m (n + 1) (ins ⟨k, y, (n : Int) + 1⟩ (del k S)) (fput g k z) L (.int .i64 0) w) :=
  h.tim fun vA hu => tu_arm k y z hu hk hy hz hn hl
theorem ss_tstop (k : Int) (h : SS W t E m n S g L w) (hk : Wf k) (hl : S.length ≤ 1000) : Calls Try.prog 59 #[pT t, .int .i64 k] w (SZ W t E m n (del k S) (fput g k 0) L (.bool (decide (k ∈ ids S))) w) :=
  h.tim fun vA hu => tu_stop k hu hk hl
theorem ss_tnext (h : SS W t E m n S g L w) (hl : S.length ≤ 1000) : Calls Try.prog 47 #[pT t] w (SZ W t E m n S g L (.tuple #[.int .i64 (nxt S).1, .bool (nxt S).2]) w) :=
  h.tim fun vA hu => tu_next hu hl
/-- What Take makes of all that are armed: who is taken, how many armings, who is armed, and the periods. -/
def tk (now : Int) (n : Nat) (S : List It) (g : Int → Int) : Option It × Nat × List It × (Int → Int) := match S with
  | [] => (none, n, [], g)
  | x :: r => if now < x.w then (none, n, x :: r, g) else if Gon x.w (g x.id) now then (some x, n + 1, ins ⟨x.id, nx x.w (g x.id) now, (n : Int) + 1⟩ r, g) else (some x, n, r, fput g x.id 0)
def tkV (now : Int) : Option It → Value
  | none => .tuple #[vD 0 0 0, .bool false]
  | some x => .tuple #[vD x.id x.w now, .bool true]
theorem ss_ttake (now : Int) (h : SS W t E m n S g L w) (hn : n ≤ 1000000) (hl : S.length ≤ 1000) : Calls Try.prog 32 #[pT t, .int .i64 now] w (SZ W t E m (tk now n S g).2.1 (tk now n S g).2.2.1 (tk now n S g).2.2.2 L (tkV now (tk now n S g).1) w) := by
  cases S with
  | nil => exact h.tim fun vA hu => tu_take_no hu hl trivial
  | cons x r =>
    unfold tk
    by_cases h1 : now < x.w
    · simp only [if_pos h1]
      exact h.tim fun vA hu => tu_take_no hu hl h1
    · by_cases h2 : Gon x.w (g x.id) now
      · simp only [if_neg h1, if_pos h2]
        exact h.tim fun vA hu => tu_take_on hu hn hl (by omega) h2
      · simp only [if_neg h1, if_neg h2]
        exact h.tim fun vA hu => tu_take_end hu hl (by omega) h2
theorem next_set (h : SS W t E m n S g L w) (hl : S.length ≤ 1000) : Calls Try.prog 25 #[pS t] w (SZ W t E m n S g L (.tuple #[.int .i64 (nxt S).1, .bool (nxt S).2]) w) := by
  have HA := Lib.hid h
  clear h
  go_enter Try.func25, Try.ntmps25
  go_wp2_with fail
  refine (ss_tnext HA.out hl).mono ?_
  rintro e w' hz
  have HZ := Lib.hid hz
  obtain rfl := hz.1
  clear hz
  generalize (nxt S).1 = a at *
  generalize (nxt S).2 = b at *
  go_wp2_with fail
  go_ret2
  exact HZ.out
/-! The channels. -/
theorem ss_drop (h : SS W t E m n S g L w) (hi : L[i]? = some (c, s)) (hk : s.kd = 1) : Calls Try.prog 60 #[.pointer (some ⟨c, 0, none⟩)] w (SZ W t E m n S g (L.set i (c, { s with l := [] })) (.bool (decide (0 < s.l.length))) w) :=
  (ms_drop h.ms hi hk).mono fun _ _ r => ⟨r.1, (h.chan r.2.1 r.2.2).1, (h.chan r.2.1 r.2.2).2⟩
theorem drop_nil (w : World) : Calls Try.prog 60 #[.pointer none] w fun e w' => e = .returned (.bool false) ∧ w = w' := by
  go_enter Try.func60, Try.ntmps60
  go_wp2_with fail
  go_ret
  exact ⟨rfl, rfl⟩
theorem put_nil (x : Int) (w : World) : Calls Try.prog 33 #[.pointer none, .int .i64 x] w fun e w' => e = .returned (.tuple #[.slice none 0 0, .bool false]) ∧ w = w' := by
  go_enter Try.func33, Try.ntmps33
  go_wp2_with fail
  go_ret2
  exact ⟨rfl, rfl⟩
theorem recv_nil (w : World) : Calls Try.prog 16 #[.pointer none] w fun e w' => e = .returned (.tuple #[.int .i64 0, .bool false, .bool false, .slice none 0 0]) ∧ w = w' := by
  go_enter Try.func16, Try.ntmps16
  go_wp2_with fail
  refine bodyPost_ret (v := .tuple #[.int .i64 0, .bool false, .bool false, .slice none 0 0]) ?_ rfl ⟨rfl, rfl⟩
  rw [results_tmp4 rfl]; go_simp; try rfl
theorem can_nil (b : Bool) (w : World) : Calls Try.prog 18 #[.pointer none, .bool b] w fun e w' => e = .returned (.bool false) ∧ w = w' := by
  go_enter Try.func18, Try.ntmps18
  go_wp2_with fail
  go_ret
  exact ⟨rfl, rfl⟩
theorem wait_nil (x : Wt) (b : Bool) (w : World) : Calls Try.prog 29 #[.pointer none, wG x, .bool b] w fun e w' => e = .returned (.int .i64 6) ∧ Below w.heap.size w w' := by
  unfold wG
  go_enter Try.func29, Try.ntmps29
  go_wp2_with fail
  go_ret
  exact ⟨rfl, by first | exact below_al _ _ | exact Below.refl _ _⟩
end
end Go.Proofs.Ytmadcnpkaijllaa
