/- What Len, get, Kind, Chan, Gen, Next, New of package timer answer, and what the timers and channels of a set do. Conditions: each theorem's own premises.
stop, arm and add of package timer. Conditions: each theorem's own premises.
The document's own set of timers in memory; what carries it. No condition. -/
import Derived.Test.YtmadcnpkaijllaaGreatCMem
import Derived.Test.YtmadcnpkaijllaaGreatQarm
namespace Go.Proofs.YtmadcnpkaijllaaGreat
open Go.RowKit Ch
set_option linter.unusedVariables false
set_option maxRecDepth 100000
abbrev pS (t : Nat) : Value := .pointer (some ⟨t, 0, none⟩)
abbrev oG (x : On) : Value := .agg #[.int .i64 x.kd, .int .i64 x.dt, .pointer (cp x.ch), .int .i64 x.gn]
def zO : On := ⟨0, 0, none, 0⟩
section
variable {RC : List Nat} {RT : List CS} {W w w' w'' : World} {t m n n' i j c : Nat} {E E' : List On} {S S' : List It} {g g' : Int → Int} {L L' : List (Nat × CS)} {v : Value} {e : Ending} {x : On} {s s' : CS}
theorem new_set (w : World) : Calls Tryz.prog 5 #[] w fun e w' => e = .returned (pS w.heap.size) ∧ w' = w.alloc (.cells #[.slice none 0 0, .pointer none, .map none, .int .i64 0] 66) := by
  go_enter Tryz.func5, Tryz.ntmps5
  go_wp2
  go_ret
  exact ⟨rfl, rfl⟩
theorem ss_new (hb : Below W.heap.size W w) : Calls Tryz.prog 5 #[] w fun e w' => e = .returned (pS w.heap.size) ∧ SS W [] [] w.heap.size [] 0 0 [] (fun _ => 0) [] w' ∧ Below w.heap.size w w' := by
  refine (new_set w).mono ?_
  rintro e w' ⟨rfl, rfl⟩
  exact ⟨rfl, SS.new hb, below_al _ _⟩
theorem len_set (h : SS W RC RT t E m n S g L w) : Calls Tryz.prog 34 #[pS t] w fun e w' => e = .returned (.int .i64 (E.length : Int)) ∧ w = w' := by
  obtain ⟨P, c, c0, -, -⟩ := h.cells
  clear h
  go_enter Tryz.func34, Tryz.ntmps34
  go_wp2_with fail
  go_ret
  exact ⟨rfl, rfl⟩
/-- What get answers. -/
def GtR (x : On) (w : World) (e : Ending) (w' : World) : Prop := e = .returned (.agg #[.int .i64 x.kd, .int .i64 x.dt, .pointer (cp x.ch), .int .i64 x.gn]) ∧ Below w.heap.size w w'
set_option maxHeartbeats 4000000 in
theorem get_yes (h : SS W RC RT t E m n S g L w) (hx : E[i]? = some x) : Calls Tryz.prog 53 #[pS t, .int .i64 (i : Int)] w (GtR x w) := by
  have hi := (List.getElem?_eq_some_iff.1 hx).1
  have b1 : ¬ (i : Int) < 0 := by omega
  have b2 : ¬ (E.length : Int) ≤ (i : Int) := by omega
  have ht := h.lt
  have HA := Lib.hid h
  obtain ⟨P, c, c0, -, -, -, hr⟩ := h.cells
  obtain ⟨q, rfl, hq, ⟨x0, x1, x2, x3⟩, -, -⟩ := hr i x hx
  clear hr h hx
  go_enter Tryz.func53, Tryz.ntmps53
  go_wp2_with fail
  refine (len_set (HA.out.box _)).mono ?_
  rintro e w' ⟨rfl, rfl⟩
  go_wp2_with fail
  refine bodyPost_ret (v := oG x) ?_ rfl ⟨rfl, ?_⟩
  · rw [results_cell_row rfl _ _ w.heap.size 101 #[.int .i64 x.kd, .int .i64 x.dt, .pointer (cp x.ch), .int .i64 x.gn] (0, 0) _ rfl (heap_alloc_new w _) Tryz.underlying101 rfl (by kernel_rfl)]
  · first | exact below_al _ _ | (repeat' (first | exact below_al _ _ | refine Below.alloc ?_ (by omega) _))
set_option maxHeartbeats 4000000 in
theorem get_no {k : Int} (h : SS W RC RT t E m n S g L w) (hk : k < 0 ∨ (E.length : Int) ≤ k) : Calls Tryz.prog 53 #[pS t, .int .i64 k] w (GtR zO w) := by
  have HA := Lib.hid h
  have ht := h.lt
  by_cases b1 : k < 0
  · clear hk h
    go_enter Tryz.func53, Tryz.ntmps53
    go_wp2_with fail
    refine bodyPost_ret (v := .agg #[.int .i64 0, .int .i64 0, .pointer none, .int .i64 0]) ?_ rfl ⟨rfl, ?_⟩
    · rw [results_cell_row rfl _ _ w.heap.size 101 #[.int .i64 0, .int .i64 0, .pointer none, .int .i64 0] (0, 0) _ rfl (heap_alloc_new w _) Tryz.underlying101 rfl (by kernel_rfl)]
    · first | exact below_al _ _ | (repeat' (first | exact below_al _ _ | refine Below.alloc ?_ (by omega) _))
  · have b2 : (E.length : Int) ≤ k := by omega
    clear hk h
    go_enter Tryz.func53, Tryz.ntmps53
    go_wp2_with fail
    refine (len_set (HA.out.box _)).mono ?_
    rintro e w' ⟨rfl, rfl⟩
    go_wp2_with fail
    refine bodyPost_ret (v := .agg #[.int .i64 0, .int .i64 0, .pointer none, .int .i64 0]) ?_ rfl ⟨rfl, ?_⟩
    · rw [results_cell_row rfl _ _ w.heap.size 101 #[.int .i64 0, .int .i64 0, .pointer none, .int .i64 0] (0, 0) _ rfl (heap_alloc_new w _) Tryz.underlying101 rfl (by kernel_rfl)]
    · first | exact below_al _ _ | (repeat' (first | exact below_al _ _ | refine Below.alloc ?_ (by omega) _))
/-- What was made under a number, if anything was. -/
def eA (E : List On) (k : Int) : On := if k < 0 then zO else (E[k.toNat]?).getD zO
theorem eA_at (hx : E[i]? = some x) : eA E i = x := by
  unfold eA
  rw [if_neg (by omega)]
  simp [hx]
theorem eA_no {k : Int} (hk : k < 0 ∨ (E.length : Int) ≤ k) : eA E k = zO := by
  unfold eA
  split
  · rfl
  · rw [List.getElem?_eq_none (by omega)]; rfl
theorem get_any (k : Int) (h : SS W RC RT t E m n S g L w) : Calls Tryz.prog 53 #[pS t, .int .i64 k] w (GtR (eA E k) w) := by
  by_cases hk : k < 0 ∨ (E.length : Int) ≤ k
  · rw [eA_no hk]; exact get_no h hk
  · have hi : k.toNat < E.length := by omega
    have hx : E[k.toNat]? = some E[k.toNat] := List.getElem?_eq_getElem hi
    have ek : k = (k.toNat : Int) := by omega
    rw [ek, eA_at hx]
    exact get_yes h hx
theorem fd0 (x : On) (w : World) : (Instr.field 101 (.agg #[.int .i64 x.kd, .int .i64 x.dt, .pointer (cp x.ch), .int .i64 x.gn]) 0).run Tryz.prog w = .ok (.int .i64 x.kd) w := by kernel_rfl
theorem fd2 (x : On) (w : World) : (Instr.field 101 (.agg #[.int .i64 x.kd, .int .i64 x.dt, .pointer (cp x.ch), .int .i64 x.gn]) 2).run Tryz.prog w = .ok (.pointer (cp x.ch)) w := by kernel_rfl
theorem fd3 (x : On) (w : World) : (Instr.field 101 (.agg #[.int .i64 x.kd, .int .i64 x.dt, .pointer (cp x.ch), .int .i64 x.gn]) 3).run Tryz.prog w = .ok (.int .i64 x.gn) w := by kernel_rfl
theorem kind_any (k : Int) (h : SS W RC RT t E m n S g L w) : Calls Tryz.prog 35 #[pS t, .int .i64 k] w (SZ W RC RT t E m n S g L (.int .i64 (eA E k).kd) w) := by
  have HA := Lib.hid h
  clear h
  go_enter Tryz.func35, Tryz.ntmps35
  go_wp2_with fail
  refine (get_any k HA.out).mono ?_
  rintro e w' ⟨rfl, hb⟩
  have HB := Lib.hid hb
  clear hb
  generalize eA E k = x at *
  have hfd := fd0 x
  go_wp2_with fail
  go_ret
  exact HA.out.sz ⟨rfl, HB.out⟩
theorem chan_any (k : Int) (h : SS W RC RT t E m n S g L w) : Calls Tryz.prog 25 #[pS t, .int .i64 k] w (SZ W RC RT t E m n S g L (.pointer (cp (eA E k).ch)) w) := by
  have HA := Lib.hid h
  clear h
  go_enter Tryz.func25, Tryz.ntmps25
  go_wp2_with fail
  refine (get_any k HA.out).mono ?_
  rintro e w' ⟨rfl, hb⟩
  have HB := Lib.hid hb
  clear hb
  generalize eA E k = x at *
  have hfd := fd2 x
  go_wp2_with fail
  go_ret
  exact HA.out.sz ⟨rfl, HB.out⟩
theorem gen_any (k : Int) (h : SS W RC RT t E m n S g L w) : Calls Tryz.prog 16 #[pS t, .int .i64 k] w (SZ W RC RT t E m n S g L (.int .i64 (eA E k).gn) w) := by
  have HA := Lib.hid h
  clear h
  go_enter Tryz.func16, Tryz.ntmps16
  go_wp2_with fail
  refine (get_any k HA.out).mono ?_
  rintro e w' ⟨rfl, hb⟩
  have HB := Lib.hid hb
  clear hb
  generalize eA E k = x at *
  have hfd := fd3 x
  go_wp2_with fail
  go_ret
  exact HA.out.sz ⟨rfl, HB.out⟩
/-! The timers. -/
theorem ss_tarm (k y z : Int) (h : SS W RC RT t E m n S g L w) (hk : Wf k) (hy : Fit y) (hz : Fit z) (hn : n ≤ 1000000) (hl : S.length < 1000) : Calls Tryz.prog 81 #[pT t, .int .i64 k, .int .i64 y, .int .i64 z] w (SZ W RC RT t E m (n + 1) (ins ⟨k, y, (n : Int) + 1⟩ (del k S)) (fput g k z) L (.int .i64 0) w) :=
  h.tim fun vA hu => tu_arm k y z hu hk hy hz hn hl
theorem ss_tstop (k : Int) (h : SS W RC RT t E m n S g L w) (hk : Wf k) (hl : S.length ≤ 1000) : Calls Tryz.prog 77 #[pT t, .int .i64 k] w (SZ W RC RT t E m n (del k S) (fput g k 0) L (.bool (decide (k ∈ ids S))) w) :=
  h.tim fun vA hu => tu_stop k hu hk hl
theorem ss_tnext (h : SS W RC RT t E m n S g L w) (hl : S.length ≤ 1000) : Calls Tryz.prog 71 #[pT t] w (SZ W RC RT t E m n S g L (.tuple #[.int .i64 (nxt S).1, .bool (nxt S).2]) w) :=
  h.tim fun vA hu => tu_next hu hl
/-- What Take makes of all that are armed: who is taken, how many armings, who is armed, and the periods. -/
def tk (now : Int) (n : Nat) (S : List It) (g : Int → Int) : Option It × Nat × List It × (Int → Int) := match S with
  | [] => (none, n, [], g)
  | x :: r => if now < x.w then (none, n, x :: r, g) else if Gon x.w (g x.id) now then (some x, n + 1, ins ⟨x.id, nx x.w (g x.id) now, (n : Int) + 1⟩ r, g) else (some x, n, r, fput g x.id 0)
def tkV (now : Int) : Option It → Value
  | none => .tuple #[vD 0 0 0, .bool false]
  | some x => .tuple #[vD x.id x.w now, .bool true]
theorem ss_ttake (now : Int) (h : SS W RC RT t E m n S g L w) (hn : n ≤ 1000000) (hl : S.length ≤ 1000) : Calls Tryz.prog 42 #[pT t, .int .i64 now] w (SZ W RC RT t E m (tk now n S g).2.1 (tk now n S g).2.2.1 (tk now n S g).2.2.2 L (tkV now (tk now n S g).1) w) := by
  cases S with
  | nil => exact h.tim fun vA hu => tu_take_no hu hl trivial
  | cons x r =>
    unfold tk
    by_cases h1 : now < x.w
    · simp only [if_pos h1]
      exact h.tim fun vA hu => tu_take_no hu hl h1
    · by_cases h2 : Gon x.w (g x.id) now
      · simp only [if_neg h1, if_pos h2]
        exact h.tim fun vA hu => tu_take_on hu hn hl (by omega) h2
      · simp only [if_neg h1, if_neg h2]
        exact h.tim fun vA hu => tu_take_end hu hl (by omega) h2
theorem next_set (h : SS W RC RT t E m n S g L w) (hl : S.length ≤ 1000) : Calls Tryz.prog 33 #[pS t] w (SZ W RC RT t E m n S g L (.tuple #[.int .i64 (nxt S).1, .bool (nxt S).2]) w) := by
  have HA := Lib.hid h
  clear h
  go_enter Tryz.func33, Tryz.ntmps33
  go_wp2_with fail
  refine (ss_tnext HA.out hl).mono ?_
  rintro e w' hz
  have HZ := Lib.hid hz
  obtain rfl := hz.1
  clear hz
  generalize (nxt S).1 = a at *
  generalize (nxt S).2 = b at *
  go_wp2_with fail
  go_ret2
  exact HZ.out
/-! The channels. -/
theorem ss_drop (h : SS W RC RT t E m n S g L w) (hi : L[i]? = some (c, s)) (hk : s.kd = 1) : Calls Tryz.prog 78 #[.pointer (some ⟨c, 0, none⟩)] w (SZ W RC RT t E m n S g (L.set i (c, { s with l := [] })) (.bool (decide (0 < s.l.length))) w) :=
  (ms_drop h.ms hi hk).mono fun _ _ r => ⟨r.1, (h.chan r.2.1 r.2.2).1, (h.chan r.2.1 r.2.2).2⟩
theorem drop_nil (w : World) : Calls Tryz.prog 78 #[.pointer none] w fun e w' => e = .returned (.bool false) ∧ w = w' := by
  go_enter Tryz.func78, Tryz.ntmps78
  go_wp2_with fail
  go_ret
  exact ⟨rfl, rfl⟩
theorem put_nil (x : Int) (w : World) : Calls Tryz.prog 43 #[.pointer none, .int .i64 x] w fun e w' => e = .returned (.tuple #[.slice none 0 0, .bool false]) ∧ w = w' := by
  go_enter Tryz.func43, Tryz.ntmps43
  go_wp2_with fail
  go_ret2
  exact ⟨rfl, rfl⟩
theorem recv_nil (w : World) : Calls Tryz.prog 26 #[.pointer none] w fun e w' => e = .returned (.tuple #[.int .i64 0, .bool false, .bool false, .slice none 0 0]) ∧ w = w' := by
  go_enter Tryz.func26, Tryz.ntmps26
  go_wp2_with fail
  refine bodyPost_ret (v := .tuple #[.int .i64 0, .bool false, .bool false, .slice none 0 0]) ?_ rfl ⟨rfl, rfl⟩
  rw [results_tmp4 rfl]; go_simp; try rfl
theorem can_nil (b : Bool) (w : World) : Calls Tryz.prog 15 #[.pointer none, .bool b] w fun e w' => e = .returned (.bool false) ∧ w = w' := by
  go_enter Tryz.func15, Tryz.ntmps15
  go_wp2_with fail
  go_ret
  exact ⟨rfl, rfl⟩
theorem wait_nil (x : Wt) (b : Bool) (w : World) : Calls Tryz.prog 31 #[.pointer none, wG x, .bool b] w fun e w' => e = .returned (.int .i64 6) ∧ Below w.heap.size w w' := by
  unfold wG
  go_enter Tryz.func31, Tryz.ntmps31
  go_wp2_with fail
  go_ret
  exact ⟨rfl, by first | exact below_al _ _ | exact Below.refl _ _⟩
end
end Go.Proofs.YtmadcnpkaijllaaGreat
namespace Go.Proofs.YtmadcnpkaijllaaGreat
open Go.RowKit Ch
set_option linter.unusedVariables false
set_option maxRecDepth 100000
section
variable {RC : List Nat} {RT : List CS} {W w w' w'' : World} {t m n n' i j c : Nat} {E E' : List On} {S S' : List It} {g g' : Int → Int} {L L' : List (Nat × CS)} {v : Value} {e : Ending} {x : On} {s s' : CS}
/-- A number of one that was made. -/
theorem wf_nat (h : i < 1000000) : Wf (i : Int) := wf_of (by omega) (by omega)
set_option maxHeartbeats 4000000 in
theorem stopS_ch (h : SS W RC RT t E m n S g L w) (hx : E[i]? = some x) (hc : x.ch = some c) (hi : L[j]? = some (c, s)) (hk : s.kd = 1) (hE : E.length ≤ 100000) (hl : S.length ≤ 1000) :
    Calls Tryz.prog 44 #[pS t, .int .i64 (i : Int)] w (SZ W RC RT t E m n (del i S) (fput g i 0) (L.set j (c, { s with l := [] })) (.bool (decide ((i : Int) ∈ ids S) || decide (0 < s.l.length))) w) := by
  have hlt := (List.getElem?_eq_some_iff.1 hx).1
  have b1 : (0 : Int) ≤ (i : Int) := by omega
  have b2 : (i : Int) < (E.length : Int) := by omega
  have hw := wf_nat (i := i) (by omega)
  have HA := Lib.hid h
  have HX := Lib.hid hx
  have HI := Lib.hid hi
  have HK := Lib.hid hk
  clear h hx hi hk hE hlt
  go_enter Tryz.func44, Tryz.ntmps44
  go_wp2_with fail
  refine (ss_tstop i HA.out hw hl).mono ?_
  rintro e w1 hz
  have HZ := Lib.hid hz
  obtain rfl := hz.1
  clear hz
  obtain ⟨P, cc, c0, -, -, -, hr⟩ := HZ.out.2.1.cells
  obtain ⟨q, rfl, hq, ⟨x0, x1, x2, x3⟩, -, -⟩ := hr i x HX.out
  rw [hc] at x2
  clear hr x0 x1 x3
  simp only [Option.map_some] at x2
  generalize hd : decide ((i : Int) ∈ ids S) = d at *
  clear hd
  go_wp2_with fail
  refine (ss_drop HZ.out.2.1 HI.out HK.out).mono ?_
  rintro e w2 hz
  have HY := Lib.hid (SZ.after HZ.out.2.2 hz)
  obtain rfl := hz.1
  clear hz HZ c0 x2
  generalize hf : decide (0 < s.l.length) = f at *
  clear hf
  cases d
  · go_wp2_with fail
    go_ret
    exact HY.out.but
  · go_wp2_with fail
    go_ret
    exact HY.out.but
set_option maxHeartbeats 4000000 in
theorem stopS_no (h : SS W RC RT t E m n S g L w) (hx : E[i]? = some x) (hc : x.ch = none) (hE : E.length ≤ 100000) (hl : S.length ≤ 1000) :
    Calls Tryz.prog 44 #[pS t, .int .i64 (i : Int)] w (SZ W RC RT t E m n (del i S) (fput g i 0) L (.bool (decide ((i : Int) ∈ ids S))) w) := by
  have hlt := (List.getElem?_eq_some_iff.1 hx).1
  have b1 : (0 : Int) ≤ (i : Int) := by omega
  have b2 : (i : Int) < (E.length : Int) := by omega
  have hw := wf_nat (i := i) (by omega)
  have HA := Lib.hid h
  have HX := Lib.hid hx
  clear h hx hE hlt
  go_enter Tryz.func44, Tryz.ntmps44
  go_wp2_with fail
  refine (ss_tstop i HA.out hw hl).mono ?_
  rintro e w1 hz
  have HZ := Lib.hid hz
  obtain rfl := hz.1
  clear hz
  obtain ⟨P, cc, c0, -, -, -, hr⟩ := HZ.out.2.1.cells
  obtain ⟨q, rfl, hq, ⟨x0, x1, x2, x3⟩, -, -⟩ := hr i x HX.out
  rw [hc] at x2
  clear hr x0 x1 x3
  simp only [Option.map_none] at x2
  generalize hd : decide ((i : Int) ∈ ids S) = d at *
  clear hd
  go_wp2_with fail
  refine (drop_nil _).mono ?_
  rintro e w2 ⟨rfl, rfl⟩
  cases d
  · go_wp2_with fail
    go_ret
    exact HZ.out.but
  · go_wp2_with fail
    go_ret
    exact HZ.out.but
/-- It was armed once more. -/
def up (x : On) : On := { x with gn := x.gn + 1 }
set_option maxHeartbeats 4000000 in
theorem arm_set (y z : Int) (h : SS W RC RT t E m n S g L w) (hx : E[i]? = some x) (hg0 : 0 ≤ x.gn) (hg1 : x.gn ≤ 1000000) (hy : Fit y) (hz : Fit z) (hE : E.length ≤ 100000) (hn : n ≤ 1000000) (hl : S.length < 1000) :
    Calls Tryz.prog 47 #[pS t, .int .i64 (i : Int), .int .i64 y, .int .i64 z] w (SZ W RC RT t (E.set i (up x)) m (n + 1) (ins ⟨i, y, (n : Int) + 1⟩ (del i S)) (fput g i z) L (.tuple #[]) w) := by
  have hlt := (List.getElem?_eq_some_iff.1 hx).1
  have b1 : (0 : Int) ≤ (i : Int) := by omega
  have b2 : (i : Int) < (E.length : Int) := by omega
  have b3 : IntKind.i64.wrap (x.gn + 1) = x.gn + 1 := by rw [IntKind.wrap_i64]; omega
  have hw := wf_nat (i := i) (by omega)
  have HA := Lib.hid h
  have HX := Lib.hid hx
  clear h hx hE hlt hg0 hg1
  go_enter Tryz.func47, Tryz.ntmps47
  go_wp2_with fail
  refine (ss_tarm i y z HA.out hw hy hz hn hl).mono ?_
  rintro e w1 hz
  have HZ := Lib.hid hz
  obtain rfl := hz.1
  clear hz
  obtain ⟨P, cc, c0, -, -, -, hr⟩ := HZ.out.2.1.cells
  obtain ⟨q, rfl, hq, ⟨x0, x1, x2, x3⟩, fq, st⟩ := hr i x HX.out
  have HS := Lib.hid (st (x.gn + 1))
  have f3 := fq (i * 4 + 3)
  clear hr x0 x1 x2 st fq
  go_wp2_with fail
  go_end0
  exact ⟨rfl, HS.out.1, HZ.out.2.2.trans HS.out.2⟩
theorem below_two {w wx : World} {o1 o2 : Obj} (hh : wx.heap = ((w.alloc o1).alloc o2).heap) (h1 : wx.os = w.os) (h2 : wx.tape = w.tape) (h3 : wx.output = w.output) : Below w.heap.size w wx :=
  ⟨h1, h2, h3, by rw [hh]; simp; omega, fun k hk => by rw [hh]; exact (Below.heap_alloc _ _ k (by simp; omega)).trans (Below.heap_alloc _ _ k hk)⟩
theorem news_two {w wx : World} {o1 : Obj} {cs : Array Value} {t : TypeId} (hh : wx.heap = ((w.alloc o1).alloc (.cells cs t)).heap) : wx.heap[w.heap.size + 1]? = some (.cells cs t (0, 0)) := by
  rw [hh]
  have := heap_alloc_new (w.alloc o1) (.cells cs t)
  rw [World.size_alloc] at this
  exact this
theorem SS.mid {wx w1 : World} {P : Option Addr} (h : SS W RC RT t E m n S g L w) (hc0 : w.cell? ⟨t, 0, none⟩ = some (.slice P E.length c)) (hx : Below w.heap.size w wx) (hg : wx.grownBy w1 (Value.slice P E.length c).ownBlock) : w1.cell? ⟨t, 0, none⟩ = some (.slice P E.length c) ∧ w1.frozen? ⟨t, 0, none⟩ = false := by
  obtain ⟨h0, P', c', h1, h2⟩ := h
  obtain ⟨hB, u, v, hb⟩ := h1.blk
  have e0 : w.cell? ⟨t, 0, none⟩ = some (.slice P' E.length c') := by rw [cell_of_row w t 0 _ _ _ hb]; rfl
  rw [hc0] at e0
  injection e0 with e0; injection e0 with e0 _ e1
  subst e0; subst e1
  rw [own_blk] at hg
  have hk := (hg.block t (by have := hx.size; have := lt_of_blk hb; omega) (fun e => by
    obtain ⟨cs, fr, hq⟩ := row_tag h2 e.symm
    rw [hb] at hq; injection hq with hq; injection hq with _ hq _; exact absurd hq (by decide))).trans (hx.block t (lt_of_blk hb))
  exact ⟨(cell_blk hk 0).trans hc0, (frozen_blk hk 0).trans (frozen_of_row w t 0 _ _ hb)⟩
theorem SS.own {P : Option Addr} (h : SS W RC RT t E m n S g L w) (hc0 : w.cell? ⟨t, 0, none⟩ = some (.slice P E.length c)) : w.ownsRow W.heap.size 101 4 (.slice P E.length c) E.length (oV E) := by
  obtain ⟨h0, P', c', h1, h2⟩ := h
  obtain ⟨hB, u, v, hb⟩ := h1.blk
  have e0 : w.cell? ⟨t, 0, none⟩ = some (.slice P' E.length c') := by rw [cell_of_row w t 0 _ _ _ hb]; rfl
  rw [hc0] at e0
  injection e0 with e0; injection e0 with e0 _ e1
  subst e0; subst e1
  exact h2
theorem infO : (Tryz.prog.info? 101).map (fun i => (i.zero, i.size, i.bytes)) = some (some (.agg #[.int .i64 0, .int .i64 0, .pointer none, .int .i64 0]), 4, 32) := by kernel_rfl
theorem up_snoc (E : List On) (x : On) : (E ++ [x]).set E.length (up x) = E ++ [up x] := by simp
set_option maxHeartbeats 8000000 in
theorem add_set (x : On) (y z : Int) (h : SS W RC RT t E m n S g L w) (hg0 : 0 ≤ x.gn) (hg1 : x.gn ≤ 1000000) (hy : Fit y) (hz : Fit z) (hE : E.length < 100000) (hn : n ≤ 1000000) (hl : S.length < 1000) :
    Calls Tryz.prog 48 #[pS t, .agg #[.int .i64 x.kd, .int .i64 x.dt, .pointer (cp x.ch), .int .i64 x.gn], .int .i64 y, .int .i64 z] w (SZ W RC RT t (E ++ [up x]) m (n + 1) (ins ⟨(E.length : Int), y, (n : Int) + 1⟩ (del (E.length : Int) S)) (fput g (E.length : Int) z) L (.int .i64 (E.length : Int)) w) := by
  obtain ⟨i0, hi, hz0, hz1, hz2⟩ := info_parts infO
  have hlt := h.lt
  have hla : t ≠ w.heap.size := by omega
  have hsz := h.bel.size
  have HA := Lib.hid h
  obtain ⟨P, c, c0, -, f0, -, -⟩ := h.cells
  have HC : Hid (w.cell? ⟨t, 0, none⟩ = some (.slice P E.length c)) := c0
  have HG := Lib.hid (And.intro hg0 hg1)
  have HF := Lib.hid (And.intro hy hz)
  have HN := Lib.hid (And.intro hE (And.intro hn hl))
  have b2 : (E.length : Int) ≤ 100000 := by omega
  have b3 : (0 : Int) ≤ (E.length : Int) := by omega
  clear h hg0 hg1 hy hz hn hl
  go_enter Tryz.func48, Tryz.ntmps48
  go_wp2_with fail
  go_region_law (go_loud (refine step_append_lies _ (by rfl) _ _ _ (by rfl) W.heap.size 101 i0 (.agg #[.int .i64 0, .int .i64 0, .pointer none, .int .i64 0]) 4 32 Tryz.underlying60 hi hz0 hz1 hz2 rfl (by omega) (.slice P E.length c) E.length (oV E) (by rfl) (row_later (HA.out.own HC.out) (below_two rfl rfl rfl rfl)) ⟨w.heap.size + 1, 0, none⟩ 1 1 (oE x) (by rfl) (by rfl) (World.news_of_block (cs := #[.int .i64 x.kd, .int .i64 x.dt, .pointer (cp x.ch), .int .i64 x.gn]) (t := 101) (fr := (0, 0)) (news_two (w := w) (by rfl))) (oE_one x) (by omega) (by unfold maxLen; omega) (by omega) (by simp; omega) (w.heap.size + 2) (by simp) ?_; intro q cap w1 hown hgrow hat hlt1; have HM := HA.out.mid HC.out (by exact below_two rfl rfl rfl rfl) hgrow; have HE := Lib.hid (HA.out.added (x := x) HC.out (by exact below_two rfl rfl rfl rfl) hown hgrow (hat.imp id (by omega))); have hc1 := HM.1; have hf1 := HM.2; clear HM hown hgrow hat hlt1 c0 f0))
  all_goals
    go_wp2_with fail
    refine (arm_set (i := E.length) y z HE.out.1 (by simp) HG.out.1 HG.out.2 HF.out.1 HF.out.2 (by simp; omega) HN.out.2.1 HN.out.2.2).mono ?_
    rintro e w2 hz
    rw [up_snoc] at hz
    have HZ := Lib.hid (SZ.after HE.out.2 hz)
    obtain rfl := hz.1
    clear hz HE
    go_wp2_with fail
    go_ret
    exact HZ.out.but
end
end Go.Proofs.YtmadcnpkaijllaaGreat
namespace Go.Proofs.YtmadcnpkaijllaaGreat
open Go.RowKit Ch
set_option linter.unusedVariables false
set_option maxRecDepth 100000
/-- No block of the document's timers has turned. -/
def RF (w w' : World) : Prop := ∀ (k : Nat) (cs : Array Value) (ty : TypeId) (fr : Nat × Nat), w.heap[k]? = some (.cells cs ty fr) → (ty = 35 ∨ ty = 94) → w'.heap[k]? = some (.cells cs ty fr)
theorem OZ.rf {w w' : World} (h : OZ w w') : RF w w' := fun k cs ty fr e h2 => h k cs ty fr e (by rcases h2 with rfl | rfl <;> decide)
theorem RF.of_below {w w' : World} (h : Below w.heap.size w w') : RF w w' := fun k cs t fr h1 _ => (h.block k (lt_of_blk h1)).trans h1
theorem RF.row {w w' : World} {B e s n c : Nat} {P : Option Addr} {xs : List Value} (h : RF w w') (r : w.ownsRow B e s (.slice P n c) n xs) (he : e = 35 ∨ e = 94) : w'.ownsRow B e s (.slice P n c) n xs :=
  row_keep r fun k hk => by
    obtain ⟨cs, fr, ht⟩ := row_tag r hk
    rw [ht]; exact h k cs e fr ht he
theorem OZ.row {w w' : World} {B e s n c : Nat} {P : Option Addr} {xs : List Value} (h : OZ w w') (r : w.ownsRow B e s (.slice P n c) n xs) (he : OthZ e) : w'.ownsRow B e s (.slice P n c) n xs :=
  row_keep r fun k hk => by
    obtain ⟨cs, fr, ht⟩ := row_tag r hk
    rw [ht]; exact h k cs e fr ht he
section
variable {B m n c d2 : Nat} {rA rN : Value} {w w' : World} {A P : Option Addr} {p : Option Nat} {S Q : List It} {g : Int → Int} {Rx : List Value}
theorem MX.rf (h : MX Rx 35 B w m n A c S) (f : RF w w') : MX Rx 35 B w' m n A c S := ⟨f m _ 35 (0, 0) h.hb (.inl rfl), h.wn.keep fun g cur _ hg => f g cur 94 (0, 0) hg (.inr rfl), h.lo, h.nn, h.ty⟩
theorem MY.rf (h : MY B m rA rN A c P d2 n S Q w) (f : RF w w') : MY B m rA rN A c P d2 n S Q w' := ⟨h.mx.rf f, f.row h.row (.inr rfl), h.ap⟩
theorem MT.rf (h : MT B m rA rN p n S g w) (f : RF w w') : MT B m rA rN p n S g w' := by
  obtain ⟨A, c, P, c2, Q, e, h1, h2⟩ := h
  exact ⟨A, c, P, c2, Q, e, h1.rf f, h2⟩
theorem MT.blk (h : MT B m rA rN p n S g w) : B ≤ m ∧ ∃ A c u v, Wn w B A S.length c S ∧ w.heap[m]? = some (.cells #[.slice A S.length c, u, v, rA, rN] 35 (0, 0)) := by
  obtain ⟨A, c, P, c2, Q, e, h1, h2⟩ := h
  exact ⟨h1.mx.lo, A, c, _, _, h1.mx.wn, h1.mx.hb⟩
theorem MT.setA (h : MT B m rA rN p n S g w) (u : Value) : MT B m u rN p n S g (w.setCell ⟨m, 3, none⟩ u) := by
  obtain ⟨A, c, P, c2, Q, e, h1, h2⟩ := h
  have key : ∀ k, k ≠ m → (w.setCell ⟨m, 3, none⟩ u).heap[k]? = w.heap[k]? := fun k hk => Below.heap_setCell _ _ _ _ (by exact hk)
  have tag : ∀ (k : Nat) (cs : Array Value) (fr : Nat × Nat), w.heap[k]? = some (.cells cs 94 fr) → k ≠ m := fun k cs fr e9 => by
    rintro rfl
    have h3 := h1.mx.hb
    rw [e9] at h3; injection h3 with h3; injection h3 with _ h3 _; cases h3
  refine ⟨A, c, P, c2, Q, e, ⟨⟨?_, h1.mx.wn.keep fun g cur _ hg => (key g (tag g _ _ hg)).trans hg, h1.mx.lo, h1.mx.nn, h1.mx.ty⟩, row_keep h1.row fun k hk => key k ?_, h1.ap⟩, h2⟩
  · rw [heap_setCell_same w m 3 _ _ u h1.mx.hb]; rfl
  · obtain ⟨cs, fr, ht⟩ := row_tag h1.row hk
    exact tag k _ _ ht
theorem MT.setN (h : MT B m rA rN p n S g w) (u : Value) : MT B m rA u p n S g (w.setCell ⟨m, 4, none⟩ u) := by
  obtain ⟨A, c, P, c2, Q, e, h1, h2⟩ := h
  have key : ∀ k, k ≠ m → (w.setCell ⟨m, 4, none⟩ u).heap[k]? = w.heap[k]? := fun k hk => Below.heap_setCell _ _ _ _ (by exact hk)
  have tag : ∀ (k : Nat) (cs : Array Value) (fr : Nat × Nat), w.heap[k]? = some (.cells cs 94 fr) → k ≠ m := fun k cs fr e9 => by
    rintro rfl
    have h3 := h1.mx.hb
    rw [e9] at h3; injection h3 with h3; injection h3 with _ h3 _; cases h3
  refine ⟨A, c, P, c2, Q, e, ⟨⟨?_, h1.mx.wn.keep fun g cur _ hg => (key g (tag g _ _ hg)).trans hg, h1.mx.lo, h1.mx.nn, h1.mx.ty⟩, row_keep h1.row fun k hk => key k ?_, h1.ap⟩, h2⟩
  · rw [heap_setCell_same w m 4 _ _ u h1.mx.hb]; rfl
  · obtain ⟨cs, fr, ht⟩ := row_tag h1.row hk
    exact tag k _ _ ht
end
/-- The document's set: E were made, m of them limited; armed are S, by n armings so far, with periods g. -/
structure RS (W : World) (mo : Nat) (E : List On) (m n : Nat) (S : List It) (g : Int → Int) (w : World) : Prop where
  ex : ∃ p P c, MT W.heap.size mo (.slice P E.length c) (.int .i64 m) p n S g w ∧ w.ownsRow W.heap.size 122 4 (.slice P E.length c) E.length (oV E)
/-- Nothing but the document's own set has turned. -/
def RX (w w' : World) : Prop := w.heap.size ≤ w'.heap.size ∧ ∀ (k : Nat) (o : Obj), w.heap[k]? = some o → (∀ cs fr, o ≠ .cells cs 35 fr ∧ o ≠ .cells cs 94 fr ∧ o ≠ .cells cs 122 fr) → w'.heap[k]? = some o
theorem RX.refl (w : World) : RX w w := ⟨Nat.le_refl _, fun _ _ h _ => h⟩
theorem RX.trans {u v w : World} (h : RX u v) (k : RX v w) : RX u w := ⟨Nat.le_trans h.1 k.1, fun i o h1 h2 => k.2 i o (h.2 i o h1 h2) h2⟩
theorem RX.of_below {w w' : World} (h : Below w.heap.size w w') : RX w w' := ⟨h.size, fun k o h1 _ => (h.block k (lt_of_blk h1)).trans h1⟩
theorem RX.at {w w' : World} (h : RX w w') {k : Nat} {cs : Array Value} {ty : TypeId} {fr : Nat × Nat} (hk : w.heap[k]? = some (.cells cs ty fr)) (ht : ty ≠ 35 ∧ ty ≠ 94 ∧ ty ≠ 122) : w'.heap[k]? = some (.cells cs ty fr) :=
  h.2 k _ hk fun cs' fr' => ⟨fun e => (by injection e with _ e _; exact ht.1 e), fun e => (by injection e with _ e _; exact ht.2.1 e), fun e => (by injection e with _ e _; exact ht.2.2 e)⟩
/-- What a call of the document's answers, and what its set has come to be. -/
def RZ (W : World) (mo : Nat) (E : List On) (m n : Nat) (S : List It) (g : Int → Int) (v : Value) (w : World) (e : Ending) (w' : World) : Prop :=
  e = .returned v ∧ RS W mo E m n S g w' ∧ RX w w' ∧ Below W.heap.size w w'
section
variable {RC : List Nat} {RT : List CS} {W w w' w'' w1 : World} {t mo m n n' i j c k : Nat} {E E' : List On} {S S' : List It} {g g' : Int → Int} {L L' : List (Nat × CS)} {v : Value} {e : Ending} {x : On} {s s' : CS}
theorem SS.rx (h : SS W RC RT t E m n S g L w) (k : RX w w') (hb : Below W.heap.size w w') : SS W RC RT t E m n S g L w' := by
  obtain ⟨h0, P, c, h1, h2⟩ := h
  refine ⟨h0.tg ⟨k.1, fun b cs ty fr e1 e2 => k.at e1 (by rcases e2 with rfl | rfl | rfl | rfl | rfl | rfl <;> decide)⟩ (h0.bel.trans hb), P, c, h1.keep fun j hj hi => ?_, row_keep h2 fun q hq => ?_⟩
  · rcases hi with ⟨cs, ty, fr, e1, e2⟩ | ⟨es, cl, e1⟩
    · rw [e1]; exact k.at e1 (by rcases e2 with rfl | rfl | rfl <;> decide)
    · rw [e1]
      exact k.2 j _ e1 fun cs fr => ⟨fun e => (by cases e), fun e => (by cases e), fun e => (by cases e)⟩
  · obtain ⟨cs, fr, e1⟩ := row_tag h2 hq
    rw [e1]; exact k.at e1 (by decide)
theorem RS.oz (h : RS W mo E m n S g w) (z : OZ w w') : RS W mo E m n S g w' := by
  obtain ⟨p, P, c, h1, h2⟩ := h
  exact ⟨p, P, c, h1.rf z.rf, z.row h2 (by decide)⟩
theorem RS.later (h : RS W mo E m n S g w) (hb : Below w.heap.size w w') : RS W mo E m n S g w' := h.oz (OZ.of_below hb)
theorem RS.box (h : RS W mo E m n S g w) (u : Obj) : RS W mo E m n S g (w.alloc u) := h.later (below_al w u)
theorem RS.lt (h : RS W mo E m n S g w) : mo < w.heap.size := by
  obtain ⟨p, P, c, h1, h2⟩ := h
  exact h1.lt
theorem RS.lo (h : RS W mo E m n S g w) : W.heap.size ≤ mo := by
  obtain ⟨p, P, c, h1, h2⟩ := h
  exact h1.lo
theorem RS.hB (h : RS W mo E m n S g w) : W.heap.size ≤ w.heap.size := by have := h.lt; have := h.lo; omega
theorem RS.rz (h : RS W mo E m n S g w) (hr : e = .returned v ∧ Below w.heap.size w w') : RZ W mo E m n S g v w e w' := ⟨hr.1, h.later hr.2, RX.of_below hr.2, hr.2.mono h.hB⟩
theorem RZ.but {u : Value} (h : RZ W mo E m n S g v w e w') : RZ W mo E m n S g u w (.returned u) w' := ⟨rfl, h.2⟩
theorem RZ.after (h : RX w w') (hb : Below W.heap.size w w') (k : RZ W mo E m n S g v w' e w'') : RZ W mo E m n S g v w e w'' := ⟨k.1, k.2.1, h.trans k.2.2.1, hb.trans k.2.2.2⟩
theorem RZ.from (hB : W.heap.size ≤ w.heap.size) (hb : Below w.heap.size w w') (h : RZ W mo E m n S g v w' e w'') : RZ W mo E m n S g v w e w'' := h.after (RX.of_below hb) (hb.mono hB)
/-- What its timers do. -/
theorem RS.tim (h : RS W mo E m n S g w) {f : Nat} {args : Array Value} (hc : ∀ rA rN p, MT W.heap.size mo rA rN p n S g w → Calls Tryz.prog f args w (MC W.heap.size mo rA rN p n' S' g' v w)) : Calls Tryz.prog f args w (RZ W mo E m n' S' g' v w) := by
  have hB := h.hB
  obtain ⟨p, P, c, h1, h2⟩ := h
  refine (hc _ _ p h1).mono fun e w' r => ?_
  obtain ⟨h3, p', h4, h5⟩ := r
  have far : ∀ k, k < w.heap.size → (∀ cs fr, w.heap[k]? ≠ some (.cells cs 35 fr)) → (∀ cs fr, w.heap[k]? ≠ some (.cells cs 94 fr)) → w'.heap[k]? = w.heap[k]? := fun k hk a1 a2 => h5.block k hk (by
    rintro rfl
    obtain ⟨cs, h6⟩ := h1.tm
    exact a1 _ _ h6) (fun e9 => by
    obtain ⟨cs, fr, h6⟩ := h1.tp e9
    exact a2 _ _ h6)
  refine ⟨h3, ⟨p', P, c, h4, row_keep h2 fun k hk => ?_⟩, ⟨h5.size, fun k o a1 a2 => (far k (lt_of_blk a1) ?_ ?_).trans a1⟩, h1.low hB h5⟩
  · obtain ⟨cs, fr, h6⟩ := row_tag h2 hk
    refine far k (lt_of_blk h6) ?_ ?_
    · intro cs' fr' e9; rw [h6] at e9; injection e9 with e9; injection e9 with _ e9 _; exact absurd e9 (by decide)
    · intro cs' fr' e9; rw [h6] at e9; injection e9 with e9; injection e9 with _ e9 _; exact absurd e9 (by decide)
  · intro cs' fr' e9; rw [a1] at e9; injection e9 with e9; exact (a2 cs' fr').1 e9
  · intro cs' fr' e9; rw [a1] at e9; injection e9 with e9; exact (a2 cs' fr').2.1 e9
/-- Its own cells. -/
theorem RS.cells (h : RS W mo E m n S g w) : ∃ P c, w.cell? ⟨mo, 3, none⟩ = some (.slice P E.length c) ∧ w.cell? ⟨mo, 4, none⟩ = some (.int .i64 m) ∧ w.frozen? ⟨mo, 3, none⟩ = false ∧ w.frozen? ⟨mo, 4, none⟩ = false ∧
    ∀ i x, E[i]? = some x → ∃ q, P = some ⟨q, 0, none⟩ ∧ q < w.heap.size ∧ (w.cell? ⟨q, i * 4, none⟩ = some (.int .i64 x.kd) ∧ w.cell? ⟨q, i * 4 + 1, none⟩ = some (.int .i64 x.dt) ∧ w.cell? ⟨q, i * 4 + 2, none⟩ = some (.pointer (cp x.ch)) ∧ w.cell? ⟨q, i * 4 + 3, none⟩ = some (.int .i64 x.gn)) ∧ (∀ k, w.frozen? ⟨q, k, none⟩ = false) ∧
      ∀ y, RS W mo (E.set i { x with gn := y }) m n S g (w.setCell ⟨q, i * 4 + 3, none⟩ (.int .i64 y)) ∧ RX w (w.setCell ⟨q, i * 4 + 3, none⟩ (.int .i64 y)) ∧ Below W.heap.size w (w.setCell ⟨q, i * 4 + 3, none⟩ (.int .i64 y)) := by
  have hB9 := h.hB
  obtain ⟨p, P, c, h1, h2⟩ := h
  obtain ⟨hB, A, c2, u, v, hwn, hb⟩ := h1.blk
  refine ⟨P, c, by rw [cell_of_row w mo 3 _ _ _ hb]; rfl, by rw [cell_of_row w mo 4 _ _ _ hb]; rfl, frozen_of_row w mo 3 _ _ hb, frozen_of_row w mo 4 _ _ hb, fun i x hx => ?_⟩
  have hi := (List.getElem?_eq_some_iff.1 hx).1
  obtain ⟨q, hP, hle⟩ := row_form h2 (by omega)
  subst hP
  have hc : ∀ j, j < 4 → w.cell? ⟨q, i * 4 + j, none⟩ = (oE x)[j]? := fun j hj => by
    rw [h2.cellAt (i * 4 + j) (by omega)]
    exact oV_at hx j hj
  refine ⟨q, rfl, (row_lt h2 rfl).2, ⟨hc 0 (by omega), hc 1 (by omega), hc 2 (by omega), hc 3 (by omega)⟩, fun k => h2.frozenAt k, fun y => ?_⟩
  obtain ⟨cs, fr, hq⟩ := row_tag h2 rfl
  have hqB := (row_lt h2 rfl).1
  have key : ∀ j, j ≠ q → (w.setCell ⟨q, i * 4 + 3, none⟩ (.int .i64 y)).heap[j]? = w.heap[j]? := fun j hj => Below.heap_setCell _ _ _ _ (by exact hj)
  have r := (h2.stored (i * 4 + 3) (.int .i64 y)).1
  rw [oV_set hx] at r
  refine ⟨⟨p, some ⟨q, 0, none⟩, c, ?_, ?_⟩, ⟨by simp [World.setCell], fun j o e1 e2 => (key j ?_).trans e1⟩, (Below.refl _ _).setCell (show W.heap.size ≤ (⟨q, i * 4 + 3, none⟩ : Addr).block from hqB) _⟩
  · rw [List.length_set]
    exact h1.rf fun j cs' ty fr' e1 e2 => (key j (by
      rintro rfl
      rw [e1] at hq; injection hq with hq; injection hq with _ hq _; rcases e2 with e2 | e2 <;> (rw [e2] at hq; exact absurd hq (by decide)))).trans e1
  · rw [List.length_set]; exact r
  · rintro rfl
    rw [hq] at e1; injection e1 with e1
    exact (e2 cs fr).2.2 e1.symm
/-- One more: what an append and the store behind it leave. -/
theorem RS.added {wy : World} {gB cap cc : Nat} {P : Option Addr} (h : RS W mo E m n S g w) (hc0 : w.cell? ⟨mo, 3, none⟩ = some (.slice P E.length cc)) (hy : Below w.heap.size w wy)
    (ho : w1.ownsRow W.heap.size 122 4 (.slice (some ⟨gB, 0, none⟩) (E.length + 1) cap) (E.length + 1) (oV E ++ oE x)) (hg : wy.grownBy w1 (Value.slice P E.length cc).ownBlock) (hat : (Value.slice P E.length cc).ownBlock = some gB ∨ w.heap.size ≤ gB) :
    RS W mo (E ++ [x]) m n S g (w1.setCell ⟨mo, 3, none⟩ (.slice (some ⟨gB, 0, none⟩) (E.length + 1) cap)) ∧ RX w (w1.setCell ⟨mo, 3, none⟩ (.slice (some ⟨gB, 0, none⟩) (E.length + 1) cap)) ∧ Below W.heap.size w (w1.setCell ⟨mo, 3, none⟩ (.slice (some ⟨gB, 0, none⟩) (E.length + 1) cap)) := by
  have hB9 := h.hB
  rw [own_blk] at hg hat
  obtain ⟨p, P', c', h1, h2⟩ := h
  obtain ⟨hB, A, c2, u, v, hwn, hb⟩ := h1.blk
  have e0 : w.cell? ⟨mo, 3, none⟩ = some (.slice P' E.length c') := by rw [cell_of_row w mo 3 _ _ _ hb]; rfl
  rw [hc0] at e0
  injection e0 with e0; injection e0 with e0 _ e1
  subst e0; subst e1
  have hs := hy.size
  have hsz : w.heap.size ≤ w1.heap.size := by have := hg.size; omega
  have old : ∀ j, j < w.heap.size → (∀ cs fr, w.heap[j]? ≠ some (.cells cs 122 fr)) → w1.heap[j]? = w.heap[j]? := fun j hj hn => (hg.block j (by omega) (fun e => by
    obtain ⟨cs, fr, hq⟩ := row_tag h2 e.symm
    exact hn _ _ hq)).trans (hy.block j hj)
  have rf : RF w w1 := fun j cs ty fr e1 e2 => (old j (lt_of_blk e1) fun cs9 fr9 e9 => by
    rw [e1] at e9; injection e9 with e9; injection e9 with _ e9 _; rcases e2 with e2 | e2 <;> (rw [e2] at e9; exact absurd e9 (by decide))).trans e1
  have hbel : Below W.heap.size w w1 := ⟨hg.os.trans hy.os, hg.tape.trans hy.tape, hg.output.trans hy.output, hsz, fun k hk =>
    (hg.block k (by omega) (fun e => by have := (row_lt h2 e.symm).1; omega)).trans (hy.block k (by omega))⟩
  have hb1 : w1.heap[mo]? = some (.cells #[.slice A S.length c2, u, v, .slice P E.length cc, .int .i64 m] 35 (0, 0)) := rf mo _ 35 _ hb (.inl rfl)
  obtain ⟨cs, fr, hq⟩ := row_tag ho rfl
  have htg : mo ≠ gB := by
    rintro rfl
    rw [hb1] at hq; injection hq with hq; injection hq with _ hq _; exact absurd hq (by decide)
  have key : ∀ k, k ≠ mo → (w1.setCell ⟨mo, 3, none⟩ (.slice (some ⟨gB, 0, none⟩) (E.length + 1) cap)).heap[k]? = w1.heap[k]? := fun k hk => Below.heap_setCell _ _ _ _ (by exact hk)
  have e5 : (E ++ [x]).length = E.length + 1 := by simp
  refine ⟨⟨p, some ⟨gB, 0, none⟩, cap, ?_, ?_⟩, ⟨by simp [World.setCell]; omega, fun k o a1 a2 => ?_⟩, hbel.setCell (show W.heap.size ≤ (⟨mo, 3, none⟩ : Addr).block from hB) _⟩
  · rw [e5]; exact (h1.rf rf).setA _
  · rw [e5, ← oV_snoc]
    refine row_keep ho fun k hk => ?_
    injection hk with hk; subst hk
    exact key _ htg.symm
  · rw [key k ?_, old k (lt_of_blk a1) ?_]
    · exact a1
    · intro cs9 fr9 e9; rw [a1] at e9; injection e9 with e9; exact (a2 cs9 fr9).2.2 e9
    · rintro rfl
      rw [hb] at a1; injection a1 with a1; exact (a2 _ _).1 a1.symm
/-- The limited ones are others. -/
theorem RS.lim (h : RS W mo E m n S g w) (m' : Nat) : RS W mo E m' n S g (w.setCell ⟨mo, 4, none⟩ (.int .i64 m')) ∧ RX w (w.setCell ⟨mo, 4, none⟩ (.int .i64 m')) ∧ Below W.heap.size w (w.setCell ⟨mo, 4, none⟩ (.int .i64 m')) := by
  have hB9 := h.hB
  obtain ⟨p, P, c, h1, h2⟩ := h
  obtain ⟨hB, A, c2, u, v, hwn, hb⟩ := h1.blk
  have key : ∀ k, k ≠ mo → (w.setCell ⟨mo, 4, none⟩ (.int .i64 m')).heap[k]? = w.heap[k]? := fun k hk => Below.heap_setCell _ _ _ _ (by exact hk)
  refine ⟨⟨p, P, c, h1.setN _, row_keep h2 fun k hk => key k ?_⟩, ⟨by simp [World.setCell], fun k o a1 a2 => (key k ?_).trans a1⟩, (Below.refl _ _).setCell (show W.heap.size ≤ (⟨mo, 4, none⟩ : Addr).block from hB) _⟩
  · rintro rfl
    obtain ⟨cs, fr, hq⟩ := row_tag h2 hk
    rw [hb] at hq; injection hq with hq; injection hq with _ hq _; exact absurd hq (by decide)
  · rintro rfl
    rw [hb] at a1; injection a1 with a1; exact (a2 _ _).1 a1.symm
theorem RS.mid {wx : World} {P : Option Addr} (h : RS W mo E m n S g w) (hc0 : w.cell? ⟨mo, 3, none⟩ = some (.slice P E.length c)) (hx : Below w.heap.size w wx) (hg : wx.grownBy w1 (Value.slice P E.length c).ownBlock) : w1.cell? ⟨mo, 3, none⟩ = some (.slice P E.length c) ∧ w1.frozen? ⟨mo, 3, none⟩ = false := by
  obtain ⟨p, P', c', h1, h2⟩ := h
  obtain ⟨hB, A, c2, u, v, hwn, hb⟩ := h1.blk
  have e0 : w.cell? ⟨mo, 3, none⟩ = some (.slice P' E.length c') := by rw [cell_of_row w mo 3 _ _ _ hb]; rfl
  rw [hc0] at e0
  injection e0 with e0; injection e0 with e0 _ e1
  subst e0; subst e1
  rw [own_blk] at hg
  have hk := (hg.block mo (by have := hx.size; have := lt_of_blk hb; omega) (fun e => by
    obtain ⟨cs, fr, hq⟩ := row_tag h2 e.symm
    rw [hb] at hq; injection hq with hq; injection hq with _ hq _; exact absurd hq (by decide))).trans (hx.block mo (lt_of_blk hb))
  exact ⟨(cell_blk hk 3).trans hc0, (frozen_blk hk 3).trans (frozen_of_row w mo 3 _ _ hb)⟩
theorem RS.own {P : Option Addr} (h : RS W mo E m n S g w) (hc0 : w.cell? ⟨mo, 3, none⟩ = some (.slice P E.length c)) : w.ownsRow W.heap.size 122 4 (.slice P E.length c) E.length (oV E) := by
  obtain ⟨p, P', c', h1, h2⟩ := h
  obtain ⟨hB, A, c2, u, v, hwn, hb⟩ := h1.blk
  have e0 : w.cell? ⟨mo, 3, none⟩ = some (.slice P' E.length c') := by rw [cell_of_row w mo 3 _ _ _ hb]; rfl
  rw [hc0] at e0
  injection e0 with e0; injection e0 with e0 _ e1
  subst e0; subst e1
  exact h2
end
end Go.Proofs.YtmadcnpkaijllaaGreat
