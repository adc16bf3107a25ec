/- Stop, Reset and Fire of package timer. Conditions: each theorem's own premises.
Fire of package timer. Conditions: each theorem's own premises.
The document's own set: Take, Drop, Stop, Reset. Conditions: each theorem's own premises. -/
import Derived.Test.YtmadcnpkaijllaaGreatSmk
import Derived.Test.YtmadcnpkaijllaaGreatRsmm
namespace Go.Proofs.YtmadcnpkaijllaaGreat
open Go.RowKit Ch
set_option linter.unusedVariables false
set_option maxRecDepth 100000
section
variable {RC : List Nat} {RT : List CS} {W w w' w'' : World} {t m n n' i j c : Nat} {E E' : List On} {S S' : List It} {g g' : Int → Int} {L L' : List (Nat × CS)} {v : Value} {e : Ending} {x : On} {s s' : CS}
/-- The channel of one that was made is dropped: the channels, and whether it had a value. -/
structure Drp (L : List (Nat × CS)) (x : On) (L' : List (Nat × CS)) (b : Bool) : Prop where
  h : (x.ch = none ∧ L' = L ∧ b = false) ∨ ∃ c j s, x.ch = some c ∧ L[j]? = some (c, s) ∧ s.kd = 1 ∧ L' = L.set j (c, { s with l := [] }) ∧ b = decide (0 < s.l.length)
theorem Drp.none (hc : x.ch = none) : Drp L x L false := ⟨.inl ⟨hc, rfl, rfl⟩⟩
theorem Drp.chan (hc : x.ch = some c) (hi : L[j]? = some (c, s)) (hk : s.kd = 1) : Drp L x (L.set j (c, { s with l := [] })) (decide (0 < s.l.length)) := ⟨.inr ⟨c, j, s, hc, hi, hk, rfl, rfl⟩⟩
theorem stopS (h : SS W RC RT t E m n S g L w) (hx : E[i]? = some x) {b : Bool} (hd : Drp L x L' b) (hE : E.length ≤ 100000) (hl : S.length ≤ 1000) :
    Calls Tryz.prog 44 #[pS t, .int .i64 (i : Int)] w (SZ W RC RT t E m n (del i S) (fput g i 0) L' (.bool (decide ((i : Int) ∈ ids S) || b)) w) := by
  rcases hd.h with ⟨hc, rfl, rfl⟩ | ⟨c, j, s, hc, hi, hk, rfl, rfl⟩
  · rw [Bool.or_false]
    exact stopS_no h hx hc hE hl
  · exact stopS_ch h hx hc hi hk hE hl
/-- Stop, of one that was made. -/
theorem stop_set (h : SS W RC RT t E m n S g L w) (hx : E[i]? = some x) {b : Bool} (hd : Drp L x L' b) (hk : x.kd ≠ 0) (hE : E.length ≤ 100000) (hl : S.length ≤ 1000) :
    Calls Tryz.prog 10 #[pS t, .int .i64 (i : Int)] w (SZ W RC RT t E m n (del i S) (fput g i 0) L' (.tuple #[.bool (decide ((i : Int) ∈ ids S) || b), .int .i64 0]) w) := by
  have HA := Lib.hid h
  have hk2 : (x.kd == 0) = false := by simpa using hk
  have HX := Lib.hid hx
  clear h hk hx
  go_enter Tryz.func10, Tryz.ntmps10
  go_wp2_with fail
  refine (kind_any _ HA.out).mono ?_
  rintro e w1 hz
  rw [eA_at HX.out] at hz
  have HZ := Lib.hid hz
  obtain rfl := hz.1
  clear hz
  go_wp2_with fail
  refine (stopS HZ.out.2.1 HX.out hd hE hl).mono ?_
  rintro e w2 hz
  have HY := Lib.hid (SZ.after HZ.out.2.2 hz)
  obtain rfl := hz.1
  clear hz HZ hd
  generalize (decide ((i : Int) ∈ ids S) || b) = d at *
  go_wp2_with fail
  go_ret2
  exact HY.out.but
theorem stop_none {k : Int} (h : SS W RC RT t E m n S g L w) (hk : k < 0 ∨ (E.length : Int) ≤ k) : Calls Tryz.prog 10 #[pS t, .int .i64 k] w (SZ W RC RT t E m n S g L (.tuple #[.bool false, .int .i64 4]) w) := by
  have HA := Lib.hid h
  clear h
  go_enter Tryz.func10, Tryz.ntmps10
  go_wp2_with fail
  refine (kind_any _ HA.out).mono ?_
  rintro e w1 hz
  rw [eA_no hk] at hz
  have HZ := Lib.hid hz
  obtain rfl := hz.1
  clear hz
  simp only [zO]
  go_wp2_with fail
  go_ret2
  exact HZ.out.but
set_option maxHeartbeats 4000000 in
/-- Reset, of one that was made and may be armed so. -/
theorem reset_ok {now d : Int} (h : SS W RC RT t E m n S g L w) (hx : E[i]? = some x) {b : Bool} (hd : Drp L x L' b) (hk : x.kd ≠ 0) (hk4 : x.kd ≠ 4) (ho : DueOk x.kd now d) (hg0 : 0 ≤ x.gn) (hg1 : x.gn ≤ 1000000) (hE : E.length ≤ 100000) (hn : n ≤ 1000000) (hl : S.length < 1000) :
    Calls Tryz.prog 13 #[pS t, .int .i64 (i : Int), .int .i64 now, .int .i64 d] w (SZ W RC RT t (E.set i (up x)) m (n + 1) (ins ⟨i, wn now d, (n : Int) + 1⟩ (del i S)) (fput g i (per x.kd d)) L' (.tuple #[.bool (decide ((i : Int) ∈ ids S) || b), .int .i64 0]) w) := by
  have HA := Lib.hid h
  have hk2 : (x.kd == 0) = false := by simpa using hk
  have hk3 : (x.kd == 4) = false := by simpa using hk4
  have HX := Lib.hid hx
  have F := fun w => due_ok w ho
  have HW := Lib.hid (And.intro (wn_fit d ho.1) (per_fit x.kd d))
  have HN := Lib.hid (And.intro (And.intro hg0 hg1) (And.intro hE (And.intro hn hl)))
  have hdl : (del i S).length ≤ S.length := by unfold del; exact List.length_filter_le _ _
  have hdd : del i (del i S) = del i S := by
    apply del_none; exact del_ids
  clear h hk hk4 hx hg0 hg1 hn
  generalize wn now d = y at *
  generalize per x.kd d = z at *
  go_enter Tryz.func13, Tryz.ntmps13
  go_wp2_with fail
  refine (kind_any _ HA.out).mono ?_
  rintro e w1 hz
  rw [eA_at HX.out] at hz
  have HZ := Lib.hid hz
  obtain rfl := hz.1
  clear hz
  go_wp2_with fail
  refine (F _).mono ?_
  rintro e w1' ⟨rfl, rfl⟩
  go_wp2_with fail
  refine (stopS HZ.out.2.1 HX.out hd hE (by omega)).mono ?_
  rintro e w2 hz
  have HY := Lib.hid (SZ.after HZ.out.2.2 hz)
  obtain rfl := hz.1
  clear hz HZ hd
  generalize (decide ((i : Int) ∈ ids S) || b) = dd at *
  go_wp2_with fail
  refine (arm_set y z HY.out.2.1 HX.out HN.out.1.1 HN.out.1.2 HW.out.1 HW.out.2 HN.out.2.1 HN.out.2.2.1 (by omega)).mono ?_
  rintro e w3 hz
  rw [hdd, fput_two] at hz
  have HV := Lib.hid (SZ.after HY.out.2.2 hz)
  obtain rfl := hz.1
  clear hz HY
  go_wp2_with fail
  go_ret2
  exact HV.out.but
theorem reset_none {k now d : Int} (h : SS W RC RT t E m n S g L w) (hk : k < 0 ∨ (E.length : Int) ≤ k) : Calls Tryz.prog 13 #[pS t, .int .i64 k, .int .i64 now, .int .i64 d] w (SZ W RC RT t E m n S g L (.tuple #[.bool false, .int .i64 4]) w) := by
  have HA := Lib.hid h
  clear h
  go_enter Tryz.func13, Tryz.ntmps13
  go_wp2_with fail
  refine (kind_any _ HA.out).mono ?_
  rintro e w1 hz
  rw [eA_no hk] at hz
  have HZ := Lib.hid hz
  obtain rfl := hz.1
  clear hz
  simp only [zO]
  go_wp2_with fail
  go_ret2
  exact HZ.out.but
theorem reset_bad {now d : Int} (h : SS W RC RT t E m n S g L w) (hx : E[i]? = some x) (hk : x.kd ≠ 0) (ho : ¬ DueOk x.kd now d) : Calls Tryz.prog 13 #[pS t, .int .i64 (i : Int), .int .i64 now, .int .i64 d] w (SZ W RC RT t E m n S g L (.tuple #[.bool false, .int .i64 1]) w) := by
  have HA := Lib.hid h
  have hk2 : (x.kd == 0) = false := by simpa using hk
  have HX := Lib.hid hx
  have F := fun w => due_bad w ho
  clear h hk hx
  go_enter Tryz.func13, Tryz.ntmps13
  go_wp2_with fail
  refine (kind_any _ HA.out).mono ?_
  rintro e w1 hz
  rw [eA_at HX.out] at hz
  have HZ := Lib.hid hz
  obtain rfl := hz.1
  clear hz
  go_wp2_with fail
  refine (F _).mono ?_
  rintro e w1' ⟨rfl, rfl⟩
  go_wp2_with fail
  go_ret2
  exact HZ.out.but
theorem reset_kind {now d : Int} (h : SS W RC RT t E m n S g L w) (hx : E[i]? = some x) (hk : x.kd = 4) (ho : DueOk 4 now d) : Calls Tryz.prog 13 #[pS t, .int .i64 (i : Int), .int .i64 now, .int .i64 d] w (SZ W RC RT t E m n S g L (.tuple #[.bool false, .int .i64 7]) w) := by
  have HA := Lib.hid h
  have HX := Lib.hid hx
  have F := fun w => due_ok w ho
  clear h hx
  go_enter Tryz.func13, Tryz.ntmps13
  go_wp2_with fail
  refine (kind_any _ HA.out).mono ?_
  rintro e w1 hz
  rw [eA_at HX.out, hk] at hz
  have HZ := Lib.hid hz
  obtain rfl := hz.1
  clear hz
  go_wp2_with fail
  refine (F _).mono ?_
  rintro e w1' ⟨rfl, rfl⟩
  go_wp2_with fail
  go_ret2
  exact HZ.out.but
end
end Go.Proofs.YtmadcnpkaijllaaGreat
namespace Go.Proofs.YtmadcnpkaijllaaGreat
open Go.RowKit Ch
set_option linter.unusedVariables false
set_option maxRecDepth 100000
section
variable {RC : List Nat} {RT : List CS} {W w w' w'' : World} {t m n n' i j c : Nat} {E E' : List On} {S S' : List It} {g g' : Int → Int} {L L' : List (Nat × CS)} {v : Value} {e : Ending} {x : On} {s s' : CS} {ws : List Wk} {kept : Bool} {now : Int}
/-- A time is put on the channel of one that was made: the channels, who is woken, and whether it was kept. -/
structure Pt (L : List (Nat × CS)) (x : On) (now : Int) (L' : List (Nat × CS)) (ws : List Wk) (kept : Bool) : Prop where
  h : (x.ch = none ∧ L' = L ∧ ws = [] ∧ kept = false) ∨ ∃ c j s s', x.ch = some c ∧ L[j]? = some (c, s) ∧ s.kd = 1 ∧ s.rs.length ≤ 1000000 ∧ gv s now = (s', ws, kept) ∧ L' = L.set j (c, s')
theorem Pt.none (hc : x.ch = none) : Pt L x now L [] false := ⟨.inl ⟨hc, rfl, rfl, rfl⟩⟩
theorem Pt.chan (hc : x.ch = some c) (hi : L[j]? = some (c, s)) (hk : s.kd = 1) (hr : s.rs.length ≤ 1000000) (hg : gv s now = (s', ws, kept)) : Pt L x now (L.set j (c, s')) ws kept := ⟨.inr ⟨c, j, s, s', hc, hi, hk, hr, hg, rfl⟩⟩
theorem put_at (h : SS W RC RT t E m n S g L w) (hp : Pt L x now L' ws kept) : Calls Tryz.prog 43 #[.pointer (cp x.ch), .int .i64 now] w fun e w' =>
    ∃ A k, e = .returned (.tuple #[.slice A ws.length k, .bool kept]) ∧ RdK w' A ws.length ws ∧ SS W RC RT t E m n S g L' w' ∧ Kp w w' := by
  rcases hp.h with ⟨hc, rfl, rfl, rfl⟩ | ⟨c, j, s, s', hc, hi, hk, hr, hg, rfl⟩
  · rw [hc]
    refine (put_nil now w).mono ?_
    rintro e w' ⟨rfl, rfl⟩
    exact ⟨none, 0, rfl, RdK.nil _ _, h, Kp.refl _⟩
  · rw [hc]
    refine (ms_put now h.ms hi hk hr hg rfl).mono ?_
    rintro e w' ⟨A, k, rfl, h1, h2, h3⟩
    exact ⟨A, k, rfl, h1, (h.chan h2 h3).1, h3⟩
abbrev vF (id kd wh at_ dt : Int) (A : Option Addr) (n k : Nat) (b : Bool) : Value := .agg #[.int .i64 id, .int .i64 kd, .int .i64 wh, .int .i64 at_, .int .i64 dt, .slice A n k, .bool b]
abbrev fZ : Obj := .cells #[.int .i64 0, .int .i64 0, .int .i64 0, .int .i64 0, .int .i64 0, .slice none 0 0, .bool false] 49
theorem fire_nil (now : Int) (w : World) : Calls Tryz.prog 9 #[.pointer none, .int .i64 now] w fun e w' => e = .returned (.tuple #[vF 0 0 0 0 0 none 0 0 false, .bool false]) ∧ Below w.heap.size w w' := by
  go_enter Tryz.func9, Tryz.ntmps9
  go_wp2_with fail
  refine bodyPost_ret (v := .tuple #[vF 0 0 0 0 0 none 0 0 false, .bool false]) ?_ rfl ⟨rfl, ?_⟩
  · rw [results_cell_tmp rfl]; go_simp; try rfl
  · first | exact below_al _ _ | (repeat' (first | exact below_al _ _ | refine Below.alloc ?_ (by omega) _))
/-- The seven cells of one that fired. -/
theorem fz_cells {b : Nat} {u0 u1 u2 u3 u4 u5 u6 : Value} (h : w.heap[b]? = some (.cells #[u0, u1, u2, u3, u4, u5, u6] 49 (0, 0))) :
    (w.cell? ⟨b, 0, none⟩ = some u0 ∧ w.cell? ⟨b, 1, none⟩ = some u1 ∧ w.cell? ⟨b, 2, none⟩ = some u2 ∧ w.cell? ⟨b, 3, none⟩ = some u3 ∧ w.cell? ⟨b, 4, none⟩ = some u4 ∧ w.cell? ⟨b, 5, none⟩ = some u5 ∧ w.cell? ⟨b, 6, none⟩ = some u6) ∧ ∀ k, w.frozen? ⟨b, k, none⟩ = false := by
  refine ⟨⟨?_, ?_, ?_, ?_, ?_, ?_, ?_⟩, fun k => frozen_of_row w b k _ _ h⟩
  · rw [cell_of_row w b 0 _ _ _ h]; rfl
  · rw [cell_of_row w b 1 _ _ _ h]; rfl
  · rw [cell_of_row w b 2 _ _ _ h]; rfl
  · rw [cell_of_row w b 3 _ _ _ h]; rfl
  · rw [cell_of_row w b 4 _ _ _ h]; rfl
  · rw [cell_of_row w b 5 _ _ _ h]; rfl
  · rw [cell_of_row w b 6 _ _ _ h]; rfl
/-- The world with all seven written. -/
def w7 (w : World) (b : Nat) (u0 u1 u2 u3 u4 u5 u6 : Value) : World := ((((((w.setCell ⟨b, 0, none⟩ u0).setCell ⟨b, 1, none⟩ u1).setCell ⟨b, 2, none⟩ u2).setCell ⟨b, 3, none⟩ u3).setCell ⟨b, 4, none⟩ u4).setCell ⟨b, 5, none⟩ u5).setCell ⟨b, 6, none⟩ u6
theorem w7_other {w0 : World} {b : Nat} {u0 u1 u2 u3 u4 u5 u6 y0 y1 y2 y3 y4 y5 y6 : Value} (h : SS W RC RT t E m n S g L w) (hb : w.heap[b]? = some (.cells #[y0, y1, y2, y3, y4, y5, y6] 49 (0, 0))) (hW : W.heap.size ≤ b) (hz : OZ w0 w) (h0 : w0.heap.size ≤ b) :
    SS W RC RT t E m n S g L (w7 w b u0 u1 u2 u3 u4 u5 u6) ∧ OZ w0 (w7 w b u0 u1 u2 u3 u4 u5 u6) ∧ ∀ k, k ≠ b → (w7 w b u0 u1 u2 u3 u4 u5 u6).heap[k]? = w.heap[k]? := by
  have e1 := heap_setCell_same w b 0 _ _ u0 hb
  have e2 := heap_setCell_same _ b 1 _ _ u1 e1
  have e3 := heap_setCell_same _ b 2 _ _ u2 e2
  have e4 := heap_setCell_same _ b 3 _ _ u3 e3
  have e5 := heap_setCell_same _ b 4 _ _ u4 e4
  have e6 := heap_setCell_same _ b 5 _ _ u5 e5
  have o : OthZ 49 := by decide
  refine ⟨((((((h.cellO hb o hW 0 u0).cellO e1 o hW 1 u1).cellO e2 o hW 2 u2).cellO e3 o hW 3 u3).cellO e4 o hW 4 u4).cellO e5 o hW 5 u5).cellO e6 o hW 6 u6, ((((((hz.cell h0 0 u0).cell h0 1 u1).cell h0 2 u2).cell h0 3 u3).cell h0 4 u4).cell h0 5 u5).cell h0 6 u6, fun k hk => ?_⟩
  unfold w7
  repeat (refine (Below.heap_setCell _ _ _ _ (by exact hk)).trans ?_)
  rfl
set_option maxHeartbeats 8000000 in
theorem fire_no (h : SS W RC RT t E m n S g L w) (hT : tk now n S g = (none, n, S, g)) (hn : n ≤ 1000000) (hl : S.length ≤ 1000) :
    Calls Tryz.prog 9 #[pS t, .int .i64 now] w (SZ W RC RT t E m n S g L (.tuple #[vF 0 0 0 0 0 none 0 0 false, .bool false]) w) := by
  have hsz := h.bel.size
  have HA := Lib.hid (h.box fZ)
  have FB := Lib.hid (heap_alloc_new w fZ)
  clear h
  go_enter Tryz.func9, Tryz.ntmps9
  go_wp2_with fail
  refine (ss_ttake now HA.out hn hl).mono ?_
  rintro e w1 hz
  rw [hT] at hz
  have HZ := Lib.hid hz
  obtain rfl := hz.1
  clear hz HA
  have FB1 := Lib.hid (HZ.out.2.2 _ _ _ _ FB.out (by decide))
  have H2 := Lib.hid (HZ.out.2.1.box (.cells #[.int .i64 0, .int .i64 0, .int .i64 0] 97))
  have FB2 := Lib.hid (((below_al w1 (.cells #[.int .i64 0, .int .i64 0, .int .i64 0] 97)).block _ (lt_of_blk FB1.out)).trans FB1.out)
  have HO : Hid (OZ w (w1.alloc (.cells #[.int .i64 0, .int .i64 0, .int .i64 0] 97))) := ((OZ.of_below (below_al w fZ)).trans HZ.out.2.2).trans (OZ.of_below (below_al _ _))
  clear HZ FB FB1
  simp only [tkV]
  go_upto_region 4 with (fail)
  generalize w1.alloc (.cells #[.int .i64 0, .int .i64 0, .int .i64 0] 97) = w2 at *
  obtain ⟨⟨q0, q1, q2, q3, q4, q5, q6⟩, qf⟩ := fz_cells FB2.out
  have f0 := qf 0
  have f1 := qf 1
  have f2 := qf 2
  have f3 := qf 3
  have f4 := qf 4
  have f5 := qf 5
  have f6 := qf 6
  clear qf
  have HX := Lib.hid (w7_other (u0 := .int .i64 0) (u1 := .int .i64 0) (u2 := .int .i64 0) (u3 := .int .i64 0) (u4 := .int .i64 0) (u5 := .slice none 0 0) (u6 := .bool false) H2.out FB2.out hsz HO.out (Nat.le_refl _))
  unfold w7 at HX
  go_wp2_with fail
  refine bodyPost_ret (v := .tuple #[vF 0 0 0 0 0 none 0 0 false, .bool false]) ?_ rfl ⟨rfl, HX.out.1, HX.out.2.1⟩
  rw [results_cell_tmp rfl]
  go_simp
set_option maxHeartbeats 8000000 in
theorem fire_some {yw ys : Int} (h : SS W RC RT t E m n S g L w) (hT : tk now n S g = (some ⟨(i : Int), yw, ys⟩, n', S', g')) (hx : E[i]? = some x) (hp : Pt L x now L' ws kept) (hE : E.length ≤ 100000) (hn : n ≤ 1000000) (hl : S.length ≤ 1000) :
    Calls Tryz.prog 9 #[pS t, .int .i64 now] w fun e w' => ∃ A k, e = .returned (.tuple #[vF i x.kd yw now x.dt A ws.length k kept, .bool true]) ∧ RdK w' A ws.length ws ∧ SS W RC RT t E m n' S' g' L' w' ∧ OZ w w' := by
  have hlt := (List.getElem?_eq_some_iff.1 hx).1
  have b1 : (0 : Int) ≤ (i : Int) := by omega
  have b2 : (i : Int) < (E.length : Int) := by omega
  have hsz := h.bel.size
  have HX := Lib.hid hx
  have HP := Lib.hid hp
  have HA := Lib.hid (h.box fZ)
  have FB := Lib.hid (heap_alloc_new w fZ)
  clear h hx hp hlt hE
  go_enter Tryz.func9, Tryz.ntmps9
  go_wp2_with fail
  refine (ss_ttake now HA.out hn hl).mono ?_
  rintro e w1 hz
  rw [hT] at hz
  have HZ := Lib.hid hz
  obtain rfl := hz.1
  clear hz HA hT
  have FB1 := Lib.hid (HZ.out.2.2 _ _ _ _ FB.out (by decide))
  have H2 := Lib.hid (HZ.out.2.1.box (.cells #[.int .i64 i, .int .i64 yw, .int .i64 now] 97))
  have FB2 := Lib.hid (((below_al w1 (.cells #[.int .i64 i, .int .i64 yw, .int .i64 now] 97)).block _ (lt_of_blk FB1.out)).trans FB1.out)
  have HO : Hid (OZ w (w1.alloc (.cells #[.int .i64 i, .int .i64 yw, .int .i64 now] 97))) := ((OZ.of_below (below_al w fZ)).trans HZ.out.2.2).trans (OZ.of_below (below_al _ _))
  have D2 := Lib.hid (Dbk.new w1 i yw now)
  have hne : w.heap.size < w1.heap.size := lt_of_blk FB1.out
  clear HZ FB FB1
  simp only [tkV]
  go_upto_region 6 with (fail)
  have hs2 : w1.heap.size < (w1.alloc (.cells #[.int .i64 i, .int .i64 yw, .int .i64 now] 97)).heap.size := by rw [World.size_alloc]; omega
  generalize w1.alloc (.cells #[.int .i64 i, .int .i64 yw, .int .i64 now] 97) = w2 at *
  generalize w1.heap.size = s2 at *
  obtain ⟨d0, d1, d2, -⟩ := D2.out.cells
  obtain ⟨P, cc, c0, -, -, -, hr⟩ := H2.out.cells
  obtain ⟨q, rfl, hq, ⟨x0, x1, x2, x3⟩, -, -⟩ := hr i x HX.out
  have ht2 := H2.out.lt
  clear hr
  go_region
  go_upto_region 7 with (fail)
  have hb3 : Below w2.heap.size w2 (w2.alloc (.cells #[.int .i64 x.kd, .int .i64 x.dt, .pointer (cp x.ch), .int .i64 x.gn] 101)).drew := (below_al w2 _).drew
  have XB : Hid ((w2.alloc (.cells #[.int .i64 x.kd, .int .i64 x.dt, .pointer (cp x.ch), .int .i64 x.gn] 101)).drew.heap[w2.heap.size]? = some (.cells #[.int .i64 x.kd, .int .i64 x.dt, .pointer (cp x.ch), .int .i64 x.gn] 101 (0, 0))) := heap_alloc_new w2 _
  have hs3 : s2 < w2.heap.size := hs2
  clear c0 hq x0 x1 x2 x3 d0 d1 d2 ht2 hs2
  have H3 := Lib.hid (H2.out.later hb3)
  have FB3 := Lib.hid ((hb3.block _ (lt_of_blk FB2.out)).trans FB2.out)
  have D3 := Lib.hid (D2.out.later hb3)
  have HO3 : Hid (OZ w _) := HO.out.trans (OZ.of_below hb3)
  clear H2 FB2 D2 HO hb3
  generalize (w2.alloc (.cells #[.int .i64 x.kd, .int .i64 x.dt, .pointer (cp x.ch), .int .i64 x.gn] 101)).drew = w3 at *
  generalize w2.heap.size = s3 at *
  have z2 : w3.cell? ⟨s3, 2, none⟩ = some (.pointer (cp x.ch)) := by rw [cell_of_row w3 s3 2 _ _ _ XB.out]; rfl
  go_wp2_with fail
  refine (put_at H3.out HP.out).mono ?_
  rintro e w4 ⟨A, k, rfl, hr, hs, hk⟩
  have HS := Lib.hid hs
  have HR := Lib.hid hr
  have HO4 : Hid (OZ w w4) := HO3.out.trans hk.oz
  have FB4 := Lib.hid (hk.at FB3.out (by decide))
  have D4 : Hid (Dbk w4 s2 i yw now) := hk.at D3.out (by decide)
  have XB4 := Lib.hid (hk.at XB.out (by decide))
  clear hs hr hk z2 H3 FB3 D3 HO3 XB HP HX
  obtain ⟨⟨q0, q1, q2, q3, q4, q5, q6⟩, qf⟩ := fz_cells FB4.out
  have f0 := qf 0
  have f1 := qf 1
  have f2 := qf 2
  have f3 := qf 3
  have f4 := qf 4
  have f5 := qf 5
  have f6 := qf 6
  clear qf
  obtain ⟨d0, d1, d2, -⟩ := D4.out.cells
  have z0 : w4.cell? ⟨s3, 0, none⟩ = some (.int .i64 x.kd) := by rw [cell_of_row w4 s3 0 _ _ _ XB4.out]; rfl
  have z1 : w4.cell? ⟨s3, 1, none⟩ = some (.int .i64 x.dt) := by rw [cell_of_row w4 s3 1 _ _ _ XB4.out]; rfl
  have HX := Lib.hid (w7_other (u0 := .int .i64 i) (u1 := .int .i64 x.kd) (u2 := .int .i64 yw) (u3 := .int .i64 now) (u4 := .int .i64 x.dt) (u5 := .slice A ws.length k) (u6 := .bool kept) HS.out FB4.out hsz HO4.out (Nat.le_refl _))
  have HR2 := Lib.hid (HR.out.keep (w' := w7 w4 w.heap.size (.int .i64 i) (.int .i64 x.kd) (.int .i64 yw) (.int .i64 now) (.int .i64 x.dt) (.slice A ws.length k) (.bool kept)) fun b cs e => HX.out.2.2 b (by
    rintro rfl
    have e2 := FB4.out
    rw [e] at e2; injection e2 with e2; injection e2 with _ e2 _; exact absurd e2 (by decide)))
  unfold w7 at HX HR2
  clear HR HS
  go_wp2_with fail
  refine bodyPost_ret (v := .tuple #[vF i x.kd yw now x.dt A ws.length k kept, .bool true]) ?_ rfl ⟨A, k, rfl, HR2.out, HX.out.1, HX.out.2.1⟩
  rw [results_cell_tmp rfl]
  go_simp
end
end Go.Proofs.YtmadcnpkaijllaaGreat
namespace Go.Proofs.YtmadcnpkaijllaaGreat
open Go.RowKit Ch
set_option linter.unusedVariables false
set_option maxRecDepth 100000
section
variable {RC : List Nat} {RT RT' : List CS} {W w w' w'' w0 w1 : World} {t mo m n n' i j c k : Nat} {E E' : List On} {S S' : List It} {g g' : Int → Int} {L L' : List (Nat × CS)} {v : Value} {e : Ending} {x : On} {s s' : CS} {ws : List Wk} {kept b : Bool} {now : Int}
/-- What a call of the document's answers, and what it and its channels have come to be. -/
def RV (W : World) (RC : List Nat) (RT : List CS) (mo : Nat) (E : List On) (m n : Nat) (S : List It) (g : Int → Int) (L : List (Nat × CS)) (v : Value) (w : World) (e : Ending) (w' : World) : Prop :=
  e = .returned v ∧ RS W mo E m n S g w' ∧ MS W RC RT L w' ∧ RY w w'
theorem RZ.rv (h : RZ W mo E m n S g v w e w') (hm : MS W RC RT L w) : RV W RC RT mo E m n S g L v w e w' := ⟨h.1, h.2.1, hm.rx h.2.2.1 h.2.2.2, h.2.2.1.ry⟩
theorem RV.but {u : Value} (h : RV W RC RT mo E m n S g L v w e w') : RV W RC RT mo E m n S g L u w (.returned u) w' := ⟨rfl, h.2⟩
theorem RV.after (h : RY w w') (k : RV W RC RT mo E m n S g L v w' e w'') : RV W RC RT mo E m n S g L v w e w'' := ⟨k.1, k.2.1, k.2.2.1, h.trans k.2.2.2⟩
theorem RY.refl (w : World) : RY w w := ⟨Nat.le_refl _, fun _ _ h _ => h⟩
theorem RS.same (h : RS W mo E m n S g w) (hm : MS W RC RT L w) (v : Value) : RV W RC RT mo E m n S g L v w (.returned v) w := ⟨rfl, h, hm, RY.refl w⟩
/-- Take, whatever there is. -/
theorem rs_ttake (now : Int) (h : RS W mo E m n S g w) (hS : Ok n S) (hf : ∀ x ∈ S, Fit x.w ∧ Fit (g x.id)) (hn : n ≤ 1000000) (hl : S.length ≤ 999) :
    Calls Tryz.prog 62 #[pM mo, .int .i64 now] w (RZ W mo E m (tk now n S g).2.1 (tk now n S g).2.2.1 (tk now n S g).2.2.2 (tkV now (tk now n S g).1) w) := by
  by_cases hneg : now < 0
  · have e0 : tk now n S g = (none, n, S, g) := by
      cases S with
      | nil => rfl
      | cons x r =>
        have := (hf x (by simp)).1.1
        unfold tk; simp only; rw [if_pos (by omega)]
    rw [e0]
    obtain ⟨p, P, c, h1, h2⟩ := h
    exact (rtake_neg h1 hneg).mono fun e w' r => RS.rz ⟨p, P, c, h1, h2⟩ r
  cases S with
  | nil =>
    obtain ⟨p, P, c, h1, h2⟩ := h
    exact (rtake_empty h1 hneg).mono fun e w' r => RS.rz ⟨p, P, c, h1, h2⟩ r
  | cons x r =>
    obtain ⟨f1, f2⟩ := hf x (by simp)
    unfold tk
    by_cases h1 : now < x.w
    · simp only [if_pos h1]
      obtain ⟨p, P, c, k1, k2⟩ := h
      exact (rtake_early k1 hneg h1).mono fun e w' r => RS.rz ⟨p, P, c, k1, k2⟩ r
    · by_cases h2 : Gon x.w (g x.id) now
      · simp only [if_neg h1, if_pos h2]
        exact h.tim fun rA rN p k1 => rtake_on k1 hS hl hn h.hB hneg (by omega) f1 f2 h2
      · simp only [if_neg h1, if_neg h2]
        exact h.tim fun rA rN p k1 => rtake_end k1 hS hl hn h.hB hneg (by omega) f1 f2 h2
/-- The document's channel of one that was made, dropped. -/
structure RDrp (RC : List Nat) (RT : List CS) (x : On) (RT' : List CS) (b : Bool) : Prop where
  h : (x.ch = none ∧ RT' = RT ∧ b = false) ∨ ∃ c j s, x.ch = some c ∧ RC[j]? = some c ∧ RT[j]? = some s ∧ s.kd = 1 ∧ RT' = RT.set j { s with l := [] } ∧ b = decide (0 < s.l.length)
theorem set_self {α : Type} {l : List α} {j : Nat} {a : α} (h : l[j]? = some a) : l.set j a = l :=
  List.ext_getElem? fun i => by
    by_cases e : j = i
    · subst e
      rw [List.getElem?_set_self (List.getElem?_eq_some_iff.1 h).1, h]
    · rw [List.getElem?_set_ne e]
theorem rdrop_at (h : RS W mo E m n S g w) (hm : MS W RC RT L w) (hd : RDrp RC RT x RT' b) : Calls Tryz.prog 60 #[.pointer (cp x.ch)] w (RV W RC RT' mo E m n S g L (.bool b) w) := by
  rcases hd.h with ⟨hc, rfl, rfl⟩ | ⟨c, j, s, hc, hi, ht, hk, rfl, rfl⟩
  · rw [hc]
    refine (mDrop_nil w).mono ?_
    rintro e w' ⟨rfl, rfl⟩
    exact h.same hm _
  · rw [hc]
    obtain ⟨ok, h1, h2⟩ := hm.ref hi ht
    by_cases hl : s.l = []
    · refine (mDrop_not h1 (.inr hl)).mono ?_
      rintro e w' ⟨rfl, rfl⟩
      rw [hl, show ({ s with l := [] } : CS) = s from by rw [← hl], set_self ht]
      exact h.same hm _
    · refine (mDrop_go h1 hk hl).mono ?_
      rintro e w' ⟨rfl, ho⟩
      obtain ⟨h3, h4⟩ := h2 _ _ ho
      rw [decide_eq_true (List.length_pos_iff.2 hl)]
      have hb := hm.rblk (List.mem_of_getElem? hi)
      exact ⟨rfl, h.tn h4 hb, h3, RY.tn h4 hb⟩
set_option maxHeartbeats 4000000 in
theorem rstop_set (h : RS W mo E m n S g w) (hm : MS W RC RT L w) (hx : E[i]? = some x) (hd : RDrp RC RT x RT' b) (hS : Ok n S) (hg : (i : Int) ∉ ids S → g i = 0) (hl : S.length ≤ 1000) :
    Calls Tryz.prog 21 #[pM mo, .int .i64 (i : Int)] w (RV W RC RT' mo E m n (del i S) (fput g i 0) L (.tuple #[.bool (decide ((i : Int) ∈ ids S) || b), .int .i64 0]) w) := by
  have hlt := (List.getElem?_eq_some_iff.1 hx).1
  have b1 : (0 : Int) ≤ (i : Int) := by omega
  have b2 : (i : Int) < (E.length : Int) := by omega
  have F := rin_yes h hlt
  have HA := Lib.hid h
  have HM := Lib.hid hm
  have HX := Lib.hid hx
  have HD := Lib.hid hd
  have HS := Lib.hid hS
  clear h hm hx hd hlt hS
  go_enter Tryz.func21, Tryz.ntmps21
  go_wp2_with fail
  refine F.mono ?_
  rintro e w1 ⟨rfl, rfl⟩
  go_wp2_with fail
  refine (rs_tstop i HA.out HS.out hg hl).mono ?_
  rintro e w1 hz
  have HZ := Lib.hid (hz.rv HM.out)
  obtain rfl := hz.1
  clear hz HA HM
  obtain ⟨P, cc, c3, -, -, -, hr⟩ := HZ.out.2.1.cells
  obtain ⟨q, rfl, hq, ⟨x0, x1, x2, x3⟩, -, -⟩ := hr i x HX.out
  clear hr x0 x1 x3
  generalize hd : decide ((i : Int) ∈ ids S) = d at *
  clear hd
  go_wp2_with fail
  refine (rdrop_at HZ.out.2.1 HZ.out.2.2.1 HD.out).mono ?_
  rintro e w2 hz
  have HY := Lib.hid (RV.after HZ.out.2.2.2 hz)
  obtain rfl := hz.1
  clear hz HZ c3 x2 HD
  cases d
  · go_wp2_with fail
    go_ret2
    exact HY.out.but
  · go_wp2_with fail
    go_ret2
    exact HY.out.but
theorem rstop_none {k : Int} (h : RS W mo E m n S g w) (hm : MS W RC RT L w) (hk : k < 0 ∨ (E.length : Int) ≤ k) : Calls Tryz.prog 21 #[pM mo, .int .i64 k] w (RV W RC RT mo E m n S g L (.tuple #[.bool false, .int .i64 4]) w) := by
  have F := rin_no h hk
  have HA := Lib.hid (h.same hm (.tuple #[.bool false, .int .i64 4]))
  clear h hm hk
  go_enter Tryz.func21, Tryz.ntmps21
  go_wp2_with fail
  refine F.mono ?_
  rintro e w1 ⟨rfl, rfl⟩
  go_wp2_with fail
  go_ret2
  exact HA.out
/-! Reset. -/
theorem rreset_none {k now d : Int} (h : RS W mo E m n S g w) (hm : MS W RC RT L w) (hk : k < 0 ∨ (E.length : Int) ≤ k) : Calls Tryz.prog 22 #[pM mo, .int .i64 k, .int .i64 now, .int .i64 d] w (RV W RC RT mo E m n S g L (.tuple #[.bool false, .int .i64 4]) w) := by
  have F := rin_no h hk
  have HA := Lib.hid (h.same hm (.tuple #[.bool false, .int .i64 4]))
  clear h hm hk
  go_enter Tryz.func22, Tryz.ntmps22
  go_wp2_with fail
  refine F.mono ?_
  rintro e w1 ⟨rfl, rfl⟩
  go_wp2_with fail
  go_ret2
  exact HA.out
theorem rreset_bad {now d : Int} (h : RS W mo E m n S g w) (hm : MS W RC RT L w) (hx : E[i]? = some x) (ho : ¬ DueOk x.kd now d) : Calls Tryz.prog 22 #[pM mo, .int .i64 (i : Int), .int .i64 now, .int .i64 d] w (RV W RC RT mo E m n S g L (.tuple #[.bool false, .int .i64 1]) w) := by
  have hlt := (List.getElem?_eq_some_iff.1 hx).1
  have b1 : (0 : Int) ≤ (i : Int) := by omega
  have b2 : (i : Int) < (E.length : Int) := by omega
  have F := rin_yes h hlt
  have HA := Lib.hid (h.same hm (.tuple #[.bool false, .int .i64 1]))
  obtain ⟨P, cc, c3, -, -, -, hr⟩ := h.cells
  obtain ⟨q, rfl, hq, ⟨x0, x1, x2, x3⟩, -, -⟩ := hr i x hx
  clear hr x1 x2 x3 h hm hx hlt
  by_cases a0 : now < 0
  · clear ho
    go_enter Tryz.func22, Tryz.ntmps22
    go_wp2_with fail
    refine F.mono ?_
    rintro e w1 ⟨rfl, rfl⟩
    go_wp2_with fail
    go_ret2
    exact HA.out
  by_cases a1 : 4611686018427387904 < now
  · clear ho
    go_enter Tryz.func22, Tryz.ntmps22
    go_wp2_with fail
    refine F.mono ?_
    rintro e w1 ⟨rfl, rfl⟩
    go_wp2_with fail
    go_ret2
    exact HA.out
  have hk : x.kd = 2 ∧ d < 1 := by
    unfold DueOk Fit at ho
    by_cases hk : x.kd = 2
    · refine ⟨hk, ?_⟩
      apply Classical.byContradiction
      intro h9
      exact ho ⟨by omega, fun _ => by omega⟩
    · exact absurd ⟨by omega, fun e => absurd e hk⟩ ho
  obtain ⟨hk, b3⟩ := hk
  rw [hk] at x0
  clear ho hk
  go_enter Tryz.func22, Tryz.ntmps22
  go_wp2_with fail
  refine F.mono ?_
  rintro e w1 ⟨rfl, rfl⟩
  go_wp2_with fail
  go_ret2
  exact HA.out
theorem rreset_kind {now d : Int} (h : RS W mo E m n S g w) (hm : MS W RC RT L w) (hx : E[i]? = some x) (hk : x.kd = 4) (ho : DueOk 4 now d) : Calls Tryz.prog 22 #[pM mo, .int .i64 (i : Int), .int .i64 now, .int .i64 d] w (RV W RC RT mo E m n S g L (.tuple #[.bool false, .int .i64 7]) w) := by
  have hlt := (List.getElem?_eq_some_iff.1 hx).1
  have b1 : (0 : Int) ≤ (i : Int) := by omega
  have b2 : (i : Int) < (E.length : Int) := by omega
  have a0 : ¬ now < 0 := by have := ho.1.1; omega
  have a1 : ¬ 4611686018427387904 < now := by have := ho.1.2; omega
  have F := rin_yes h hlt
  have HA := Lib.hid (h.same hm (.tuple #[.bool false, .int .i64 7]))
  obtain ⟨P, cc, c3, -, -, -, hr⟩ := h.cells
  obtain ⟨q, rfl, hq, ⟨x0, x1, x2, x3⟩, -, -⟩ := hr i x hx
  rw [hk] at x0
  clear hr x1 x2 x3 h hm hx hlt hk ho
  go_enter Tryz.func22, Tryz.ntmps22
  go_wp2_with fail
  refine F.mono ?_
  rintro e w1 ⟨rfl, rfl⟩
  go_wp2_with fail
  go_ret2
  exact HA.out
set_option maxHeartbeats 8000000 in
theorem rreset_ok {now d : Int} (h : RS W mo E m n S g w) (hm : MS W RC RT L w) (hx : E[i]? = some x) (hd : RDrp RC RT x RT' b) (hk4 : x.kd ≠ 4) (ho : DueOk x.kd now d) (hS : Ok n S) (hg : (i : Int) ∉ ids S → g i = 0) (hg0 : 0 ≤ x.gn) (hg1 : x.gn ≤ 1000000) (hn : n ≤ 1000000) (hl : S.length ≤ 999) :
    Calls Tryz.prog 22 #[pM mo, .int .i64 (i : Int), .int .i64 now, .int .i64 d] w (RV W RC RT' mo (E.set i (up x)) m (n + 1) (ins ⟨i, wn now d, (n : Int) + 1⟩ (del i S)) (fput g i (per x.kd d)) L (.tuple #[.bool (decide ((i : Int) ∈ ids S) || b), .int .i64 0]) w) := by
  have hlt := (List.getElem?_eq_some_iff.1 hx).1
  have b1 : (0 : Int) ≤ (i : Int) := by omega
  have b2 : (i : Int) < (E.length : Int) := by omega
  have b3 : IntKind.i64.wrap (x.gn + 1) = x.gn + 1 := by rw [IntKind.wrap_i64]; omega
  have a0 : ¬ now < 0 := by have := ho.1.1; omega
  have a1 : ¬ 4611686018427387904 < now := by have := ho.1.2; omega
  have a2 : (x.kd == 4) = false := by simpa using hk4
  have hdl : (del i S).length ≤ S.length := by unfold del; exact List.length_filter_le _ _
  have hdd : del i (del i S) = del i S := by
    apply del_none; exact del_ids
  have hSd : Ok n (del i S) := hS.del i
  have F := rin_yes h hlt
  have HSt := Lib.hid (rstop_set h hm hx hd hS hg (by omega))
  have HX := Lib.hid hx
  have HN := Lib.hid (And.intro ho.1 (And.intro hn (show (del i S).length ≤ 999 by omega)))
  have HSd := Lib.hid hSd
  obtain ⟨P, cc, c3, -, -, -, hr⟩ := h.cells
  obtain ⟨q, rfl, hq, ⟨x0, x1, x2, x3⟩, -, -⟩ := hr i x hx
  have a3 : x.kd = 2 → ¬ d < 1 := fun e => by have := ho.2 e; omega
  clear hr x1 x2 x3 h hm hx hlt ho hS hSd hk4 hd hg hg0 hg1 hn
  generalize hdd2 : (decide ((i : Int) ∈ ids S) || b) = dd at *
  clear hdd2
  by_cases hk2 : x.kd = 2
  all_goals
    have a4 : (x.kd == 2) = decide (x.kd = 2) := by
      by_cases h9 : x.kd = 2 <;> simp [h9]
    first | rw [decide_eq_true hk2] at a4 | rw [decide_eq_false hk2] at a4
    have a5 : x.kd = 2 → ¬ d < 1 := a3
    first | (have a6 := a5 hk2) | skip
    clear a3 a5 hk2
    go_enter Tryz.func22, Tryz.ntmps22
    go_wp2_with fail
    refine F.mono ?_
    rintro e w1 ⟨rfl, rfl⟩
    go_wp2_with fail
    refine HSt.out.mono ?_
    rintro e w1 hz
    have HZ := Lib.hid hz
    obtain rfl := hz.1
    clear hz HSt c3 x0
    go_wp2_with fail
    refine (rarm_set (i := i) now d HZ.out.2.1 HX.out HSd.out HN.out.1 HN.out.2.1 HN.out.2.2).mono ?_
    rintro e w2 hz
    rw [hdd, fput_two] at hz
    have HV := Lib.hid (RV.after HZ.out.2.2.2 (hz.rv HZ.out.2.2.1))
    obtain rfl := hz.1
    clear hz HZ
    obtain ⟨P, cc, c3, -, -, -, hr⟩ := HV.out.2.1.cells
    obtain ⟨q, rfl, hq, ⟨x0, x1, x2, x3⟩, fq, st⟩ := hr i x HX.out
    have HT := Lib.hid (st (x.gn + 1))
    have f3 := fq (i * 4 + 3)
    clear hr x0 x1 x2 fq st
    go_wp2_with fail
    go_ret2
    exact ⟨rfl, HT.out.1, HV.out.2.2.1.rx HT.out.2.1 HT.out.2.2, HV.out.2.2.2.trans HT.out.2.1.ry⟩
end
end Go.Proofs.YtmadcnpkaijllaaGreat
