/- Timers within a set, made or not made yet. Conditions: each theorem's own premises. -/
import Derived.Test.YtmadcnpkaijllaaTlw
namespace Go.Proofs.Ytmadcnpkaijllaa
open Go.RowKit
set_option linter.unusedVariables false
set_option maxRecDepth 100000
theorem remove_nil (k : Int) (w : World) : Calls Try.prog 67 #[.pointer none, .int .i64 k] w (IbR zI false w) := by
  go_enter Try.func67, Try.ntmps67
  go_wp2_with fail
  refine (place_nil k _).mono ?_
  rintro e w' ⟨rfl, rfl⟩
  go_wp2_with fail
  refine bodyPost_ret (v := .tuple #[.agg #[.int .i64 0, .int .i64 0, .int .i64 0], .bool false]) ?_ rfl ⟨rfl, ?_⟩
  · rw [results_cell_tmp rfl]; go_simp; try rfl
  · first | exact below_al _ _ | (repeat' (first | exact below_al _ _ | refine Below.alloc ?_ (by omega) _))
theorem del_nil {x : Int} (ty : TypeId) (w : World) : (Builtin.delete_ #[69, 3] ty #[.map none, .int .i64 x]).run Try.prog w = .ok (.tuple #[]) w := by kernel_rfl
theorem wp_ndrop {ops : Array Oper} {rest : List Oper} {op : Oper} {a : Act} {Q : Exit → Act → World → Prop} {x : Int} {w : World} (hg : op.guard = none) (u y : Operand) (hop : op.op = Op.call { callee := Callee.builtin Builtin.delete, args := #[u, y], argTypes := #[69, 3] })
    (hm : a.eval u = .map none) (hy : a.eval y = .int .i64 x) (hK : wpList Try.prog ops Q rest (a.put op.dst (.tuple #[])) w) : wpList Try.prog ops Q (op :: rest) a w := by
  refine wpList_plain hg fun K' hK' => ?_
  have hrun := @del_nil x op.type w
  unfold Oper.wp
  simp [execOp, hop, resolve, invoke, builtin, hm, hy, hrun, Result.andThen]
  exact hK' _ _ hK

/-- Not made yet. -/
def ZT (B t : Nat) (vA vL : Value) (w : World) : Prop := B ≤ t ∧ w.heap[t]? = some (.cells #[vA, .pointer none, .map none, vL] 73 (0, 0))
/-- New timers, by themselves. -/
def NewT (w : World) (e : Ending) (w' : World) : Prop :=
  ∃ r o b c, e = .returned (.pointer (some ⟨r, 0, none⟩)) ∧ w'.heap[r]? = some (.cells #[.pointer (some ⟨o, 0, none⟩), .map (some c)] 71 (0, 0)) ∧ (∀ B, B ≤ w.heap.size → HG B w' o b none 0 []) ∧ Pm w' c 0 (fun _ => 0) ∧ c ≠ b ∧ (w.heap.size ≤ o ∧ w.heap.size ≤ b ∧ w.heap.size ≤ c) ∧ Below w.heap.size w w'
theorem newt_at (w : World) : NewT w (.returned (.pointer (some ⟨w.heap.size + 3, 0, none⟩))) (((nwH w).alloc (.map #[] 0)).alloc (.cells #[.pointer (some ⟨w.heap.size + 1, 0, none⟩), .map (some (w.heap.size + 2))] 71)) := by
  have hn := new_at w
  change NewR w _ (nwH w) at hn
  have b1 := below_al (nwH w) (.map #[] 0)
  have b2 : Below (nwH w).heap.size (nwH w) (((nwH w).alloc (.map #[] 0)).alloc (.cells #[.pointer (some ⟨w.heap.size + 1, 0, none⟩), .map (some (w.heap.size + 2))] 71)) := b1.alloc (by simp) _
  refine ⟨w.heap.size + 3, w.heap.size + 1, w.heap.size, w.heap.size + 2, rfl, ?_, fun B hB => (hn.2.1 B hB).later b2, ?_, by omega, by omega, hn.2.2.trans (b2.mono hn.2.2.size)⟩
  · have := heap_alloc_new ((nwH w).alloc (.map #[] 0)) (.cells #[.pointer (some ⟨w.heap.size + 1, 0, none⟩), .map (some (w.heap.size + 2))] 71)
    rw [World.size_alloc, nwH_size] at this
    exact this
  · have h1 := Pm.new (nwH w)
    rw [nwH_size] at h1
    exact h1.keep (Below.heap_alloc _ _ _ (by rw [World.size_alloc, nwH_size]; omega))
theorem newt_any (w : World) : Calls Try.prog 71 #[] w (NewT w) := by
  have hmm := @run_makeMap Try.prog
  have hs := nwH_size w
  have hf := Lib.hid (newt_at w)
  go_enter Try.func71, Try.ntmps71
  go_wp2_with (go_at_call 77; (with_reducible refine (new_ex _).mono ?_); rintro e w' ⟨rfl, rfl⟩)
  go_ret
  exact hf.out
/-- No row of another kind has turned. -/
def OY (w w' : World) : Prop := ∀ (k : Nat) (cs : Array Value) (t : TypeId) (fr : Nat × Nat), w.heap[k]? = some (.cells cs t fr) → t ≠ 120 → t ≠ 106 → t ≠ 73 → w'.heap[k]? = some (.cells cs t fr)
theorem OY.refl (w : World) : OY w w := fun _ _ _ _ h _ _ _ => h
theorem OY.trans {u v w : World} (h : OY u v) (k : OY v w) : OY u w := fun i cs t fr h1 h2 h3 h4 => k i cs t fr (h i cs t fr h1 h2 h3 h4) h2 h3 h4
theorem OY.of_below {w w' : World} (h : Below w.heap.size w w') : OY w w' := fun k cs t fr h1 _ _ _ => (h.block k (lt_of_blk h1)).trans h1
theorem OX.oy {w w' : World} (h : OX w w') : OY w w' := fun k cs t fr h1 h2 h3 _ => h k cs t fr h1 h2 h3
/-- Timers, be they made or not. -/
def TU (B t : Nat) (vA vL : Value) (n : Nat) (S : List It) (g : Int → Int) (w : World) : Prop :=
  (ZT B t vA vL w ∧ n = 0 ∧ S = [] ∧ g = fun _ => 0) ∨ ∃ o b c, TN B t vA vL o b c n S g w
def XU (B t : Nat) (vA vL : Value) (n : Nat) (S : List It) (g : Int → Int) (v : Value) (w : World) (e : Ending) (w' : World) : Prop :=
  e = .returned v ∧ TU B t vA vL n S g w' ∧ Below B w w' ∧ OY w w'
section
variable {B t o b c n n' N N' : Nat} {vA vL : Value} {p p' : Option Nat} {S S' : List It} {g g' : Int → Int} {w w' : World} {e : Ending} {v : Value}
theorem XR.xu (h : XR B t vA vL o b c n S g v w e w') : XU B t vA vL n S g v w e w' := ⟨h.1, .inr ⟨o, b, c, h.2.1⟩, h.2.2.1, h.2.2.2.oy⟩
theorem ZT.later (h : ZT B t vA vL w) (hb : Below w.heap.size w w') : ZT B t vA vL w' := ⟨h.1, (hb.block _ (lt_of_blk h.2)).trans h.2⟩
theorem ZT.c0 (h : ZT B t vA vL w) : w.cell? ⟨t, 1, none⟩ = some (.pointer none) := by rw [cell_of_row w t 1 _ _ _ h.2]; rfl
theorem ZT.c1 (h : ZT B t vA vL w) : w.cell? ⟨t, 2, none⟩ = some (.map none) := by rw [cell_of_row w t 2 _ _ _ h.2]; rfl
theorem ZT.fz (h : ZT B t vA vL w) (i : Nat) : w.frozen? ⟨t, i, none⟩ = false := frozen_of_row w t i _ _ h.2
theorem ZT.hB (h : ZT B t vA vL w) : B ≤ w.heap.size := by have := lt_of_blk h.2; have := h.1; omega
theorem ZT.xu (h : ZT B t vA vL w) (hr : e = .returned v ∧ Below w.heap.size w w') : XU B t vA vL 0 [] (fun _ => 0) v w e w' :=
  ⟨hr.1, .inl ⟨h.later hr.2, rfl, rfl, rfl⟩, hr.2.mono h.hB, OY.of_below hr.2⟩
set_option maxHeartbeats 4000000 in
theorem zt_stop (k : Int) (h : ZT B t vA vL w) : Calls Try.prog 59 #[pT t, .int .i64 k] w fun e w' => e = .returned (.bool false) ∧ Below w.heap.size w w' := by
  have HA := Lib.hid h
  have c0 := h.c0
  clear h
  go_enter Try.func59, Try.ntmps59
  go_wp2_with fail
  refine (remove_nil k _).mono ?_
  rintro e w1 ⟨rfl, hb⟩
  have HB2 : Hid (Below w.heap.size w (w1.alloc (.cells #[.int .i64 zI.id, .int .i64 zI.w, .int .i64 zI.s] 106))) := hb.trans ((below_al w1 _).mono hb.size)
  clear hb
  go_upto_region 4 with (fail)
  generalize w1.alloc (.cells #[.int .i64 zI.id, .int .i64 zI.w, .int .i64 zI.s] 106) = w2 at *
  have H1 := Lib.hid (HA.out.later HB2.out)
  clear HA c0
  have c1 := H1.out.c1
  go_wp2_with (at_delete; go_loud (refine wp_ndrop rfl (.tmp 21) (.tmp 22) rfl rfl rfl ?_))
  go_ret
  exact ⟨rfl, HB2.out⟩
theorem zt_next (h : ZT B t vA vL w) : Calls Try.prog 47 #[pT t] w (InR 0 false w) := by
  have c0 := h.c0
  clear h
  go_enter Try.func47, Try.ntmps47
  go_wp2_with fail
  refine (min_nil _).mono ?_
  rintro e w1 ⟨rfl, hb⟩
  have HB2 : Hid (Below w.heap.size w (w1.alloc (.cells #[.int .i64 zI.id, .int .i64 zI.w, .int .i64 zI.s] 106))) := hb.trans ((below_al w1 _).mono hb.size)
  clear hb
  go_wp2_with fail
  go_ret2
  exact ⟨rfl, HB2.out⟩
set_option maxHeartbeats 4000000 in
theorem zt_take {now : Int} (h : ZT B t vA vL w) : Calls Try.prog 32 #[pT t, .int .i64 now] w (DbR 0 0 0 false w) := by
  have c0 := h.c0
  have ht := lt_of_blk h.2
  have HA := Lib.hid (h.later (below_al w (.cells #[.int .i64 0, .int .i64 0, .int .i64 0] 76)))
  have D1 := Lib.hid (Dbk.new w 0 0 0)
  have HB1 := Lib.hid (below_al w (.cells #[.int .i64 0, .int .i64 0, .int .i64 0] 76))
  clear h
  go_enter Try.func32, Try.ntmps32
  go_wp2_with fail
  refine (min_nil _).mono ?_
  rintro e w1 ⟨rfl, hb⟩
  generalize w.alloc (.cells #[.int .i64 0, .int .i64 0, .int .i64 0] 76) = wa at *
  have HA1 := Lib.hid (HA.out.later hb)
  have D1 := Lib.hid (D1.out.later hb)
  have HB1 := Lib.hid (HB1.out.trans (hb.mono HB1.out.size))
  clear hb HA
  have X1 := Lib.hid (Blk.new w1 zI)
  have HA := Lib.hid (HA1.out.later (below_al w1 (.cells #[.int .i64 zI.id, .int .i64 zI.w, .int .i64 zI.s] 106)))
  have D1 := Lib.hid (D1.out.later (below_al w1 (.cells #[.int .i64 zI.id, .int .i64 zI.w, .int .i64 zI.s] 106)))
  have HB1 := Lib.hid (HB1.out.trans ((below_al w1 (.cells #[.int .i64 zI.id, .int .i64 zI.w, .int .i64 zI.s] 106)).mono HB1.out.size))
  clear HA1
  go_upto_region 4 with (fail)
  generalize w1.alloc (.cells #[.int .i64 zI.id, .int .i64 zI.w, .int .i64 zI.s] 106) = w2 at *
  generalize w1.heap.size = s at *
  clear c0 ht
  have c0 := HA.out.c0
  obtain ⟨x0, x1, x2, _⟩ := X1.out.cells
  obtain ⟨d0, d1, d2, f0, f1, f2⟩ := D1.out.cells
  go_wp2_with fail
  refine bodyPost_ret (v := .tuple #[vD 0 0 0, .bool false]) ?_ rfl ⟨rfl, below_set3 HB1.out (Nat.le_refl _)⟩
  rw [results_cell_tmp rfl]
  go_simp
theorem ZT.made {w1 : World} {r : Nat} (h : ZT B t vA vL w) (hb : Below w.heap.size w w1) (hG : HG B w1 o b none 0 []) (pm : Pm w1 c 0 (fun _ => 0)) (hne : c ≠ b) (hs : w.heap.size ≤ o ∧ w.heap.size ≤ b ∧ w.heap.size ≤ c) :
    TT B t vA vL o b c none 0 0 [] (fun _ => 0) ((w1.setCell ⟨t, 1, none⟩ (.pointer (some ⟨o, 0, none⟩))).setCell ⟨t, 2, none⟩ (.map (some c))) ∧ Below B w ((w1.setCell ⟨t, 1, none⟩ (.pointer (some ⟨o, 0, none⟩))).setCell ⟨t, 2, none⟩ (.map (some c))) ∧ OY w ((w1.setCell ⟨t, 1, none⟩ (.pointer (some ⟨o, 0, none⟩))).setCell ⟨t, 2, none⟩ (.map (some c))) := by
  have hlt := lt_of_blk h.2
  have hB := h.hB
  have h1 := h.1
  have key : ∀ k, k ≠ t → ((w1.setCell ⟨t, 1, none⟩ (.pointer (some ⟨o, 0, none⟩))).setCell ⟨t, 2, none⟩ (.map (some c))).heap[k]? = w1.heap[k]? := fun k hk =>
    (Below.heap_setCell _ _ _ _ (by exact hk)).trans (Below.heap_setCell _ _ _ _ (by exact hk))
  have e0 := (hb.block t hlt).trans h.2
  have e1 := heap_setCell_same w1 t 1 _ _ (.pointer (some ⟨o, 0, none⟩)) e0
  have e2 := heap_setCell_same _ t 2 _ _ (.map (some c)) e1
  refine ⟨⟨hG.keep (key o (by omega)) (key b (by omega)) (fun k hk => (by cases hk)), e2, pm.keep (key c (by omega)), Ok.nil 0, h1, by omega, hne⟩, ((hb.mono hB).setCell h1 _).setCell h1 _, fun k cs ty fr a1 a2 a3 a4 => ?_⟩
  rw [key k ?_, hb.block k (lt_of_blk a1)]
  · exact a1
  · rintro rfl
    have := h.2
    rw [a1] at this; injection this with this; injection this with _ this _; exact a4 this
set_option maxHeartbeats 8000000 in
theorem zt_arm (k x y : Int) (h : ZT B t vA vL w) (hk : Wf k) (hx : Fit x) (hy : Fit y) :
    Calls Try.prog 62 #[pT t, .int .i64 k, .int .i64 x, .int .i64 y] w (XU B t vA vL 1 [⟨k, x, 1⟩] (fput (fun _ => 0) k y) (.int .i64 0) w) := by
  have F1 := fun w => fits_yes x w hx.1 hx.2
  have F2 := fun w => fits_yes y w hy.1 hy.2
  have HA := Lib.hid h
  have HX := Lib.hid (And.intro hx hy)
  have hwy := wf_fit hy
  have c0 := h.c0
  have f1 := h.fz 1
  have f2 := h.fz 2
  have hml : (0 : Nat) < maxLen := by unfold maxLen; omega
  have hy0 := hy.1
  clear h hx hy
  have hm : k ∉ ids [] := by simp [ids]
  go_enter Try.func62, Try.ntmps62
  go_wp2_with (go_at_call 70; first | ((with_reducible refine (F1 _).mono ?_); rintro e w' ⟨rfl, rfl⟩) | ((with_reducible refine (F2 _).mono ?_); rintro e w' ⟨rfl, rfl⟩))
  refine (newt_any w).mono ?_
  rintro e w1 ⟨r, o, b, c, rfl, hr, hG, pm, hne, hs, hb⟩
  have q0 : w1.cell? ⟨r, 0, none⟩ = some (.pointer (some ⟨o, 0, none⟩)) := by rw [cell_of_row w1 r 0 _ _ _ hr]; rfl
  have q1 : w1.cell? ⟨r, 1, none⟩ = some (.map (some c)) := by rw [cell_of_row w1 r 1 _ _ _ hr]; rfl
  have HM := Lib.hid (HA.out.made (r := r) hb (hG B HA.out.hB) pm hne hs)
  clear c0 f1 f2
  have f1 := (HA.out.later hb).fz 1
  have f2 := (HA.out.later hb).fz 2
  have d0 := (HA.out.later hb).c0
  have d1 := (HA.out.later hb).c1
  clear hr hG pm hne hs hb
  go_upto_region 5 with (fail)
  generalize (w1.setCell ⟨t, 1, none⟩ (.pointer (some ⟨o, 0, none⟩))).setCell ⟨t, 2, none⟩ (.map (some c)) = wz at *
  have c0 := HM.out.1.c0
  clear q0 q1 f1 f2 d0 d1
  go_wp2_with fail
  refine (move_no k x HM.out.1.hg hk hm).mono ?_
  rintro e w1 ⟨rfl, rfl⟩
  go_wp2_with fail
  refine (add_new k x HM.out.1.hg HM.out.1.ok hk hm (by omega) (by decide) HM.out.1.hB).mono ?_
  rintro e w1 hr
  have hr := HM.out.1.go (HM.out.1.ok.ins k x hm) hr
  have HT := Lib.hid hr.2
  obtain rfl := hr.1
  clear hr c0
  obtain ⟨p1, h1, h2⟩ := HT.out
  have c1 := h1.c1
  have H1 := Lib.hid h1
  have H2 := Lib.hid h2
  clear h1 h2 HT
  by_cases hp : 0 < y
  · go_wp2_with (first
      | (at_delete; go_loud (refine wp_pdrop rfl (.tmp 49) (.tmp 50) rfl H1.out.pm hk rfl rfl ?_; intro w2 ht pm; have H3 := Lib.hid (H1.out.mapped ht pm); have c12 := H3.out.1.c1; clear ht pm))
      | (at_mapUpdate; go_loud (refine wp_pstore rfl (.tmp 56) (.tmp 57) (.tmp 58) rfl H3.out.1.pm hk hwy hml rfl rfl rfl ?_; intro w3 ht pm; have H4 := Lib.hid (H3.out.1.mapped ht pm); clear ht pm)))
    go_ret
    have h4 := H4.out.1
    rw [fput_two] at h4
    have ht := H2.out.trans (H3.out.2.trans H4.out.2)
    exact ⟨rfl, .inr ⟨o, b, c, p1, 1, Nat.le_refl _, h4⟩, HM.out.2.1.trans (HM.out.1.low ht), HM.out.2.2.trans (HM.out.1.ox ht).oy⟩
  · obtain rfl : y = 0 := by omega
    go_wp2_with (first
      | (at_delete; go_loud (refine wp_pdrop rfl (.tmp 49) (.tmp 50) rfl H1.out.pm hk rfl rfl ?_; intro w2 ht pm; have H3 := Lib.hid (H1.out.mapped ht pm); have c12 := H3.out.1.c1; clear ht pm)))
    go_ret
    have ht := H2.out.trans H3.out.2
    exact ⟨rfl, .inr ⟨o, b, c, p1, 1, Nat.le_refl _, H3.out.1.more⟩, HM.out.2.1.trans (HM.out.1.low ht), HM.out.2.2.trans (HM.out.1.ox ht).oy⟩

/-! What each call makes of them. -/
theorem TU.later (h : TU B t vA vL n S g w) (hb : Below w.heap.size w w') : TU B t vA vL n S g w' := by
  rcases h with ⟨h, r⟩ | ⟨o, b, c, h⟩
  · exact .inl ⟨h.later hb, r⟩
  · exact .inr ⟨o, b, c, h.later hb⟩
theorem TU.hB (h : TU B t vA vL n S g w) : B ≤ w.heap.size := by
  rcases h with ⟨h, r⟩ | ⟨o, b, c, h⟩
  · exact h.hB
  · exact h.hB
theorem TU.ok (h : TU B t vA vL n S g w) : Ok n S := by
  rcases h with ⟨h, rfl, rfl, rfl⟩ | ⟨o, b, c, h⟩
  · exact Ok.nil 0
  · exact h.ok
theorem TU.blk (h : TU B t vA vL n S g w) : B ≤ t ∧ ∃ u v, w.heap[t]? = some (.cells #[vA, u, v, vL] 73 (0, 0)) := by
  rcases h with ⟨h, r⟩ | ⟨o, b, c, p, N, hN, h⟩
  · exact ⟨h.1, _, _, h.2⟩
  · exact ⟨h.gt, _, _, h.ht⟩
theorem TU.wf (h : TU B t vA vL n S g w) {x : It} (hx : x ∈ S) : Wf x.id := by
  rcases h with ⟨h, rfl, rfl, rfl⟩ | ⟨o, b, c, p, N, hN, h⟩
  · cases hx
  · exact h.hg.wf hx
theorem fput_zero (k : Int) : fput (fun _ => (0 : Int)) k 0 = fun _ => 0 := by funext z; unfold fput; split <;> rfl
theorem tu_arm (k x y : Int) (h : TU B t vA vL n S g w) (hk : Wf k) (hx : Fit x) (hy : Fit y) (hn : n ≤ 1000000) (hl : S.length < 1000) : Calls Try.prog 62 #[pT t, .int .i64 k, .int .i64 x, .int .i64 y] w (XU B t vA vL (n + 1) (ins ⟨k, x, (n : Int) + 1⟩ (del k S)) (fput g k y) (.int .i64 0) w) := by
  rcases h with ⟨h, rfl, rfl, rfl⟩ | ⟨o, b, c, h⟩
  · exact zt_arm k x y h hk hx hy
  · exact (tn_arm k x y h hk hx hy hn hl).mono fun _ _ r => r.xu
theorem tu_stop (k : Int) (h : TU B t vA vL n S g w) (hk : Wf k) (hl : S.length ≤ 1000) : Calls Try.prog 59 #[pT t, .int .i64 k] w (XU B t vA vL n (del k S) (fput g k 0) (.bool (decide (k ∈ ids S))) w) := by
  rcases h with ⟨h, rfl, rfl, rfl⟩ | ⟨o, b, c, h⟩
  · refine (zt_stop k h).mono fun e w' r => ?_
    have := h.xu r
    rwa [← fput_zero k] at this
  · by_cases hm : k ∈ ids S
    · obtain ⟨i, y, hi, hy⟩ := ids_mem hm
      rw [decide_eq_true hm]
      subst hy
      exact (tn_stop_yes h (List.mem_of_getElem? hi) hl).mono fun _ _ r => r.xu
    · rw [decide_eq_false hm, del_none hm]
      exact (tn_stop_no h hk hm).mono fun _ _ r => r.xu
/-- When the first one is due, and whether there is one. -/
def nxt : List It → Int × Bool
  | [] => (0, false)
  | x :: _ => (x.w, true)
theorem tu_next (h : TU B t vA vL n S g w) (hl : S.length ≤ 1000) : Calls Try.prog 47 #[pT t] w (XU B t vA vL n S g (.tuple #[.int .i64 (nxt S).1, .bool (nxt S).2]) w) := by
  rcases h with ⟨h, rfl, rfl, rfl⟩ | ⟨o, b, c, h⟩
  · exact (zt_next h).mono fun e w' r => h.xu r
  · cases S with
    | nil => exact (tn_next_no h).mono fun _ _ r => r.xu
    | cons x S => exact (tn_next h hl).mono fun _ _ r => r.xu
theorem tu_take_no {now : Int} (h : TU B t vA vL n S g w) (hl : S.length ≤ 1000) (hi : Idle now S) : Calls Try.prog 32 #[pT t, .int .i64 now] w (XU B t vA vL n S g (.tuple #[vD 0 0 0, .bool false]) w) := by
  rcases h with ⟨h, rfl, rfl, rfl⟩ | ⟨o, b, c, h⟩
  · exact (zt_take h).mono fun e w' r => h.xu r
  · exact (tn_take_no h hl hi).mono fun _ _ r => r.xu
theorem tu_take_end {x : It} {now : Int} (h : TU B t vA vL n (x :: S) g w) (hl : (x :: S).length ≤ 1000) (hw : x.w ≤ now) (hg : ¬ Gon x.w (g x.id) now) : Calls Try.prog 32 #[pT t, .int .i64 now] w (XU B t vA vL n S (fput g x.id 0) (.tuple #[vD x.id x.w now, .bool true]) w) := by
  rcases h with ⟨h, rfl, e, rfl⟩ | ⟨o, b, c, h⟩
  · cases e
  · exact (tn_take_end h hl hw hg).mono fun _ _ r => r.xu
theorem tu_take_on {x : It} {now : Int} (h : TU B t vA vL n (x :: S) g w) (hn : n ≤ 1000000) (hl : (x :: S).length ≤ 1000) (hw : x.w ≤ now) (hg : Gon x.w (g x.id) now) : Calls Try.prog 32 #[pT t, .int .i64 now] w (XU B t vA vL (n + 1) (ins ⟨x.id, nx x.w (g x.id) now, (n : Int) + 1⟩ S) g (.tuple #[vD x.id x.w now, .bool true]) w) := by
  rcases h with ⟨h, rfl, e, rfl⟩ | ⟨o, b, c, h⟩
  · cases e
  · exact (tn_take_on h hn hl hw hg).mono fun _ _ r => r.xu
end
end Go.Proofs.Ytmadcnpkaijllaa
