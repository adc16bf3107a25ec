/- Timers within a set, made or not made yet. Conditions: each theorem's own premises.
A channel in memory: a ring, and two queues of links within it; what carries it. No condition. -/
import Derived.Test.YtdpapnfjpefhkaaTakm
import Derived.Test.YtdpapnfjpefhkaaChecked
import Derived.WalkKit
import Derived.Below
import Derived.Laws.OwnMore
import Derived.Deep.AppendLies
import Derived.Laws.Rows
import Derived.Laws.BitsAllLaws
import Derived.Lib.Hide
import Derived.Outline
import Derived.BigQuiet
import Derived.Deep.QuietTactic
import Derived.Deep.RegionWith
import Derived.Deep.RegionLaw
import Derived.ArgAppend
import Derived.Deep.LoopGhost
import Derived.Laws.ResultCell
namespace Go.Proofs.Ytdpapnfjpefhkaa
open Go.RowKit
set_option linter.unusedVariables false
set_option maxRecDepth 100000
theorem remove_nil (k : Int) (w : World) : Calls Try.prog 85 #[.pointer none, .int .i64 k] w (IbR zI false w) := by
  go_enter Try.func85, Try.ntmps85
  go_wp2_with fail
  refine (place_nil k _).mono ?_
  rintro e w' ⟨rfl, rfl⟩
  go_wp2_with fail
  refine bodyPost_ret (v := .tuple #[.agg #[.int .i64 0, .int .i64 0, .int .i64 0], .bool false]) ?_ rfl ⟨rfl, ?_⟩
  · rw [results_cell_tmp rfl]; go_simp; try rfl
  · first | exact below_al _ _ | (repeat' (first | exact below_al _ _ | refine Below.alloc ?_ (by omega) _))
theorem del_nil {x : Int} (ty : TypeId) (w : World) : (Builtin.delete_ #[95, 3] ty #[.map none, .int .i64 x]).run Try.prog w = .ok (.tuple #[]) w := by kernel_rfl
theorem wp_ndrop {ops : Array Oper} {rest : List Oper} {op : Oper} {a : Act} {Q : Exit → Act → World → Prop} {x : Int} {w : World} (hg : op.guard = none) (u y : Operand) (hop : op.op = Op.call { callee := Callee.builtin Builtin.delete, args := #[u, y], argTypes := #[95, 3] })
    (hm : a.eval u = .map none) (hy : a.eval y = .int .i64 x) (hK : wpList Try.prog ops Q rest (a.put op.dst (.tuple #[])) w) : wpList Try.prog ops Q (op :: rest) a w := by
  refine wpList_plain hg fun K' hK' => ?_
  have hrun := @del_nil x op.type w
  unfold Oper.wp
  simp [execOp, hop, resolve, invoke, builtin, hm, hy, hrun, Result.andThen]
  exact hK' _ _ hK

/-- Not made yet. -/
def ZT (B t : Nat) (vA vL : Value) (w : World) : Prop := B ≤ t ∧ w.heap[t]? = some (.cells #[vA, .pointer none, .map none, vL] 99 (0, 0))
/-- New timers, by themselves. -/
def NewT (w : World) (e : Ending) (w' : World) : Prop :=
  ∃ r o b c, e = .returned (.pointer (some ⟨r, 0, none⟩)) ∧ w'.heap[r]? = some (.cells #[.pointer (some ⟨o, 0, none⟩), .map (some c)] 97 (0, 0)) ∧ (∀ B, B ≤ w.heap.size → HG B w' o b none 0 []) ∧ Pm w' c 0 (fun _ => 0) ∧ c ≠ b ∧ (w.heap.size ≤ o ∧ w.heap.size ≤ b ∧ w.heap.size ≤ c) ∧ Below w.heap.size w w'
theorem newt_at (w : World) : NewT w (.returned (.pointer (some ⟨w.heap.size + 3, 0, none⟩))) (((nwH w).alloc (.map #[] 0)).alloc (.cells #[.pointer (some ⟨w.heap.size + 1, 0, none⟩), .map (some (w.heap.size + 2))] 97)) := by
  have hn := new_at w
  change NewR w _ (nwH w) at hn
  have b1 := below_al (nwH w) (.map #[] 0)
  have b2 : Below (nwH w).heap.size (nwH w) (((nwH w).alloc (.map #[] 0)).alloc (.cells #[.pointer (some ⟨w.heap.size + 1, 0, none⟩), .map (some (w.heap.size + 2))] 97)) := b1.alloc (by simp) _
  refine ⟨w.heap.size + 3, w.heap.size + 1, w.heap.size, w.heap.size + 2, rfl, ?_, fun B hB => (hn.2.1 B hB).later b2, ?_, by omega, by omega, hn.2.2.trans (b2.mono hn.2.2.size)⟩
  · have := heap_alloc_new ((nwH w).alloc (.map #[] 0)) (.cells #[.pointer (some ⟨w.heap.size + 1, 0, none⟩), .map (some (w.heap.size + 2))] 97)
    rw [World.size_alloc, nwH_size] at this
    exact this
  · have h1 := Pm.new (nwH w)
    rw [nwH_size] at h1
    exact h1.keep (Below.heap_alloc _ _ _ (by rw [World.size_alloc, nwH_size]; omega))
theorem newt_any (w : World) : Calls Try.prog 94 #[] w (NewT w) := by
  have hmm := @run_makeMap Try.prog
  have hs := nwH_size w
  have hf := Lib.hid (newt_at w)
  go_enter Try.func94, Try.ntmps94
  go_wp2_with (go_at_call 103; (with_reducible refine (new_ex _).mono ?_); rintro e w' ⟨rfl, rfl⟩)
  go_ret
  exact hf.out
/-- No row of another kind has turned. -/
def OY (w w' : World) : Prop := ∀ (k : Nat) (cs : Array Value) (t : TypeId) (fr : Nat × Nat), w.heap[k]? = some (.cells cs t fr) → t ≠ 179 → t ≠ 150 → t ≠ 99 → w'.heap[k]? = some (.cells cs t fr)
theorem OY.refl (w : World) : OY w w := fun _ _ _ _ h _ _ _ => h
theorem OY.trans {u v w : World} (h : OY u v) (k : OY v w) : OY u w := fun i cs t fr h1 h2 h3 h4 => k i cs t fr (h i cs t fr h1 h2 h3 h4) h2 h3 h4
theorem OY.of_below {w w' : World} (h : Below w.heap.size w w') : OY w w' := fun k cs t fr h1 _ _ _ => (h.block k (lt_of_blk h1)).trans h1
theorem OX.oy {w w' : World} (h : OX w w') : OY w w' := fun k cs t fr h1 h2 h3 _ => h k cs t fr h1 h2 h3
/-- Timers, be they made or not. -/
def TU (B t : Nat) (vA vL : Value) (n : Nat) (S : List It) (g : Int → Int) (w : World) : Prop :=
  (ZT B t vA vL w ∧ n = 0 ∧ S = [] ∧ g = fun _ => 0) ∨ ∃ o b c, TN B t vA vL o b c n S g w
def XU (B t : Nat) (vA vL : Value) (n : Nat) (S : List It) (g : Int → Int) (v : Value) (w : World) (e : Ending) (w' : World) : Prop :=
  e = .returned v ∧ TU B t vA vL n S g w' ∧ Below B w w' ∧ OY w w'
section
variable {B t o b c n n' N N' : Nat} {vA vL : Value} {p p' : Option Nat} {S S' : List It} {g g' : Int → Int} {w w' : World} {e : Ending} {v : Value}
theorem XR.xu (h : XR B t vA vL o b c n S g v w e w') : XU B t vA vL n S g v w e w' := ⟨h.1, .inr ⟨o, b, c, h.2.1⟩, h.2.2.1, h.2.2.2.oy⟩
theorem ZT.later (h : ZT B t vA vL w) (hb : Below w.heap.size w w') : ZT B t vA vL w' := ⟨h.1, (hb.block _ (lt_of_blk h.2)).trans h.2⟩
theorem ZT.c0 (h : ZT B t vA vL w) : w.cell? ⟨t, 1, none⟩ = some (.pointer none) := by rw [cell_of_row w t 1 _ _ _ h.2]; rfl
theorem ZT.c1 (h : ZT B t vA vL w) : w.cell? ⟨t, 2, none⟩ = some (.map none) := by rw [cell_of_row w t 2 _ _ _ h.2]; rfl
theorem ZT.fz (h : ZT B t vA vL w) (i : Nat) : w.frozen? ⟨t, i, none⟩ = false := frozen_of_row w t i _ _ h.2
theorem ZT.hB (h : ZT B t vA vL w) : B ≤ w.heap.size := by have := lt_of_blk h.2; have := h.1; omega
theorem ZT.xu (h : ZT B t vA vL w) (hr : e = .returned v ∧ Below w.heap.size w w') : XU B t vA vL 0 [] (fun _ => 0) v w e w' :=
  ⟨hr.1, .inl ⟨h.later hr.2, rfl, rfl, rfl⟩, hr.2.mono h.hB, OY.of_below hr.2⟩
set_option maxHeartbeats 4000000 in
theorem zt_stop (k : Int) (h : ZT B t vA vL w) : Calls Try.prog 73 #[pT t, .int .i64 k] w fun e w' => e = .returned (.bool false) ∧ Below w.heap.size w w' := by
  have HA := Lib.hid h
  have c0 := h.c0
  clear h
  go_enter Try.func73, Try.ntmps73
  go_wp2_with fail
  refine (remove_nil k _).mono ?_
  rintro e w1 ⟨rfl, hb⟩
  have HB2 : Hid (Below w.heap.size w (w1.alloc (.cells #[.int .i64 zI.id, .int .i64 zI.w, .int .i64 zI.s] 150))) := hb.trans ((below_al w1 _).mono hb.size)
  clear hb
  go_upto_region 4 with (fail)
  generalize w1.alloc (.cells #[.int .i64 zI.id, .int .i64 zI.w, .int .i64 zI.s] 150) = w2 at *
  have H1 := Lib.hid (HA.out.later HB2.out)
  clear HA c0
  have c1 := H1.out.c1
  go_wp2_with (at_delete; go_loud (refine wp_ndrop rfl (.tmp 21) (.tmp 22) rfl rfl rfl ?_))
  go_ret
  exact ⟨rfl, HB2.out⟩
theorem zt_next (h : ZT B t vA vL w) : Calls Try.prog 50 #[pT t] w (InR 0 false w) := by
  have c0 := h.c0
  clear h
  go_enter Try.func50, Try.ntmps50
  go_wp2_with fail
  refine (min_nil _).mono ?_
  rintro e w1 ⟨rfl, hb⟩
  have HB2 : Hid (Below w.heap.size w (w1.alloc (.cells #[.int .i64 zI.id, .int .i64 zI.w, .int .i64 zI.s] 150))) := hb.trans ((below_al w1 _).mono hb.size)
  clear hb
  go_wp2_with fail
  go_ret2
  exact ⟨rfl, HB2.out⟩
set_option maxHeartbeats 4000000 in
theorem zt_take {now : Int} (h : ZT B t vA vL w) : Calls Try.prog 41 #[pT t, .int .i64 now] w (DbR 0 0 0 false w) := by
  have c0 := h.c0
  have ht := lt_of_blk h.2
  have HA := Lib.hid (h.later (below_al w (.cells #[.int .i64 0, .int .i64 0, .int .i64 0] 110)))
  have D1 := Lib.hid (Dbk.new w 0 0 0)
  have HB1 := Lib.hid (below_al w (.cells #[.int .i64 0, .int .i64 0, .int .i64 0] 110))
  clear h
  go_enter Try.func41, Try.ntmps41
  go_wp2_with fail
  refine (min_nil _).mono ?_
  rintro e w1 ⟨rfl, hb⟩
  generalize w.alloc (.cells #[.int .i64 0, .int .i64 0, .int .i64 0] 110) = wa at *
  have HA1 := Lib.hid (HA.out.later hb)
  have D1 := Lib.hid (D1.out.later hb)
  have HB1 := Lib.hid (HB1.out.trans (hb.mono HB1.out.size))
  clear hb HA
  have X1 := Lib.hid (Blk.new w1 zI)
  have HA := Lib.hid (HA1.out.later (below_al w1 (.cells #[.int .i64 zI.id, .int .i64 zI.w, .int .i64 zI.s] 150)))
  have D1 := Lib.hid (D1.out.later (below_al w1 (.cells #[.int .i64 zI.id, .int .i64 zI.w, .int .i64 zI.s] 150)))
  have HB1 := Lib.hid (HB1.out.trans ((below_al w1 (.cells #[.int .i64 zI.id, .int .i64 zI.w, .int .i64 zI.s] 150)).mono HB1.out.size))
  clear HA1
  go_upto_region 4 with (fail)
  generalize w1.alloc (.cells #[.int .i64 zI.id, .int .i64 zI.w, .int .i64 zI.s] 150) = w2 at *
  generalize w1.heap.size = s at *
  clear c0 ht
  have c0 := HA.out.c0
  obtain ⟨x0, x1, x2, _⟩ := X1.out.cells
  obtain ⟨d0, d1, d2, f0, f1, f2⟩ := D1.out.cells
  go_wp2_with fail
  refine bodyPost_ret (v := .tuple #[vD 0 0 0, .bool false]) ?_ rfl ⟨rfl, below_set3 HB1.out (Nat.le_refl _)⟩
  rw [results_cell_tmp rfl]
  go_simp
theorem ZT.made {w1 : World} {r : Nat} (h : ZT B t vA vL w) (hb : Below w.heap.size w w1) (hG : HG B w1 o b none 0 []) (pm : Pm w1 c 0 (fun _ => 0)) (hne : c ≠ b) (hs : w.heap.size ≤ o ∧ w.heap.size ≤ b ∧ w.heap.size ≤ c) :
    TT B t vA vL o b c none 0 0 [] (fun _ => 0) ((w1.setCell ⟨t, 1, none⟩ (.pointer (some ⟨o, 0, none⟩))).setCell ⟨t, 2, none⟩ (.map (some c))) ∧ Below B w ((w1.setCell ⟨t, 1, none⟩ (.pointer (some ⟨o, 0, none⟩))).setCell ⟨t, 2, none⟩ (.map (some c))) ∧ OY w ((w1.setCell ⟨t, 1, none⟩ (.pointer (some ⟨o, 0, none⟩))).setCell ⟨t, 2, none⟩ (.map (some c))) := by
  have hlt := lt_of_blk h.2
  have hB := h.hB
  have h1 := h.1
  have key : ∀ k, k ≠ t → ((w1.setCell ⟨t, 1, none⟩ (.pointer (some ⟨o, 0, none⟩))).setCell ⟨t, 2, none⟩ (.map (some c))).heap[k]? = w1.heap[k]? := fun k hk =>
    (Below.heap_setCell _ _ _ _ (by exact hk)).trans (Below.heap_setCell _ _ _ _ (by exact hk))
  have e0 := (hb.block t hlt).trans h.2
  have e1 := heap_setCell_same w1 t 1 _ _ (.pointer (some ⟨o, 0, none⟩)) e0
  have e2 := heap_setCell_same _ t 2 _ _ (.map (some c)) e1
  refine ⟨⟨hG.keep (key o (by omega)) (key b (by omega)) (fun k hk => (by cases hk)), e2, pm.keep (key c (by omega)), Ok.nil 0, h1, by omega, hne⟩, ((hb.mono hB).setCell h1 _).setCell h1 _, fun k cs ty fr a1 a2 a3 a4 => ?_⟩
  rw [key k ?_, hb.block k (lt_of_blk a1)]
  · exact a1
  · rintro rfl
    have := h.2
    rw [a1] at this; injection this with this; injection this with _ this _; exact a4 this
set_option maxHeartbeats 8000000 in
theorem zt_arm (k x y : Int) (h : ZT B t vA vL w) (hk : Wf k) (hx : Fit x) (hy : Fit y) :
    Calls Try.prog 83 #[pT t, .int .i64 k, .int .i64 x, .int .i64 y] w (XU B t vA vL 1 [⟨k, x, 1⟩] (fput (fun _ => 0) k y) (.int .i64 0) w) := by
  have F1 := fun w => fits_yes x w hx.1 hx.2
  have F2 := fun w => fits_yes y w hy.1 hy.2
  have HA := Lib.hid h
  have HX := Lib.hid (And.intro hx hy)
  have hwy := wf_fit hy
  have c0 := h.c0
  have f1 := h.fz 1
  have f2 := h.fz 2
  have hml : (0 : Nat) < maxLen := by unfold maxLen; omega
  have hy0 := hy.1
  clear h hx hy
  have hm : k ∉ ids [] := by simp [ids]
  go_enter Try.func83, Try.ntmps83
  go_wp2_with (go_at_call 93; first | ((with_reducible refine (F1 _).mono ?_); rintro e w' ⟨rfl, rfl⟩) | ((with_reducible refine (F2 _).mono ?_); rintro e w' ⟨rfl, rfl⟩))
  refine (newt_any w).mono ?_
  rintro e w1 ⟨r, o, b, c, rfl, hr, hG, pm, hne, hs, hb⟩
  have q0 : w1.cell? ⟨r, 0, none⟩ = some (.pointer (some ⟨o, 0, none⟩)) := by rw [cell_of_row w1 r 0 _ _ _ hr]; rfl
  have q1 : w1.cell? ⟨r, 1, none⟩ = some (.map (some c)) := by rw [cell_of_row w1 r 1 _ _ _ hr]; rfl
  have HM := Lib.hid (HA.out.made (r := r) hb (hG B HA.out.hB) pm hne hs)
  clear c0 f1 f2
  have f1 := (HA.out.later hb).fz 1
  have f2 := (HA.out.later hb).fz 2
  have d0 := (HA.out.later hb).c0
  have d1 := (HA.out.later hb).c1
  clear hr hG pm hne hs hb
  go_upto_region 5 with (fail)
  generalize (w1.setCell ⟨t, 1, none⟩ (.pointer (some ⟨o, 0, none⟩))).setCell ⟨t, 2, none⟩ (.map (some c)) = wz at *
  have c0 := HM.out.1.c0
  clear q0 q1 f1 f2 d0 d1
  go_wp2_with fail
  refine (move_no k x HM.out.1.hg hk hm).mono ?_
  rintro e w1 ⟨rfl, rfl⟩
  go_wp2_with fail
  refine (add_new k x HM.out.1.hg HM.out.1.ok hk hm (by omega) (by decide) HM.out.1.hB).mono ?_
  rintro e w1 hr
  have hr := HM.out.1.go (HM.out.1.ok.ins k x hm) hr
  have HT := Lib.hid hr.2
  obtain rfl := hr.1
  clear hr c0
  obtain ⟨p1, h1, h2⟩ := HT.out
  have c1 := h1.c1
  have H1 := Lib.hid h1
  have H2 := Lib.hid h2
  clear h1 h2 HT
  by_cases hp : 0 < y
  · go_wp2_with (first
      | (at_delete; go_loud (refine wp_pdrop rfl (.tmp 49) (.tmp 50) rfl H1.out.pm hk rfl rfl ?_; intro w2 ht pm; have H3 := Lib.hid (H1.out.mapped ht pm); have c12 := H3.out.1.c1; clear ht pm))
      | (at_mapUpdate; go_loud (refine wp_pstore rfl (.tmp 56) (.tmp 57) (.tmp 58) rfl H3.out.1.pm hk hwy hml rfl rfl rfl ?_; intro w3 ht pm; have H4 := Lib.hid (H3.out.1.mapped ht pm); clear ht pm)))
    go_ret
    have h4 := H4.out.1
    rw [fput_two] at h4
    have ht := H2.out.trans (H3.out.2.trans H4.out.2)
    exact ⟨rfl, .inr ⟨o, b, c, p1, 1, Nat.le_refl _, h4⟩, HM.out.2.1.trans (HM.out.1.low ht), HM.out.2.2.trans (HM.out.1.ox ht).oy⟩
  · obtain rfl : y = 0 := by omega
    go_wp2_with (first
      | (at_delete; go_loud (refine wp_pdrop rfl (.tmp 49) (.tmp 50) rfl H1.out.pm hk rfl rfl ?_; intro w2 ht pm; have H3 := Lib.hid (H1.out.mapped ht pm); have c12 := H3.out.1.c1; clear ht pm)))
    go_ret
    have ht := H2.out.trans H3.out.2
    exact ⟨rfl, .inr ⟨o, b, c, p1, 1, Nat.le_refl _, H3.out.1.more⟩, HM.out.2.1.trans (HM.out.1.low ht), HM.out.2.2.trans (HM.out.1.ox ht).oy⟩

/-! What each call makes of them. -/
theorem TU.later (h : TU B t vA vL n S g w) (hb : Below w.heap.size w w') : TU B t vA vL n S g w' := by
  rcases h with ⟨h, r⟩ | ⟨o, b, c, h⟩
  · exact .inl ⟨h.later hb, r⟩
  · exact .inr ⟨o, b, c, h.later hb⟩
theorem TU.hB (h : TU B t vA vL n S g w) : B ≤ w.heap.size := by
  rcases h with ⟨h, r⟩ | ⟨o, b, c, h⟩
  · exact h.hB
  · exact h.hB
theorem TU.ok (h : TU B t vA vL n S g w) : Ok n S := by
  rcases h with ⟨h, rfl, rfl, rfl⟩ | ⟨o, b, c, h⟩
  · exact Ok.nil 0
  · exact h.ok
theorem TU.blk (h : TU B t vA vL n S g w) : B ≤ t ∧ ∃ u v, w.heap[t]? = some (.cells #[vA, u, v, vL] 99 (0, 0)) := by
  rcases h with ⟨h, r⟩ | ⟨o, b, c, p, N, hN, h⟩
  · exact ⟨h.1, _, _, h.2⟩
  · exact ⟨h.gt, _, _, h.ht⟩
theorem TU.wf (h : TU B t vA vL n S g w) {x : It} (hx : x ∈ S) : Wf x.id := by
  rcases h with ⟨h, rfl, rfl, rfl⟩ | ⟨o, b, c, p, N, hN, h⟩
  · cases hx
  · exact h.hg.wf hx
theorem fput_zero (k : Int) : fput (fun _ => (0 : Int)) k 0 = fun _ => 0 := by funext z; unfold fput; split <;> rfl
theorem tu_arm (k x y : Int) (h : TU B t vA vL n S g w) (hk : Wf k) (hx : Fit x) (hy : Fit y) (hn : n ≤ 1000000) (hl : S.length < 1000) : Calls Try.prog 83 #[pT t, .int .i64 k, .int .i64 x, .int .i64 y] w (XU B t vA vL (n + 1) (ins ⟨k, x, (n : Int) + 1⟩ (del k S)) (fput g k y) (.int .i64 0) w) := by
  rcases h with ⟨h, rfl, rfl, rfl⟩ | ⟨o, b, c, h⟩
  · exact zt_arm k x y h hk hx hy
  · exact (tn_arm k x y h hk hx hy hn hl).mono fun _ _ r => r.xu
theorem tu_stop (k : Int) (h : TU B t vA vL n S g w) (hk : Wf k) (hl : S.length ≤ 1000) : Calls Try.prog 73 #[pT t, .int .i64 k] w (XU B t vA vL n (del k S) (fput g k 0) (.bool (decide (k ∈ ids S))) w) := by
  rcases h with ⟨h, rfl, rfl, rfl⟩ | ⟨o, b, c, h⟩
  · refine (zt_stop k h).mono fun e w' r => ?_
    have := h.xu r
    rwa [← fput_zero k] at this
  · by_cases hm : k ∈ ids S
    · obtain ⟨i, y, hi, hy⟩ := ids_mem hm
      rw [decide_eq_true hm]
      subst hy
      exact (tn_stop_yes h (List.mem_of_getElem? hi) hl).mono fun _ _ r => r.xu
    · rw [decide_eq_false hm, del_none hm]
      exact (tn_stop_no h hk hm).mono fun _ _ r => r.xu
/-- When the first one is due, and whether there is one. -/
def nxt : List It → Int × Bool
  | [] => (0, false)
  | x :: _ => (x.w, true)
theorem tu_next (h : TU B t vA vL n S g w) (hl : S.length ≤ 1000) : Calls Try.prog 50 #[pT t] w (XU B t vA vL n S g (.tuple #[.int .i64 (nxt S).1, .bool (nxt S).2]) w) := by
  rcases h with ⟨h, rfl, rfl, rfl⟩ | ⟨o, b, c, h⟩
  · exact (zt_next h).mono fun e w' r => h.xu r
  · cases S with
    | nil => exact (tn_next_no h).mono fun _ _ r => r.xu
    | cons x S => exact (tn_next h hl).mono fun _ _ r => r.xu
theorem tu_take_no {now : Int} (h : TU B t vA vL n S g w) (hl : S.length ≤ 1000) (hi : Idle now S) : Calls Try.prog 41 #[pT t, .int .i64 now] w (XU B t vA vL n S g (.tuple #[vD 0 0 0, .bool false]) w) := by
  rcases h with ⟨h, rfl, rfl, rfl⟩ | ⟨o, b, c, h⟩
  · exact (zt_take h).mono fun e w' r => h.xu r
  · exact (tn_take_no h hl hi).mono fun _ _ r => r.xu
theorem tu_take_end {x : It} {now : Int} (h : TU B t vA vL n (x :: S) g w) (hl : (x :: S).length ≤ 1000) (hw : x.w ≤ now) (hg : ¬ Gon x.w (g x.id) now) : Calls Try.prog 41 #[pT t, .int .i64 now] w (XU B t vA vL n S (fput g x.id 0) (.tuple #[vD x.id x.w now, .bool true]) w) := by
  rcases h with ⟨h, rfl, e, rfl⟩ | ⟨o, b, c, h⟩
  · cases e
  · exact (tn_take_end h hl hw hg).mono fun _ _ r => r.xu
theorem tu_take_on {x : It} {now : Int} (h : TU B t vA vL n (x :: S) g w) (hn : n ≤ 1000000) (hl : (x :: S).length ≤ 1000) (hw : x.w ≤ now) (hg : Gon x.w (g x.id) now) : Calls Try.prog 41 #[pT t, .int .i64 now] w (XU B t vA vL (n + 1) (ins ⟨x.id, nx x.w (g x.id) now, (n : Int) + 1⟩ S) g (.tuple #[vD x.id x.w now, .bool true]) w) := by
  rcases h with ⟨h, rfl, e, rfl⟩ | ⟨o, b, c, h⟩
  · cases e
  · exact (tn_take_on h hn hl hw hg).mono fun _ _ r => r.xu
end
end Go.Proofs.Ytdpapnfjpefhkaa
namespace Go.Proofs.Ytdpapnfjpefhkaa.Ch
open Go.RowKit
set_option linter.unusedVariables false
set_option maxRecDepth 100000

/-! Places that go round: plain mathematics. -/
/-- The places ps, the first value at f, hold the values l. -/
def QQ (ps : List Int) (f : Nat) (l : List Int) : Prop :=
  l.length ≤ ps.length ∧ (0 < ps.length → f < ps.length) ∧ (ps.length = 0 → f = 0) ∧ ∀ i x, l[i]? = some x → ps[(f + i) % ps.length]? = some x

theorem mod_ne {n f i j : Nat} (hi : i < j) (hj : j < n + i) : (f + i) % n ≠ (f + j) % n := by
  intro h
  have h1 : (f + j - (f + i)) % n = 0 := by
    rw [← Nat.sub_mod_eq_zero_of_mod_eq (h.symm)]
  rw [show f + j - (f + i) = j - i by omega] at h1
  rw [Nat.mod_eq_of_lt (by omega)] at h1
  omega
theorem QQ.new (n : Nat) : QQ (List.replicate n 0) 0 [] := ⟨by simp, fun h => h, fun _ => rfl, fun i x h => by simp at h⟩
theorem QQ.clear {ps qs : List Int} {f : Nat} {l : List Int} (h : QQ ps f l) (hq : qs.length = ps.length) : QQ qs f [] :=
  ⟨by simp, fun h0 => by rw [hq] at h0 ⊢; exact h.2.1 h0, fun h0 => h.2.2.1 (by omega), fun i x hx => by simp at hx⟩
theorem QQ.push {ps : List Int} {f : Nat} {l : List Int} (h : QQ ps f l) (hl : l.length < ps.length) (v : Int) : QQ (ps.set ((f + l.length) % ps.length) v) f (l ++ [v]) := by
  obtain ⟨h1, h2, h3, h4⟩ := h
  refine ⟨by simp; omega, by simpa using h2, by simpa using h3, fun i x hx => ?_⟩
  rw [List.length_set]
  by_cases hi : i < l.length
  · rw [List.getElem?_append_left hi] at hx
    rw [List.getElem?_set_ne (fun e => mod_ne (n := ps.length) (f := f) hi (by omega) e.symm)]
    exact h4 i x hx
  · have hi2 : i < (l ++ [v]).length := (List.getElem?_eq_some_iff.1 hx).1
    simp at hi2
    obtain rfl : i = l.length := by omega
    simp at hx
    subst hx
    rw [List.getElem?_set_self (Nat.mod_lt _ (by omega))]
theorem QQ.pop {ps : List Int} {f : Nat} {l : List Int} {x : Int} (h : QQ ps f (x :: l)) : QQ (ps.set f 0) ((f + 1) % ps.length) l := by
  obtain ⟨h1, h2, h3, h4⟩ := h
  simp at h1
  refine ⟨by simp; omega, fun h0 => by rw [List.length_set] at h0 ⊢; exact Nat.mod_lt _ h0, fun h0 => by rw [List.length_set] at h0; omega, fun i y hy => ?_⟩
  rw [List.length_set]
  have hi : i < l.length := (List.getElem?_eq_some_iff.1 hy).1
  have hf := h2 (by omega)
  have e : ((f + 1) % ps.length + i) % ps.length = (f + (i + 1)) % ps.length := by rw [Nat.mod_add_mod]; congr 1; omega
  rw [e, List.getElem?_set_ne (fun e2 => ?_)]
  · exact h4 (i + 1) y (by simpa using hy)
  · have e3 := mod_ne (n := ps.length) (f := f) (i := 0) (j := i + 1) (by omega) (by omega)
    rw [Nat.add_zero, Nat.mod_eq_of_lt hf] at e3
    exact e3 e2
theorem QQ.head {ps : List Int} {f : Nat} {l : List Int} {x : Int} (h : QQ ps f (x :: l)) : ps[f]? = some x := by
  have := h.2.2.2 0 x (by simp)
  have h1 := h.1
  simp at h1
  rwa [Nat.add_zero, Nat.mod_eq_of_lt (h.2.1 (by omega))] at this

/-! In memory. -/
def iV (l : List Int) : List Value := l.map (Value.int .i64)
def iA (l : List Int) : Array Value := (l.map (Value.int .i64)).toArray
theorem iA_at {l : List Int} {j : Nat} {x : Int} (h : l[j]? = some x) : (iA l)[j]? = some (.int .i64 x) := by simp [iA, h]
theorem iA_set (l : List Int) (j : Nat) (x : Int) : (iA l).setIfInBounds j (.int .i64 x) = iA (l.set j x) := by simp [iA, List.map_set]
theorem cell_blk {w w' : World} {b : Nat} (h : w'.heap[b]? = w.heap[b]?) (i : Nat) : w'.cell? ⟨b, i, none⟩ = w.cell? ⟨b, i, none⟩ := World.cell?_of_block (a := ⟨b, i, none⟩) h
theorem frozen_blk {w w' : World} {b : Nat} (h : w'.heap[b]? = w.heap[b]?) (i : Nat) : w'.frozen? ⟨b, i, none⟩ = w.frozen? ⟨b, i, none⟩ := World.frozen?_of_block (a := ⟨b, i, none⟩) h
theorem below_al (w : World) (o : Obj) : Below w.heap.size w (w.alloc o) := (Below.refl _ _).alloc (Nat.le_refl _) _
theorem below_drewN {B : Nat} {a w : World} (h : Below B a w) (n : Nat) : Below B a (w.drewN n) := ⟨h.os, h.tape, h.output, h.size, h.block⟩
theorem lt_of_blk {w : World} {b : Nat} {o : Obj} (h : w.heap[b]? = some o) : b < w.heap.size := (Array.getElem?_eq_some_iff.1 h).1
theorem size_set (w : World) (a : Addr) (u : Value) : (w.setCell a u).heap.size = w.heap.size := by simp [World.setCell]
def BoolR (b : Bool) (w : World) (e : Ending) (w' : World) : Prop := e = .returned (.bool b) ∧ Below w.heap.size w w'
theorem ret_bool {a b : Bool} (h : a = b) : Ending.returned (.bool a) = .returned (.bool b) := by rw [h]
theorem ret_int {k : IntKind} {a b : Int} (h : a = b) : Ending.returned (.int k a) = .returned (.int k b) := by rw [h]

/-! Nothing has turned but new blocks and those of F. -/
structure Tn (F : Nat → Prop) (w w' : World) : Prop where
  os : w'.os = w.os
  tape : w'.tape = w.tape
  output : w'.output = w.output
  size : w.heap.size ≤ w'.heap.size
  block : ∀ k, k < w.heap.size → ¬ F k → w'.heap[k]? = w.heap[k]?
theorem Tn.refl (F : Nat → Prop) (w : World) : Tn F w w := ⟨rfl, rfl, rfl, Nat.le_refl _, fun _ _ _ => rfl⟩
theorem Tn.of_below {F : Nat → Prop} {w w' : World} (h : Below w.heap.size w w') : Tn F w w' := ⟨h.os, h.tape, h.output, h.size, fun k hk _ => h.block k hk⟩
theorem Tn.comp {F G : Nat → Prop} {u v w : World} (h : Tn F u v) (k : Tn G v w) (hs : ∀ b, G b → F b ∨ u.heap.size ≤ b) : Tn F u w :=
  ⟨k.os.trans h.os, k.tape.trans h.tape, k.output.trans h.output, Nat.le_trans h.size k.size, fun i hi hn => by
    rw [← h.block i hi hn]
    exact k.block i (by have := h.size; omega) (fun hg => by rcases hs i hg with h1 | h1; exact hn h1; omega)⟩
theorem Tn.trans {F : Nat → Prop} {u v w : World} (h : Tn F u v) (k : Tn F v w) : Tn F u w := h.comp k fun _ hb => .inl hb
theorem Tn.mono {F G : Nat → Prop} {w w' : World} (h : Tn F w w') (hs : ∀ b, F b → G b ∨ w.heap.size ≤ b) : Tn G w w' := (Tn.refl G w).comp h hs
theorem Tn.set {F : Nat → Prop} {u w : World} {b i : Nat} (h : Tn F u w) (hb : F b ∨ u.heap.size ≤ b) (v : Value) : Tn F u (w.setCell ⟨b, i, none⟩ v) :=
  ⟨h.os, h.tape, h.output, by rw [size_set]; exact h.size, fun k hk hn => (Below.heap_setCell _ _ _ _ (by rintro rfl; rcases hb with h1 | h1; exact hn h1; omega)).trans (h.block k hk hn)⟩
theorem Tn.draws {F : Nat → Prop} {u w w' : World} (h : Tn F u w) (hh : w'.heap = w.heap) (h1 : w'.os = w.os) (h2 : w'.tape = w.tape) (h3 : w'.output = w.output) : Tn F u w' :=
  ⟨h1.trans h.os, h2.trans h.tape, h3.trans h.output, by rw [hh]; exact h.size, fun k hk hn => by rw [hh]; exact h.block k hk hn⟩
theorem Tn.later {F : Nat → Prop} {u w w' : World} (h : Tn F u w) (hb : Below w.heap.size w w') : Tn F u w' := h.trans (.of_below hb)
theorem Tn.below {F : Nat → Prop} {B : Nat} {w w' : World} (h : Tn F w w') (hB : B ≤ w.heap.size) (hF : ∀ b, F b → B ≤ b) : Below B w w' :=
  ⟨h.os, h.tape, h.output, h.size, fun k hk => h.block k (by omega) (fun hf => by have := hF k hf; omega)⟩
theorem Tn.early {F : Nat → Prop} {w w' : World} {o : Obj} (h : Tn F (w.alloc o) w') : Tn F w w' := (Tn.of_below (below_al w o)).trans h

/-! A ring. -/
/-- Block a is a ring, its places lie in block p: sz of them, the first value at f. -/
structure RI (w : World) (a p sz f : Nat) (ps l : List Int) : Prop where
  ne : a ≠ p
  len : ps.length = sz
  q : QQ ps f l
  hp : w.heap[p]? = some (.cells (iA ps) 3 (0, 0))
  ha : w.heap[a]? = some (.cells #[.slice (some ⟨p, 0, none⟩) sz sz, .int .i64 f, .int .i64 l.length] 186 (0, 0))
/-- Block a is a ring of size sz that holds l. -/
def RG (w : World) (a p sz : Nat) (l : List Int) : Prop := ∃ f ps, RI w a p sz f ps l

section
variable {w w' : World} {a p sz f : Nat} {ps l : List Int}
theorem RI.c0 (h : RI w a p sz f ps l) : w.cell? ⟨a, 0, none⟩ = some (.slice (some ⟨p, 0, none⟩) sz sz) := by rw [cell_of_row w a 0 _ _ _ h.ha]; rfl
theorem RI.c1 (h : RI w a p sz f ps l) : w.cell? ⟨a, 1, none⟩ = some (.int .i64 f) := by rw [cell_of_row w a 1 _ _ _ h.ha]; rfl
theorem RI.c2 (h : RI w a p sz f ps l) : w.cell? ⟨a, 2, none⟩ = some (.int .i64 l.length) := by rw [cell_of_row w a 2 _ _ _ h.ha]; rfl
theorem RI.fa (h : RI w a p sz f ps l) (i : Nat) : w.frozen? ⟨a, i, none⟩ = false := frozen_of_row w a i _ _ h.ha
theorem RI.fp (h : RI w a p sz f ps l) (i : Nat) : w.frozen? ⟨p, i, none⟩ = false := frozen_of_row w p i _ _ h.hp
theorem RI.cp (h : RI w a p sz f ps l) {i : Nat} {x : Int} (hx : ps[i]? = some x) : w.cell? ⟨p, i, none⟩ = some (.int .i64 x) := by rw [cell_of_row w p i _ _ _ h.hp]; exact iA_at hx
theorem RI.le (h : RI w a p sz f ps l) : l.length ≤ sz := by rw [← h.len]; exact h.q.1
theorem RI.lt (h : RI w a p sz f ps l) (h0 : 0 < sz) : f < sz := by have := h.len; subst this; exact h.q.2.1 h0
theorem RI.keep (h : RI w a p sz f ps l) (e1 : w'.heap[a]? = w.heap[a]?) (e2 : w'.heap[p]? = w.heap[p]?) : RI w' a p sz f ps l := ⟨h.ne, h.len, h.q, by rw [e2]; exact h.hp, by rw [e1]; exact h.ha⟩
theorem RG.keep (h : RG w a p sz l) (e1 : w'.heap[a]? = w.heap[a]?) (e2 : w'.heap[p]? = w.heap[p]?) : RG w' a p sz l := by obtain ⟨f, ps, h⟩ := h; exact ⟨f, ps, h.keep e1 e2⟩
theorem RG.la (h : RG w a p sz l) : a < w.heap.size := by obtain ⟨f, ps, h⟩ := h; exact lt_of_blk h.ha
theorem RG.lp (h : RG w a p sz l) : p < w.heap.size := by obtain ⟨f, ps, h⟩ := h; exact lt_of_blk h.hp
theorem RG.later (h : RG w a p sz l) (hb : Below w.heap.size w w') : RG w' a p sz l := h.keep (hb.block _ h.la) (hb.block _ h.lp)
theorem RG.le (h : RG w a p sz l) : l.length ≤ sz := by obtain ⟨f, ps, h⟩ := h; exact h.le
end

/-- Nothing but the blocks a and p has turned. -/
structure Only (a p : Nat) (w w' : World) : Prop where
  os : w'.os = w.os
  tape : w'.tape = w.tape
  output : w'.output = w.output
  size : w'.heap.size = w.heap.size
  block : ∀ k, k ≠ a → k ≠ p → w'.heap[k]? = w.heap[k]?
theorem Only.refl (a p : Nat) (w : World) : Only a p w w := ⟨rfl, rfl, rfl, rfl, fun _ _ _ => rfl⟩
theorem Only.trans {a p : Nat} {u v w : World} (h : Only a p u v) (k : Only a p v w) : Only a p u w :=
  ⟨k.os.trans h.os, k.tape.trans h.tape, k.output.trans h.output, k.size.trans h.size, fun i h1 h2 => (k.block i h1 h2).trans (h.block i h1 h2)⟩
theorem Only.set {a p b i : Nat} {u w : World} (h : Only a p u w) (hb : b = a ∨ b = p) (v : Value) : Only a p u (w.setCell ⟨b, i, none⟩ v) :=
  h.trans ⟨rfl, rfl, rfl, by simp [World.setCell], fun k h1 h2 => Below.heap_setCell _ _ _ _ (by rcases hb with rfl | rfl <;> assumption)⟩
theorem Only.drewN {a p : Nat} {u w : World} (h : Only a p u w) (n : Nat) : Only a p u (w.drewN n) := h.trans ⟨rfl, rfl, rfl, rfl, fun _ _ _ => rfl⟩
theorem Only.tn {a p : Nat} {F : Nat → Prop} {w w' : World} (h : Only a p w w') (ha : F a) (hp : F p) : Tn F w w' :=
  ⟨h.os, h.tape, h.output, by rw [h.size]; exact Nat.le_refl _, fun k _ hn => h.block k (fun e => hn (e ▸ ha)) (fun e => hn (e ▸ hp))⟩

/-! Who waits: links. -/
/-- One who waits: task, case, value. -/
structure Wt where
  t : Int
  c : Int
  v : Int
def wV (x : Wt) : List Value := [.int .i64 x.t, .int .i64 x.c, .int .i64 x.v]
theorem wV_len (x : Wt) : (wV x).length = 3 := rfl
def wG (x : Wt) : Value := .agg #[.int .i64 x.t, .int .i64 x.c, .int .i64 x.v]

/-- A row of links: the block of each, and who waits there. -/
abbrev Ns := List (Nat × Wt)
def adr (o : Option Nat) : Option Addr := o.map fun b => ⟨b, 0, none⟩
theorem adr_none : adr none = none := rfl
theorem adr_some (b : Nat) : adr (some b) = some ⟨b, 0, none⟩ := rfl
def hd : Ns → Option Nat → Option Nat
  | [], n => n
  | (b, _) :: _, _ => some b
theorem hd_nil (n : Option Nat) : hd [] n = n := rfl
theorem hd_cons (b : Nat) (x : Wt) (r : Ns) (n : Option Nat) : hd ((b, x) :: r) n = some b := rfl
def lst : Ns → Option Nat → Option Nat
  | [], p => p
  | (b, _) :: r, _ => lst r (some b)
theorem hd_app (l r : Ns) (n : Option Nat) : hd (l ++ r) n = hd l (hd r n) := by cases l <;> rfl
theorem lst_app : ∀ (l r : Ns) (p : Option Nat), lst (l ++ r) p = lst r (lst l p)
  | [], r, p => rfl
  | (b, x) :: l, r, p => by simp only [List.cons_append, lst]; exact lst_app l r (some b)

def Nd (w : World) (b : Nat) (x : Wt) (p n : Option Nat) : Prop := w.heap[b]? = some (.cells #[.int .i64 x.t, .int .i64 x.c, .int .i64 x.v, .pointer (adr p), .pointer (adr n)] 161 (0, 0))
/-- What else the channel's block holds. -/
structure Rs where
  k : Value
  c : Value
  v : Value
  x : Value
  y : Value
  z : Value
@[reducible] def off : Bool → Nat
  | true => 3
  | false => 6
def hB (s : Bool) (R : Rs) (f l n : Value) : Array Value := match s with
  | true => #[R.k, R.c, R.v, f, l, n, R.x, R.y, R.z]
  | false => #[R.k, R.c, R.v, R.x, R.y, R.z, f, l, n]
def Hd (w : World) (s : Bool) (q : Nat) (R : Rs) (f l : Option Nat) (n : Nat) : Prop := w.heap[q]? = some (.cells (hB s R (.pointer (adr f)) (.pointer (adr l)) (.int .i64 n)) 128 (0, 0))
/-- Links in a row: p ahead of the first one, n behind the last one. -/
def Sg (w : World) : Option Nat → Ns → Option Nat → Prop
  | _, [], _ => True
  | p, (b, x) :: r, n => Nd w b x p (hd r n) ∧ Sg w (some b) r n

theorem Sg.app {w : World} : ∀ (l r : Ns) (p n : Option Nat), Sg w p (l ++ r) n ↔ Sg w p l (hd r n) ∧ Sg w (lst l p) r n
  | [], r, p, n => by simp [Sg, lst]
  | (b, x) :: l, r, p, n => by
    simp only [List.cons_append, Sg, lst, hd_app, Sg.app l r (some b) n]
    exact and_assoc.symm
theorem Sg.keep {w w' : World} : ∀ (l : Ns) (p n : Option Nat), (∀ m ∈ l, w'.heap[m.1]? = w.heap[m.1]?) → Sg w p l n → Sg w' p l n
  | [], _, _, _, _ => trivial
  | (b, x) :: l, p, n, h, hs => ⟨by unfold Nd; rw [h (b, x) (List.mem_cons_self ..)]; exact hs.1, Sg.keep l _ _ (fun m hm => h m (List.mem_cons_of_mem _ hm)) hs.2⟩
theorem Sg.tag {w : World} : ∀ (l : Ns) (p n : Option Nat), Sg w p l n → ∀ m ∈ l, ∃ cs, w.heap[m.1]? = some (.cells cs 161 (0, 0))
  | [], _, _, _, m, hm => by simp at hm
  | (b, x) :: l, p, n, hs, m, hm => by
    rcases List.mem_cons.1 hm with rfl | hm
    · exact ⟨_, hs.1⟩
    · exact Sg.tag l _ _ hs.2 m hm
theorem Nd.c0 {w : World} {b : Nat} {x : Wt} {p n : Option Nat} (h : Nd w b x p n) : w.cell? ⟨b, 0, none⟩ = some (.int .i64 x.t) := by rw [cell_of_row w b 0 _ _ _ h]; rfl
theorem Nd.c1 {w : World} {b : Nat} {x : Wt} {p n : Option Nat} (h : Nd w b x p n) : w.cell? ⟨b, 1, none⟩ = some (.int .i64 x.c) := by rw [cell_of_row w b 1 _ _ _ h]; rfl
theorem Nd.c2 {w : World} {b : Nat} {x : Wt} {p n : Option Nat} (h : Nd w b x p n) : w.cell? ⟨b, 2, none⟩ = some (.int .i64 x.v) := by rw [cell_of_row w b 2 _ _ _ h]; rfl
theorem Nd.c3 {w : World} {b : Nat} {x : Wt} {p n : Option Nat} (h : Nd w b x p n) : w.cell? ⟨b, 3, none⟩ = some (.pointer (adr p)) := by rw [cell_of_row w b 3 _ _ _ h]; rfl
theorem Nd.c4 {w : World} {b : Nat} {x : Wt} {p n : Option Nat} (h : Nd w b x p n) : w.cell? ⟨b, 4, none⟩ = some (.pointer (adr n)) := by rw [cell_of_row w b 4 _ _ _ h]; rfl
theorem Nd.fz {w : World} {b : Nat} {x : Wt} {p n : Option Nat} (h : Nd w b x p n) (i : Nat) : w.frozen? ⟨b, i, none⟩ = false := frozen_of_row w b i _ _ h
theorem Nd.next {w : World} {b : Nat} {x : Wt} {p n : Option Nat} (h : Nd w b x p n) (m : Option Nat) : Nd (w.setCell ⟨b, 4, none⟩ (.pointer (adr m))) b x p m := by unfold Nd; rw [heap_setCell_same w b 4 _ _ _ h]; rfl
theorem Nd.prev {w : World} {b : Nat} {x : Wt} {p n : Option Nat} (h : Nd w b x p n) (m : Option Nat) : Nd (w.setCell ⟨b, 3, none⟩ (.pointer (adr m))) b x m n := by unfold Nd; rw [heap_setCell_same w b 3 _ _ _ h]; rfl
section
variable {w w' : World} {s : Bool} {q n : Nat} {R : Rs} {f l : Option Nat}
theorem Hd.c0 (h : Hd w s q R f l n) : w.cell? ⟨q, off s, none⟩ = some (.pointer (adr f)) := by rw [cell_of_row w q _ _ _ _ h]; cases s <;> rfl
theorem Hd.c1 (h : Hd w s q R f l n) : w.cell? ⟨q, off s + 1, none⟩ = some (.pointer (adr l)) := by rw [cell_of_row w q _ _ _ _ h]; cases s <;> rfl
theorem Hd.c2 (h : Hd w s q R f l n) : w.cell? ⟨q, off s + 2, none⟩ = some (.int .i64 n) := by rw [cell_of_row w q _ _ _ _ h]; cases s <;> rfl
theorem Hd.fz (h : Hd w s q R f l n) (i : Nat) : w.frozen? ⟨q, i, none⟩ = false := frozen_of_row w q i _ _ h
theorem Hd.s0 (h : Hd w s q R f l n) (m : Option Nat) : Hd (w.setCell ⟨q, off s, none⟩ (.pointer (adr m))) s q R m l n := by unfold Hd; rw [heap_setCell_same w q _ _ _ _ h]; cases s <;> rfl
theorem Hd.s1 (h : Hd w s q R f l n) (m : Option Nat) : Hd (w.setCell ⟨q, off s + 1, none⟩ (.pointer (adr m))) s q R f m n := by unfold Hd; rw [heap_setCell_same w q _ _ _ _ h]; cases s <;> rfl
theorem Hd.s2 (h : Hd w s q R f l n) (m : Nat) : Hd (w.setCell ⟨q, off s + 2, none⟩ (.int .i64 m)) s q R f l m := by unfold Hd; rw [heap_setCell_same w q _ _ _ _ h]; cases s <;> rfl
theorem Hd.keep (h : Hd w s q R f l n) (e : w'.heap[q]? = w.heap[q]?) : Hd w' s q R f l n := by unfold Hd; rw [e]; exact h
end
theorem Nd.keep {w w' : World} {b : Nat} {x : Wt} {p n : Option Nat} (h : Nd w b x p n) (e : w'.heap[b]? = w.heap[b]?) : Nd w' b x p n := by unfold Nd; rw [e]; exact h

/-- The link of the last one turned. -/
theorem Sg.next {w : World} {l : Ns} {a : Nat} {y : Wt} {p n : Option Nat} (h : Sg w p (l ++ [(a, y)]) n) (ha : ∀ m ∈ l, m.1 ≠ a) (m : Option Nat) : Sg (w.setCell ⟨a, 4, none⟩ (.pointer (adr m))) p (l ++ [(a, y)]) m := by
  rw [Sg.app] at h ⊢
  refine ⟨Sg.keep _ _ _ (fun k hk => Below.heap_setCell _ _ _ _ (ha k hk)) h.1, ?_, trivial⟩
  exact Nd.next h.2.1 m
theorem Sg.prev {w : World} {r : Ns} {c : Nat} {z : Wt} {p n : Option Nat} (h : Sg w p ((c, z) :: r) n) (hc : ∀ m ∈ r, m.1 ≠ c) (m : Option Nat) : Sg (w.setCell ⟨c, 3, none⟩ (.pointer (adr m))) m ((c, z) :: r) n :=
  ⟨Nd.prev h.1 m, Sg.keep _ _ _ (fun k hk => Below.heap_setCell _ _ _ _ (hc k hk)) h.2⟩
theorem Sg.other {w : World} {l : Ns} {p n : Option Nat} {b i : Nat} {v : Value} (h : Sg w p l n) (hb : ∀ m ∈ l, m.1 ≠ b) : Sg (w.setCell ⟨b, i, none⟩ v) p l n :=
  Sg.keep _ _ _ (fun k hk => Below.heap_setCell _ _ _ _ (hb k hk)) h

/-- In block q, from cell 3 or 6 on, is a Queue, its links ns. -/
structure LQ (w : World) (s : Bool) (q : Nat) (R : Rs) (ns : Ns) : Prop where
  hq : Hd w s q R (hd ns none) (lst ns none) ns.length
  sg : Sg w none ns none
  nd : (ns.map (·.1)).Nodup
/-- Its blocks. -/
def qF (q : Nat) (ns : Ns) (k : Nat) : Prop := k = q ∨ ∃ m ∈ ns, m.1 = k
theorem qF_sub {q : Nat} {ns ns' : Ns} (h : ∀ m ∈ ns', m ∈ ns) : ∀ k, qF q ns' k → qF q ns k := fun k hk => by
  rcases hk with rfl | ⟨m, hm, rfl⟩
  · exact .inl rfl
  · exact .inr ⟨m, h m hm, rfl⟩
section
variable {w w' : World} {s : Bool} {q : Nat} {R : Rs} {ns : Ns}
theorem LQ.isn (h : LQ w s q R ns) : ∀ m ∈ ns, ∃ cs, w.heap[m.1]? = some (.cells cs 161 (0, 0)) := Sg.tag _ _ _ h.sg
theorem LQ.lt (h : LQ w s q R ns) : q < w.heap.size ∧ ∀ m ∈ ns, m.1 < w.heap.size := ⟨lt_of_blk h.hq, fun m hm => by obtain ⟨_, hc⟩ := h.isn m hm; exact lt_of_blk hc⟩
theorem LQ.ne (h : LQ w s q R ns) : ∀ m ∈ ns, m.1 ≠ q := fun m hm e => by
  obtain ⟨cs, hc⟩ := h.isn m hm
  have := h.hq
  unfold Hd at this
  rw [e, this] at hc
  simp at hc
theorem LQ.keep (h : LQ w s q R ns) (k : ∀ b, qF q ns b → w'.heap[b]? = w.heap[b]?) : LQ w' s q R ns :=
  ⟨h.hq.keep (k q (.inl rfl)), Sg.keep _ _ _ (fun m hm => k _ (.inr ⟨m, hm, rfl⟩)) h.sg, h.nd⟩
theorem LQ.fl (h : LQ w s q R ns) {k : Nat} (hk : qF q ns k) : k < w.heap.size := by
  rcases hk with rfl | ⟨m, hm, rfl⟩
  · exact h.lt.1
  · exact h.lt.2 m hm
theorem LQ.later (h : LQ w s q R ns) (hb : Below w.heap.size w w') : LQ w' s q R ns := h.keep fun b k => hb.block b (h.fl k)
end
end Go.Proofs.Ytdpapnfjpefhkaa.Ch
