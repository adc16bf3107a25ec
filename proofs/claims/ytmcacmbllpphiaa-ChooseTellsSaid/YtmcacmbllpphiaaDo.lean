/- An act on both tells the same, and leaves both alike. Conditions: each theorem's own premises. -/
import Derived.Test.YtmcacmbllpphiaaJo
import Derived.Test.YtmcacmbllpphiaaOpn
import Derived.Deep.RegionHeld3
namespace Go.Proofs.Ytmcacmbllpphiaa
open Go.RowKit
set_option linter.unusedVariables false

def aC (a : Ac) : Array Value := #[.int .i64 a.k, .int .i64 a.v, .int .i64 a.x.t, .int .i64 a.x.c, .int .i64 a.x.v, .bool a.s]
def aG (a : Ac) : Value := .agg #[.int .i64 a.k, .int .i64 a.v, .int .i64 a.x.t, .int .i64 a.x.c, .int .i64 a.x.v, .bool a.s]
def DoR (W : World) (c m : Nat) (s : CS) (e : Ending) (w' : World) : Prop := e = .returned (.bool true) ∧ ∃ s', nw s' ≤ nw s + 1 ∧ JS W c m s' s' w'
section
variable {W w : World} {c m : Nat} {s : CS}
set_option maxRecDepth 100000 in
set_option maxHeartbeats 4000000 in
theorem does1 (v : Int) (x : Wt) (sd : Bool) (hx : Wf x.t) (h : JS W c m s s w) (hn : nw s ≤ 100) : Calls Try.prog 11 #[.pointer (some ⟨c, 0, none⟩), .pointer (some ⟨m, 0, none⟩), aG ⟨1, v, x, sd⟩] w (DoR W c m s) := by
  obtain ⟨g, hg⟩ : ∃ (z : _), sn s v = z := ⟨_, rfl⟩
  obtain ⟨s', ws, d, code⟩ := g
  have HG := Lib.hid hg
  have HNS : Hid (nw s' ≤ nw s + 1) := by have h9 := (nw_sn s v).1; rw [hg] at h9; simp only at h9; show _ ≤ _; omega
  have HWL : Hid (ws.length ≤ 1000) := by have h9 := (nw_sn s v).2; rw [hg] at h9; simp only at h9; show _ ≤ _; omega
  clear hg
  have HS1 := Lib.hid (h.later (below_al w (.cells (aC ⟨1, v, x, sd⟩) 37)))
  have HA1 : Hid ((w.alloc (.cells (aC ⟨1, v, x, sd⟩) 37)).heap[w.heap.size]? = some (.cells (aC ⟨1, v, x, sd⟩) 37 (0, 0))) := heap_alloc_new _ _
  have HKD := Lib.hid h.kd
  have HSZ := Lib.hid h.sz
  have HLE : Hid (s.l.length ≤ 1000) := by have h1 := h.le; have h2 := h.sz; show _ ≤ _; omega
  have HNW := Lib.hid hn
  clear h hn
  unfold aC at HS1 HA1
  unfold aG
  go_enter Try.func11, Try.ntmps11
  go_upto_region 1 with (fail)
  generalize w.heap.size = N at *
  generalize w.alloc (.cells #[.int .i64 1, .int .i64 v, .int .i64 x.t, .int .i64 x.c, .int .i64 x.v, .bool sd] 37) = w1 at *
  have k0 := cell_of_row w1 N 0 _ _ _ HA1.out
  have k1 := cell_of_row w1 N 1 _ _ _ HA1.out
  have k2 := cell_of_row w1 N 2 _ _ _ HA1.out
  have k3 := cell_of_row w1 N 3 _ _ _ HA1.out
  have k4 := cell_of_row w1 N 4 _ _ _ HA1.out
  have k5 := cell_of_row w1 N 5 _ _ _ HA1.out
  simp only [List.getElem?_toArray, List.getElem?_cons_succ, List.getElem?_cons_zero] at k0 k1 k2 k3 k4 k5
  have hN1 := lt_of_blk HA1.out
  go_wp2_with fail
  refine (js_send v HS1.out HNW.out HG.out).mono ?_
  rintro e w2 ⟨A2, n2, rfl, r2, s2, km2⟩
  have HS2 := Lib.hid s2
  have HA2 := Lib.hid (km2.at HA1.out (by decide) (by decide))
  have HR2 := Lib.hid r2
  clear k0 k1 k2 k3 k4 k5
  clear s2 km2 r2 HS1 HA1
  have k0 := cell_of_row w2 N 0 _ _ _ HA2.out
  have k1 := cell_of_row w2 N 1 _ _ _ HA2.out
  have k2 := cell_of_row w2 N 2 _ _ _ HA2.out
  have k3 := cell_of_row w2 N 3 _ _ _ HA2.out
  have k4 := cell_of_row w2 N 4 _ _ _ HA2.out
  have k5 := cell_of_row w2 N 5 _ _ _ HA2.out
  simp only [List.getElem?_toArray, List.getElem?_cons_succ, List.getElem?_cons_zero] at k0 k1 k2 k3 k4 k5
  have hN2 := lt_of_blk HA2.out
  go_wp2_with fail
  refine (jm_send v HS2.out HKD.out HSZ.out HLE.out HNW.out HG.out).mono ?_
  rintro e w3 ⟨A3, n3, rfl, r3, s3, km3⟩
  have HS3 := Lib.hid s3
  have HR3 := Lib.hid r3
  have HR4 := Lib.hid (HR2.out.km km3)
  clear k0 k1 k2 k3 k4 k5
  clear s3 km3 r3 HS2 HA2 HR2
  go_wp2_with fail
  refine (wakes_yes A2 A3 ws.length n2 n3 ws w3 HR4.out HR3.out (by have := HWL.out; omega)).mono ?_
  rintro e w4 ⟨rfl, nd, rfl⟩
  have HS5 := Lib.hid (HS3.out.draws (w' := w3.drewN nd) rfl rfl rfl rfl)
  clear HS3 HR3 HR4
  go_wp2_with fail
  go_ret
  exact ⟨rfl, s', HNS.out, HS5.out⟩
set_option maxRecDepth 100000 in
set_option maxHeartbeats 4000000 in
theorem does2 (v : Int) (x : Wt) (sd : Bool) (hx : Wf x.t) (h : JS W c m s s w) (hn : nw s ≤ 100) : Calls Try.prog 11 #[.pointer (some ⟨c, 0, none⟩), .pointer (some ⟨m, 0, none⟩), aG ⟨2, v, x, sd⟩] w (DoR W c m s) := by
  obtain ⟨g, hg⟩ : ∃ (z : _), rc s = z := ⟨_, rfl⟩
  obtain ⟨s', v', ok', d, ws⟩ := g
  have HG := Lib.hid hg
  have HNS : Hid (nw s' ≤ nw s + 1) := by have h9 := nw_rc s; rw [hg] at h9; simp only at h9; show _ ≤ _; omega
  have HWL : Hid (ws.length ≤ 1000) := by have h9 := rc_ws s; rw [hg] at h9; simp only at h9; show _ ≤ _; omega
  clear hg
  have HS1 := Lib.hid (h.later (below_al w (.cells (aC ⟨2, v, x, sd⟩) 37)))
  have HA1 : Hid ((w.alloc (.cells (aC ⟨2, v, x, sd⟩) 37)).heap[w.heap.size]? = some (.cells (aC ⟨2, v, x, sd⟩) 37 (0, 0))) := heap_alloc_new _ _
  have HKD := Lib.hid h.kd
  have HSZ := Lib.hid h.sz
  have HLE : Hid (s.l.length ≤ 1000) := by have h1 := h.le; have h2 := h.sz; show _ ≤ _; omega
  have HNW := Lib.hid hn
  clear h hn
  unfold aC at HS1 HA1
  unfold aG
  go_enter Try.func11, Try.ntmps11
  go_upto_region 1 with (fail)
  generalize w.heap.size = N at *
  generalize w.alloc (.cells #[.int .i64 2, .int .i64 v, .int .i64 x.t, .int .i64 x.c, .int .i64 x.v, .bool sd] 37) = w1 at *
  have k0 := cell_of_row w1 N 0 _ _ _ HA1.out
  have k1 := cell_of_row w1 N 1 _ _ _ HA1.out
  have k2 := cell_of_row w1 N 2 _ _ _ HA1.out
  have k3 := cell_of_row w1 N 3 _ _ _ HA1.out
  have k4 := cell_of_row w1 N 4 _ _ _ HA1.out
  have k5 := cell_of_row w1 N 5 _ _ _ HA1.out
  simp only [List.getElem?_toArray, List.getElem?_cons_succ, List.getElem?_cons_zero] at k0 k1 k2 k3 k4 k5
  have hN1 := lt_of_blk HA1.out
  go_wp2_with fail
  refine (js_recv HS1.out HNW.out HG.out).mono ?_
  rintro e w2 ⟨A2, n2, rfl, r2, s2, km2⟩
  have HS2 := Lib.hid s2
  have HA2 := Lib.hid (km2.at HA1.out (by decide) (by decide))
  have HR2 := Lib.hid r2
  clear k0 k1 k2 k3 k4 k5
  clear s2 km2 r2 HS1 HA1
  have k0 := cell_of_row w2 N 0 _ _ _ HA2.out
  have k1 := cell_of_row w2 N 1 _ _ _ HA2.out
  have k2 := cell_of_row w2 N 2 _ _ _ HA2.out
  have k3 := cell_of_row w2 N 3 _ _ _ HA2.out
  have k4 := cell_of_row w2 N 4 _ _ _ HA2.out
  have k5 := cell_of_row w2 N 5 _ _ _ HA2.out
  simp only [List.getElem?_toArray, List.getElem?_cons_succ, List.getElem?_cons_zero] at k0 k1 k2 k3 k4 k5
  have hN2 := lt_of_blk HA2.out
  go_wp2_with fail
  refine (jm_recv HS2.out HLE.out HNW.out HG.out).mono ?_
  rintro e w3 ⟨A3, n3, rfl, r3, s3, km3⟩
  have HS3 := Lib.hid s3
  have HR3 := Lib.hid r3
  have HR4 := Lib.hid (HR2.out.km km3)
  clear k0 k1 k2 k3 k4 k5
  clear s3 km3 r3 HS2 HA2 HR2
  go_wp2_with fail
  refine (wakes_yes A2 A3 ws.length n2 n3 ws w3 HR4.out HR3.out (by have := HWL.out; omega)).mono ?_
  rintro e w4 ⟨rfl, nd, rfl⟩
  have HS5 := Lib.hid (HS3.out.draws (w' := w3.drewN nd) rfl rfl rfl rfl)
  clear HS3 HR3 HR4
  go_wp2_with fail
  go_ret
  exact ⟨rfl, s', HNS.out, HS5.out⟩
set_option maxRecDepth 100000 in
set_option maxHeartbeats 4000000 in
theorem does3 (v : Int) (x : Wt) (sd : Bool) (hx : Wf x.t) (h : JS W c m s s w) (hn : nw s ≤ 100) : Calls Try.prog 11 #[.pointer (some ⟨c, 0, none⟩), .pointer (some ⟨m, 0, none⟩), aG ⟨3, v, x, sd⟩] w (DoR W c m s) := by
  obtain ⟨g, hg⟩ : ∃ (z : _), cz s = z := ⟨_, rfl⟩
  obtain ⟨s', ws, code⟩ := g
  have HG := Lib.hid hg
  have HNS : Hid (nw s' ≤ nw s + 1) := by have h9 := (nw_cz s).1; rw [hg] at h9; simp only at h9; show _ ≤ _; omega
  have HWL : Hid (ws.length ≤ 1000) := by have h9 := (nw_cz s).2; rw [hg] at h9; simp only at h9; show _ ≤ _; omega
  clear hg
  have HS1 := Lib.hid (h.later (below_al w (.cells (aC ⟨3, v, x, sd⟩) 37)))
  have HA1 : Hid ((w.alloc (.cells (aC ⟨3, v, x, sd⟩) 37)).heap[w.heap.size]? = some (.cells (aC ⟨3, v, x, sd⟩) 37 (0, 0))) := heap_alloc_new _ _
  have HKD := Lib.hid h.kd
  have HSZ := Lib.hid h.sz
  have HLE : Hid (s.l.length ≤ 1000) := by have h1 := h.le; have h2 := h.sz; show _ ≤ _; omega
  have HNW := Lib.hid hn
  clear h hn
  unfold aC at HS1 HA1
  unfold aG
  go_enter Try.func11, Try.ntmps11
  go_upto_region 1 with (fail)
  generalize w.heap.size = N at *
  generalize w.alloc (.cells #[.int .i64 3, .int .i64 v, .int .i64 x.t, .int .i64 x.c, .int .i64 x.v, .bool sd] 37) = w1 at *
  have k0 := cell_of_row w1 N 0 _ _ _ HA1.out
  have k1 := cell_of_row w1 N 1 _ _ _ HA1.out
  have k2 := cell_of_row w1 N 2 _ _ _ HA1.out
  have k3 := cell_of_row w1 N 3 _ _ _ HA1.out
  have k4 := cell_of_row w1 N 4 _ _ _ HA1.out
  have k5 := cell_of_row w1 N 5 _ _ _ HA1.out
  simp only [List.getElem?_toArray, List.getElem?_cons_succ, List.getElem?_cons_zero] at k0 k1 k2 k3 k4 k5
  have hN1 := lt_of_blk HA1.out
  go_wp2_with fail
  refine (js_close HS1.out HNW.out HG.out).mono ?_
  rintro e w2 ⟨A2, n2, rfl, r2, s2, km2⟩
  have HS2 := Lib.hid s2
  have HA2 := Lib.hid (km2.at HA1.out (by decide) (by decide))
  have HR2 := Lib.hid r2
  clear k0 k1 k2 k3 k4 k5
  clear s2 km2 r2 HS1 HA1
  have k0 := cell_of_row w2 N 0 _ _ _ HA2.out
  have k1 := cell_of_row w2 N 1 _ _ _ HA2.out
  have k2 := cell_of_row w2 N 2 _ _ _ HA2.out
  have k3 := cell_of_row w2 N 3 _ _ _ HA2.out
  have k4 := cell_of_row w2 N 4 _ _ _ HA2.out
  have k5 := cell_of_row w2 N 5 _ _ _ HA2.out
  simp only [List.getElem?_toArray, List.getElem?_cons_succ, List.getElem?_cons_zero] at k0 k1 k2 k3 k4 k5
  have hN2 := lt_of_blk HA2.out
  go_wp2_with fail
  refine (jm_close HS2.out HKD.out HNW.out HG.out).mono ?_
  rintro e w3 ⟨A3, n3, rfl, r3, s3, km3⟩
  have HS3 := Lib.hid s3
  have HR3 := Lib.hid r3
  have HR4 := Lib.hid (HR2.out.km km3)
  clear k0 k1 k2 k3 k4 k5
  clear s3 km3 r3 HS2 HA2 HR2
  go_wp2_with fail
  refine (wakes_yes A2 A3 ws.length n2 n3 ws w3 HR4.out HR3.out (by have := HWL.out; omega)).mono ?_
  rintro e w4 ⟨rfl, nd, rfl⟩
  have HS5 := Lib.hid (HS3.out.draws (w' := w3.drewN nd) rfl rfl rfl rfl)
  clear HS3 HR3 HR4
  go_wp2_with fail
  go_ret
  exact ⟨rfl, s', HNS.out, HS5.out⟩
set_option maxRecDepth 100000 in
set_option maxHeartbeats 4000000 in
theorem does6 (v : Int) (x : Wt) (sd : Bool) (hx : Wf x.t) (h : JS W c m s s w) (hn : nw s ≤ 100) : Calls Try.prog 11 #[.pointer (some ⟨c, 0, none⟩), .pointer (some ⟨m, 0, none⟩), aG ⟨6, v, x, sd⟩] w (DoR W c m s) := by
  obtain ⟨g, hg⟩ : ∃ (z : _), pt s v = z := ⟨_, rfl⟩
  obtain ⟨s', ws, d⟩ := g
  have HG := Lib.hid hg
  have HNS : Hid (nw s' ≤ nw s + 1) := by have h9 := (nw_pt s v).1; rw [hg] at h9; simp only at h9; show _ ≤ _; omega
  have HWL : Hid (ws.length ≤ 1000) := by have h9 := (nw_pt s v).2; rw [hg] at h9; simp only at h9; show _ ≤ _; omega
  clear hg
  have HS1 := Lib.hid (h.later (below_al w (.cells (aC ⟨6, v, x, sd⟩) 37)))
  have HA1 : Hid ((w.alloc (.cells (aC ⟨6, v, x, sd⟩) 37)).heap[w.heap.size]? = some (.cells (aC ⟨6, v, x, sd⟩) 37 (0, 0))) := heap_alloc_new _ _
  have HKD := Lib.hid h.kd
  have HSZ := Lib.hid h.sz
  have HLE : Hid (s.l.length ≤ 1000) := by have h1 := h.le; have h2 := h.sz; show _ ≤ _; omega
  have HNW := Lib.hid hn
  clear h hn
  unfold aC at HS1 HA1
  unfold aG
  go_enter Try.func11, Try.ntmps11
  go_upto_region 1 with (fail)
  generalize w.heap.size = N at *
  generalize w.alloc (.cells #[.int .i64 6, .int .i64 v, .int .i64 x.t, .int .i64 x.c, .int .i64 x.v, .bool sd] 37) = w1 at *
  have k0 := cell_of_row w1 N 0 _ _ _ HA1.out
  have k1 := cell_of_row w1 N 1 _ _ _ HA1.out
  have k2 := cell_of_row w1 N 2 _ _ _ HA1.out
  have k3 := cell_of_row w1 N 3 _ _ _ HA1.out
  have k4 := cell_of_row w1 N 4 _ _ _ HA1.out
  have k5 := cell_of_row w1 N 5 _ _ _ HA1.out
  simp only [List.getElem?_toArray, List.getElem?_cons_succ, List.getElem?_cons_zero] at k0 k1 k2 k3 k4 k5
  have hN1 := lt_of_blk HA1.out
  go_wp2_with fail
  refine (js_put v HS1.out HNW.out HG.out).mono ?_
  rintro e w2 ⟨A2, n2, rfl, r2, s2, km2⟩
  have HS2 := Lib.hid s2
  have HA2 := Lib.hid (km2.at HA1.out (by decide) (by decide))
  have HR2 := Lib.hid r2
  clear k0 k1 k2 k3 k4 k5
  clear s2 km2 r2 HS1 HA1
  have k0 := cell_of_row w2 N 0 _ _ _ HA2.out
  have k1 := cell_of_row w2 N 1 _ _ _ HA2.out
  have k2 := cell_of_row w2 N 2 _ _ _ HA2.out
  have k3 := cell_of_row w2 N 3 _ _ _ HA2.out
  have k4 := cell_of_row w2 N 4 _ _ _ HA2.out
  have k5 := cell_of_row w2 N 5 _ _ _ HA2.out
  simp only [List.getElem?_toArray, List.getElem?_cons_succ, List.getElem?_cons_zero] at k0 k1 k2 k3 k4 k5
  have hN2 := lt_of_blk HA2.out
  go_wp2_with fail
  refine (jm_put v HS2.out HSZ.out HLE.out HNW.out HG.out).mono ?_
  rintro e w3 ⟨A3, n3, rfl, r3, s3, km3⟩
  have HS3 := Lib.hid s3
  have HR3 := Lib.hid r3
  have HR4 := Lib.hid (HR2.out.km km3)
  clear k0 k1 k2 k3 k4 k5
  clear s3 km3 r3 HS2 HA2 HR2
  go_wp2_with fail
  refine (wakes_yes A2 A3 ws.length n2 n3 ws w3 HR4.out HR3.out (by have := HWL.out; omega)).mono ?_
  rintro e w4 ⟨rfl, nd, rfl⟩
  have HS5 := Lib.hid (HS3.out.draws (w' := w3.drewN nd) rfl rfl rfl rfl)
  clear HS3 HR3 HR4
  go_wp2_with fail
  go_ret
  exact ⟨rfl, s', HNS.out, HS5.out⟩
set_option maxRecDepth 100000 in
set_option maxHeartbeats 4000000 in
theorem does8 (v : Int) (x : Wt) (sd : Bool) (hx : Wf x.t) (h : JS W c m s s w) (hn : nw s ≤ 100) : Calls Try.prog 11 #[.pointer (some ⟨c, 0, none⟩), .pointer (some ⟨m, 0, none⟩), aG ⟨8, v, x, sd⟩] w (DoR W c m s) := by
  obtain ⟨g, hg⟩ : ∃ (z : _), en s = z := ⟨_, rfl⟩
  obtain ⟨s', ws⟩ := g
  have HG := Lib.hid hg
  have HNS : Hid (nw s' ≤ nw s + 1) := by have h9 := (nw_en s).1; rw [hg] at h9; simp only at h9; show _ ≤ _; omega
  have HWL : Hid (ws.length ≤ 1000) := by have h9 := (nw_en s).2; rw [hg] at h9; simp only at h9; show _ ≤ _; omega
  clear hg
  have HS1 := Lib.hid (h.later (below_al w (.cells (aC ⟨8, v, x, sd⟩) 37)))
  have HA1 : Hid ((w.alloc (.cells (aC ⟨8, v, x, sd⟩) 37)).heap[w.heap.size]? = some (.cells (aC ⟨8, v, x, sd⟩) 37 (0, 0))) := heap_alloc_new _ _
  have HKD := Lib.hid h.kd
  have HSZ := Lib.hid h.sz
  have HLE : Hid (s.l.length ≤ 1000) := by have h1 := h.le; have h2 := h.sz; show _ ≤ _; omega
  have HNW := Lib.hid hn
  clear h hn
  unfold aC at HS1 HA1
  unfold aG
  go_enter Try.func11, Try.ntmps11
  go_upto_region 1 with (fail)
  generalize w.heap.size = N at *
  generalize w.alloc (.cells #[.int .i64 8, .int .i64 v, .int .i64 x.t, .int .i64 x.c, .int .i64 x.v, .bool sd] 37) = w1 at *
  have k0 := cell_of_row w1 N 0 _ _ _ HA1.out
  have k1 := cell_of_row w1 N 1 _ _ _ HA1.out
  have k2 := cell_of_row w1 N 2 _ _ _ HA1.out
  have k3 := cell_of_row w1 N 3 _ _ _ HA1.out
  have k4 := cell_of_row w1 N 4 _ _ _ HA1.out
  have k5 := cell_of_row w1 N 5 _ _ _ HA1.out
  simp only [List.getElem?_toArray, List.getElem?_cons_succ, List.getElem?_cons_zero] at k0 k1 k2 k3 k4 k5
  have hN1 := lt_of_blk HA1.out
  go_wp2_with fail
  refine (js_end HS1.out HNW.out HG.out).mono ?_
  rintro e w2 ⟨A2, n2, rfl, r2, s2, km2⟩
  have HS2 := Lib.hid s2
  have HA2 := Lib.hid (km2.at HA1.out (by decide) (by decide))
  have HR2 := Lib.hid r2
  clear k0 k1 k2 k3 k4 k5
  clear s2 km2 r2 HS1 HA1
  have k0 := cell_of_row w2 N 0 _ _ _ HA2.out
  have k1 := cell_of_row w2 N 1 _ _ _ HA2.out
  have k2 := cell_of_row w2 N 2 _ _ _ HA2.out
  have k3 := cell_of_row w2 N 3 _ _ _ HA2.out
  have k4 := cell_of_row w2 N 4 _ _ _ HA2.out
  have k5 := cell_of_row w2 N 5 _ _ _ HA2.out
  simp only [List.getElem?_toArray, List.getElem?_cons_succ, List.getElem?_cons_zero] at k0 k1 k2 k3 k4 k5
  have hN2 := lt_of_blk HA2.out
  go_wp2_with fail
  refine (jm_end HS2.out HNW.out HG.out).mono ?_
  rintro e w3 ⟨A3, n3, rfl, r3, s3, km3⟩
  have HS3 := Lib.hid s3
  have HR3 := Lib.hid r3
  have HR4 := Lib.hid (HR2.out.km km3)
  clear k0 k1 k2 k3 k4 k5
  clear s3 km3 r3 HS2 HA2 HR2
  go_wp2_with fail
  refine (wakes_yes A2 A3 ws.length n2 n3 ws w3 HR4.out HR3.out (by have := HWL.out; omega)).mono ?_
  rintro e w4 ⟨rfl, nd, rfl⟩
  have HS5 := Lib.hid (HS3.out.draws (w' := w3.drewN nd) rfl rfl rfl rfl)
  clear HS3 HR3 HR4
  go_wp2_with fail
  go_ret
  exact ⟨rfl, s', HNS.out, HS5.out⟩
set_option maxRecDepth 100000 in
set_option maxHeartbeats 4000000 in
theorem does7 (v : Int) (x : Wt) (sd : Bool) (hx : Wf x.t) (h : JS W c m s s w) (hn : nw s ≤ 100) : Calls Try.prog 11 #[.pointer (some ⟨c, 0, none⟩), .pointer (some ⟨m, 0, none⟩), aG ⟨7, v, x, sd⟩] w (DoR W c m s) := by
  obtain ⟨g, hg⟩ : ∃ (z : _), dp s = z := ⟨_, rfl⟩
  obtain ⟨s', d⟩ := g
  have HG := Lib.hid hg
  have HNS : Hid (nw s' ≤ nw s + 1) := by have h9 := nw_dp s; rw [hg] at h9; simp only at h9; show _ ≤ _; omega
  clear hg
  have HS1 := Lib.hid (h.later (below_al w (.cells (aC ⟨7, v, x, sd⟩) 37)))
  have HA1 : Hid ((w.alloc (.cells (aC ⟨7, v, x, sd⟩) 37)).heap[w.heap.size]? = some (.cells (aC ⟨7, v, x, sd⟩) 37 (0, 0))) := heap_alloc_new _ _
  have HKD := Lib.hid h.kd
  have HSZ := Lib.hid h.sz
  have HLE : Hid (s.l.length ≤ 1000) := by have h1 := h.le; have h2 := h.sz; show _ ≤ _; omega
  have HNW := Lib.hid hn
  clear h hn
  unfold aC at HS1 HA1
  unfold aG
  go_enter Try.func11, Try.ntmps11
  go_upto_region 1 with (fail)
  generalize w.heap.size = N at *
  generalize w.alloc (.cells #[.int .i64 7, .int .i64 v, .int .i64 x.t, .int .i64 x.c, .int .i64 x.v, .bool sd] 37) = w1 at *
  have k0 := cell_of_row w1 N 0 _ _ _ HA1.out
  have k1 := cell_of_row w1 N 1 _ _ _ HA1.out
  have k2 := cell_of_row w1 N 2 _ _ _ HA1.out
  have k3 := cell_of_row w1 N 3 _ _ _ HA1.out
  have k4 := cell_of_row w1 N 4 _ _ _ HA1.out
  have k5 := cell_of_row w1 N 5 _ _ _ HA1.out
  simp only [List.getElem?_toArray, List.getElem?_cons_succ, List.getElem?_cons_zero] at k0 k1 k2 k3 k4 k5
  have hN1 := lt_of_blk HA1.out
  go_wp2_with fail
  refine (js_drop HS1.out HG.out).mono ?_
  rintro e w2 ⟨rfl, s2, km2⟩
  have HS2 := Lib.hid s2
  clear s2 km2 HS1 HA1
  clear k0 k1 k2 k3 k4 k5
  go_wp2_with fail
  refine (jm_drop HS2.out HG.out).mono ?_
  rintro e w3 ⟨rfl, s3, km3⟩
  have HS3 := Lib.hid s3
  clear s3 km3 HS2
  go_wp2_with fail
  go_ret
  exact ⟨rfl, s', HNS.out, HS3.out⟩
set_option maxRecDepth 100000 in
set_option maxHeartbeats 4000000 in
theorem does4 (v : Int) (x : Wt) (sd : Bool) (hx : Wf x.t) (h : JS W c m s s w) (hn : nw s ≤ 100) : Calls Try.prog 11 #[.pointer (some ⟨c, 0, none⟩), .pointer (some ⟨m, 0, none⟩), aG ⟨4, v, x, sd⟩] w (DoR W c m s) := by
  obtain ⟨g, hg⟩ : ∃ (z : _), wt s x sd = z := ⟨_, rfl⟩
  obtain ⟨s', code⟩ := g
  have HG := Lib.hid hg
  have HNS : Hid (nw s' ≤ nw s + 1) := by have h9 := nw_wt s x sd; rw [hg] at h9; simp only at h9; show _ ≤ _; omega
  clear hg
  have HS1 := Lib.hid (h.later (below_al w (.cells (aC ⟨4, v, x, sd⟩) 37)))
  have HA1 : Hid ((w.alloc (.cells (aC ⟨4, v, x, sd⟩) 37)).heap[w.heap.size]? = some (.cells (aC ⟨4, v, x, sd⟩) 37 (0, 0))) := heap_alloc_new _ _
  have HKD := Lib.hid h.kd
  have HSZ := Lib.hid h.sz
  have HLE : Hid (s.l.length ≤ 1000) := by have h1 := h.le; have h2 := h.sz; show _ ≤ _; omega
  have HNW := Lib.hid hn
  clear h hn
  unfold aC at HS1 HA1
  unfold aG
  go_enter Try.func11, Try.ntmps11
  go_upto_region 1 with (fail)
  generalize w.heap.size = N at *
  generalize w.alloc (.cells #[.int .i64 4, .int .i64 v, .int .i64 x.t, .int .i64 x.c, .int .i64 x.v, .bool sd] 37) = w1 at *
  have k0 := cell_of_row w1 N 0 _ _ _ HA1.out
  have k1 := cell_of_row w1 N 1 _ _ _ HA1.out
  have k2 := cell_of_row w1 N 2 _ _ _ HA1.out
  have k3 := cell_of_row w1 N 3 _ _ _ HA1.out
  have k4 := cell_of_row w1 N 4 _ _ _ HA1.out
  have k5 := cell_of_row w1 N 5 _ _ _ HA1.out
  simp only [List.getElem?_toArray, List.getElem?_cons_succ, List.getElem?_cons_zero] at k0 k1 k2 k3 k4 k5
  have hN1 := lt_of_blk HA1.out
  have HKP : Hid (∀ w' : World, Hid (w'.heap[N]? = some (.cells #[.int .i64 4, .int .i64 v, .int .i64 x.t, .int .i64 x.c, .int .i64 x.v, .bool sd] 37 (0, 0))) → w'.cell? ⟨N, 0, none⟩ = some (.int .i64 4) ∧ w'.cell? ⟨N, 1, none⟩ = some (.int .i64 v) ∧ w'.cell? ⟨N, 2, none⟩ = some (.int .i64 x.t) ∧ w'.cell? ⟨N, 3, none⟩ = some (.int .i64 x.c) ∧ w'.cell? ⟨N, 4, none⟩ = some (.int .i64 x.v) ∧ w'.cell? ⟨N, 5, none⟩ = some (.bool sd)) := fun w' hb => ⟨cell_of_row w' N 0 _ _ _ hb, cell_of_row w' N 1 _ _ _ hb, cell_of_row w' N 2 _ _ _ hb, cell_of_row w' N 3 _ _ _ hb, cell_of_row w' N 4 _ _ _ hb, cell_of_row w' N 5 _ _ _ hb⟩
  have HJ0 : Hid (JS W c m s s w1.drew) := HS1.out.draws rfl rfl rfl rfl
  have HK0 : Hid (w1.drew.heap[N]? = some (.cells #[.int .i64 4, .int .i64 v, .int .i64 x.t, .int .i64 x.c, .int .i64 x.v, .bool sd] 37 (0, 0))) := HA1.out
  have HC1 : Hid (∀ w5 : World, Hid (JS W c m s s w5) → Hid (w5.heap[N]? = some (.cells #[.int .i64 4, .int .i64 v, .int .i64 x.t, .int .i64 x.c, .int .i64 x.v, .bool sd] 37 (0, 0))) → Calls Try.prog 35 #[.pointer (some ⟨c, 0, none⟩), .agg #[.int .i64 x.t, .int .i64 x.c, .int .i64 x.v], .bool sd] w5 fun e w' => e = .returned (.int .i64 code) ∧ Hid (JS W c m s' s w') ∧ Hid (w'.heap[N]? = some (.cells #[.int .i64 4, .int .i64 v, .int .i64 x.t, .int .i64 x.c, .int .i64 x.v, .bool sd] 37 (0, 0)))) := by
    intro w5 hs5 ha5
    refine (js_wait x sd hx hs5 HNW.out HG.out).mono ?_
    rintro e w6 ⟨rfl, s6, km6⟩
    exact ⟨rfl, s6, km6.at ha5 (by decide) (by decide)⟩
  have HC2 : Hid (∀ w7 : World, Hid (JS W c m s' s w7) → Hid (w7.heap[N]? = some (.cells #[.int .i64 4, .int .i64 v, .int .i64 x.t, .int .i64 x.c, .int .i64 x.v, .bool sd] 37 (0, 0))) → Calls Try.prog 36 #[.pointer (some ⟨m, 0, none⟩), .agg #[.int .i64 x.t, .int .i64 x.c, .int .i64 x.v], .bool sd] w7 fun e w' => e = .returned (.int .i64 code) ∧ Hid (JS W c m s' s' w') ∧ Hid (w'.heap[N]? = some (.cells #[.int .i64 4, .int .i64 v, .int .i64 x.t, .int .i64 x.c, .int .i64 x.v, .bool sd] 37 (0, 0)))) := by
    intro w7 hs7 ha7
    refine (jm_wait x sd hs7 HKD.out HLE.out HNW.out HG.out).mono ?_
    rintro e w8 ⟨rfl, s8, km8⟩
    exact ⟨rfl, s8, km8.at ha7 (by decide) (by decide)⟩
  clear HS1 HA1
  go_wp2_with fail
  clear k0 k1 k2 k3 k4 k5
  go_region_held3 (fun w' => w'.cell? ⟨N, 0, none⟩ = some (.int .i64 4) ∧ w'.cell? ⟨N, 1, none⟩ = some (.int .i64 v) ∧ w'.cell? ⟨N, 2, none⟩ = some (.int .i64 x.t) ∧ w'.cell? ⟨N, 3, none⟩ = some (.int .i64 x.c) ∧ w'.cell? ⟨N, 4, none⟩ = some (.int .i64 x.v) ∧ w'.cell? ⟨N, 5, none⟩ = some (.bool sd))
    (first
      | exact HKP.out _ HK0
      | exact HKP.out _ a6
      | exact HKP.out _ a8)
    (first
      | (go_at_call 35; (with_reducible refine (HC1.out _ HJ0 HK0).mono ?_); rintro e w6 ⟨rfl, h6, a6⟩)
      | (go_at_call 36; (with_reducible refine (HC2.out _ h6 a6).mono ?_); rintro e w8 ⟨rfl, h8, a8⟩))
  all_goals
    clear HC1 HC2 HJ0 HK0 HKP
    go_wp2_with fail
    go_ret
    exact ⟨rfl, s', HNS.out, JS.draws h8 rfl rfl rfl rfl⟩
set_option maxRecDepth 100000 in
set_option maxHeartbeats 4000000 in
theorem does5 (v : Int) (x : Wt) (sd : Bool) (hx : Wf x.t) (h : JS W c m s s w) (hn : nw s ≤ 100) : Calls Try.prog 11 #[.pointer (some ⟨c, 0, none⟩), .pointer (some ⟨m, 0, none⟩), aG ⟨5, v, x, sd⟩] w (DoR W c m s) := by
  have HNS : Hid (nw (gone s v) ≤ nw s + 1) := by have h9 := nw_gone s v; show _ ≤ _; omega
  have HS1 := Lib.hid (h.later (below_al w (.cells (aC ⟨5, v, x, sd⟩) 37)))
  have HA1 : Hid ((w.alloc (.cells (aC ⟨5, v, x, sd⟩) 37)).heap[w.heap.size]? = some (.cells (aC ⟨5, v, x, sd⟩) 37 (0, 0))) := heap_alloc_new _ _
  have HKD := Lib.hid h.kd
  have HSZ := Lib.hid h.sz
  have HLE : Hid (s.l.length ≤ 1000) := by have h1 := h.le; have h2 := h.sz; show _ ≤ _; omega
  have HNW := Lib.hid hn
  clear h hn
  unfold aC at HS1 HA1
  unfold aG
  go_enter Try.func11, Try.ntmps11
  go_upto_region 1 with (fail)
  generalize w.heap.size = N at *
  generalize w.alloc (.cells #[.int .i64 5, .int .i64 v, .int .i64 x.t, .int .i64 x.c, .int .i64 x.v, .bool sd] 37) = w1 at *
  have k0 := cell_of_row w1 N 0 _ _ _ HA1.out
  have k1 := cell_of_row w1 N 1 _ _ _ HA1.out
  have k2 := cell_of_row w1 N 2 _ _ _ HA1.out
  have k3 := cell_of_row w1 N 3 _ _ _ HA1.out
  have k4 := cell_of_row w1 N 4 _ _ _ HA1.out
  have k5 := cell_of_row w1 N 5 _ _ _ HA1.out
  simp only [List.getElem?_toArray, List.getElem?_cons_succ, List.getElem?_cons_zero] at k0 k1 k2 k3 k4 k5
  have hN1 := lt_of_blk HA1.out
  have HKP : Hid (∀ w' : World, Hid (w'.heap[N]? = some (.cells #[.int .i64 5, .int .i64 v, .int .i64 x.t, .int .i64 x.c, .int .i64 x.v, .bool sd] 37 (0, 0))) → w'.cell? ⟨N, 0, none⟩ = some (.int .i64 5) ∧ w'.cell? ⟨N, 1, none⟩ = some (.int .i64 v) ∧ w'.cell? ⟨N, 2, none⟩ = some (.int .i64 x.t) ∧ w'.cell? ⟨N, 3, none⟩ = some (.int .i64 x.c) ∧ w'.cell? ⟨N, 4, none⟩ = some (.int .i64 x.v) ∧ w'.cell? ⟨N, 5, none⟩ = some (.bool sd)) := fun w' hb => ⟨cell_of_row w' N 0 _ _ _ hb, cell_of_row w' N 1 _ _ _ hb, cell_of_row w' N 2 _ _ _ hb, cell_of_row w' N 3 _ _ _ hb, cell_of_row w' N 4 _ _ _ hb, cell_of_row w' N 5 _ _ _ hb⟩
  have HJ0 : Hid (JS W c m s s w1.drew) := HS1.out.draws rfl rfl rfl rfl
  have HK0 : Hid (w1.drew.heap[N]? = some (.cells #[.int .i64 5, .int .i64 v, .int .i64 x.t, .int .i64 x.c, .int .i64 x.v, .bool sd] 37 (0, 0))) := HA1.out
  have HC1 : Hid (∀ w5 : World, Hid (JS W c m s s w5) → Hid (w5.heap[N]? = some (.cells #[.int .i64 5, .int .i64 v, .int .i64 x.t, .int .i64 x.c, .int .i64 x.v, .bool sd] 37 (0, 0))) → Calls Try.prog 37 #[.pointer (some ⟨c, 0, none⟩), .int .i64 v] w5 fun e w' => e = .returned (.int .i64 (ctG s v)) ∧ Hid (JS W c m (gone s v) s w') ∧ Hid (w'.heap[N]? = some (.cells #[.int .i64 5, .int .i64 v, .int .i64 x.t, .int .i64 x.c, .int .i64 x.v, .bool sd] 37 (0, 0)))) := by
    intro w5 hs5 ha5
    refine (js_remove v hs5 HNW.out).mono ?_
    rintro e w6 ⟨rfl, s6, km6⟩
    exact ⟨rfl, s6, km6.at ha5 (by decide) (by decide)⟩
  have HC2 : Hid (∀ w7 : World, Hid (JS W c m (gone s v) s w7) → Hid (w7.heap[N]? = some (.cells #[.int .i64 5, .int .i64 v, .int .i64 x.t, .int .i64 x.c, .int .i64 x.v, .bool sd] 37 (0, 0))) → Calls Try.prog 38 #[.pointer (some ⟨m, 0, none⟩), .int .i64 v] w7 fun e w' => e = .returned (.int .i64 (ctG s v)) ∧ Hid (JS W c m (gone s v) (gone s v) w') ∧ Hid (w'.heap[N]? = some (.cells #[.int .i64 5, .int .i64 v, .int .i64 x.t, .int .i64 x.c, .int .i64 x.v, .bool sd] 37 (0, 0)))) := by
    intro w7 hs7 ha7
    refine (jm_remove v hs7 HNW.out).mono ?_
    rintro e w8 ⟨rfl, s8, km8⟩
    exact ⟨rfl, s8, km8.at ha7 (by decide) (by decide)⟩
  clear HS1 HA1
  go_wp2_with fail
  clear k0 k1 k2 k3 k4 k5
  go_region_held3 (fun w' => w'.cell? ⟨N, 0, none⟩ = some (.int .i64 5) ∧ w'.cell? ⟨N, 1, none⟩ = some (.int .i64 v) ∧ w'.cell? ⟨N, 2, none⟩ = some (.int .i64 x.t) ∧ w'.cell? ⟨N, 3, none⟩ = some (.int .i64 x.c) ∧ w'.cell? ⟨N, 4, none⟩ = some (.int .i64 x.v) ∧ w'.cell? ⟨N, 5, none⟩ = some (.bool sd))
    (first
      | exact HKP.out _ HK0
      | exact HKP.out _ a6
      | exact HKP.out _ a8)
    (first
      | (go_at_call 37; (with_reducible refine (HC1.out _ HJ0 HK0).mono ?_); rintro e w6 ⟨rfl, h6, a6⟩)
      | (go_at_call 38; (with_reducible refine (HC2.out _ h6 a6).mono ?_); rintro e w8 ⟨rfl, h8, a8⟩))
  all_goals
    clear HC1 HC2 HJ0 HK0 HKP
    go_wp2_with fail
    go_ret
    exact ⟨rfl, (gone s v), HNS.out, JS.draws h8 rfl rfl rfl rfl⟩
set_option maxRecDepth 100000 in
theorem does0 (k v : Int) (x : Wt) (sd : Bool) (hk : k < 1 ∨ 8 < k) (h : JS W c m s s w) : Calls Try.prog 11 #[.pointer (some ⟨c, 0, none⟩), .pointer (some ⟨m, 0, none⟩), aG ⟨k, v, x, sd⟩] w (DoR W c m s) := by
  have HS1 := Lib.hid (h.later (below_al w (.cells (aC ⟨k, v, x, sd⟩) 37)))
  have d1 : (k == 1) = false := by rw [beq_eq_false_iff_ne]; omega
  have n1 : ¬ k = 1 := by omega
  have d2 : (k == 2) = false := by rw [beq_eq_false_iff_ne]; omega
  have n2 : ¬ k = 2 := by omega
  have d3 : (k == 3) = false := by rw [beq_eq_false_iff_ne]; omega
  have n3 : ¬ k = 3 := by omega
  have d4 : (k == 4) = false := by rw [beq_eq_false_iff_ne]; omega
  have n4 : ¬ k = 4 := by omega
  have d5 : (k == 5) = false := by rw [beq_eq_false_iff_ne]; omega
  have n5 : ¬ k = 5 := by omega
  have d6 : (k == 6) = false := by rw [beq_eq_false_iff_ne]; omega
  have n6 : ¬ k = 6 := by omega
  have d7 : (k == 7) = false := by rw [beq_eq_false_iff_ne]; omega
  have n7 : ¬ k = 7 := by omega
  have d8 : (k == 8) = false := by rw [beq_eq_false_iff_ne]; omega
  have n8 : ¬ k = 8 := by omega
  clear h hk
  unfold aC at HS1
  unfold aG
  go_enter Try.func11, Try.ntmps11
  go_wp2_with fail
  go_ret
  exact ⟨rfl, s, Nat.le_succ _, HS1.out⟩
theorem does_any (a : Ac) (ha : Wf a.x.t) (h : JS W c m s s w) (hn : nw s ≤ 100) : Calls Try.prog 11 #[.pointer (some ⟨c, 0, none⟩), .pointer (some ⟨m, 0, none⟩), aG a] w (DoR W c m s) := by
  obtain ⟨k, v, x, sd⟩ := a
  by_cases hk : k < 1 ∨ 8 < k
  · exact does0 k v x sd hk h
  · have hc : k = 1 ∨ k = 2 ∨ k = 3 ∨ k = 4 ∨ k = 5 ∨ k = 6 ∨ k = 7 ∨ k = 8 := by omega
    rcases hc with rfl | rfl | rfl | rfl | rfl | rfl | rfl | rfl
    · exact does1 v x sd ha h hn
    · exact does2 v x sd ha h hn
    · exact does3 v x sd ha h hn
    · exact does4 v x sd ha h hn
    · exact does5 v x sd ha h hn
    · exact does6 v x sd ha h hn
    · exact does7 v x sd ha h hn
    · exact does8 v x sd ha h hn
end
end Go.Proofs.Ytmcacmbllpphiaa
