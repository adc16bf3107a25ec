/- An act on no channel; what no channel shows; how both begin. Conditions: each theorem's own premises. -/
import Derived.Test.YtmcacmbllpphiaaDo
import Derived.Deep.RegionHeld3
namespace Go.Proofs.Ytmcacmbllpphiaa
open Go.RowKit
set_option linter.unusedVariables false

def DnR (w : World) (e : Ending) (w' : World) : Prop := e = .returned (.bool true) ∧ Below w.heap.size w w'
section
variable {w : World}
set_option maxRecDepth 100000 in
set_option maxHeartbeats 4000000 in
theorem doesn1 (v : Int) (x : Wt) (sd : Bool) (w : World) : Calls Try.prog 11 #[.pointer none, .pointer none, aG ⟨1, v, x, sd⟩] w (DnR w) := by
  have HB1 := Lib.hid (below_al w (.cells (aC ⟨1, v, x, sd⟩) 37))
  have HA1 : Hid ((w.alloc (.cells (aC ⟨1, v, x, sd⟩) 37)).heap[w.heap.size]? = some (.cells (aC ⟨1, v, x, sd⟩) 37 (0, 0))) := heap_alloc_new _ _
  obtain ⟨N0, hN0⟩ : ∃ N0, w.heap.size = N0 := ⟨_, rfl⟩
  unfold aC at HB1 HA1
  unfold aG
  go_enter Try.func11, Try.ntmps11
  go_upto_region 1 with (fail)
  unfold DnR
  rw [hN0] at HB1 HA1
  have hN : N0 < (w.alloc (.cells #[.int .i64 1, .int .i64 v, .int .i64 x.t, .int .i64 x.c, .int .i64 x.v, .bool sd] 37)).heap.size := lt_of_blk HA1.out
  generalize w.alloc (.cells #[.int .i64 1, .int .i64 v, .int .i64 x.t, .int .i64 x.c, .int .i64 x.v, .bool sd] 37) = w1 at *
  have k0 := cell_of_row w1 N0 0 _ _ _ HA1.out
  have k1 := cell_of_row w1 N0 1 _ _ _ HA1.out
  have k2 := cell_of_row w1 N0 2 _ _ _ HA1.out
  have k3 := cell_of_row w1 N0 3 _ _ _ HA1.out
  have k4 := cell_of_row w1 N0 4 _ _ _ HA1.out
  have k5 := cell_of_row w1 N0 5 _ _ _ HA1.out
  simp only [List.getElem?_toArray, List.getElem?_cons_succ, List.getElem?_cons_zero] at k0 k1 k2 k3 k4 k5
  go_wp2_with fail
  refine (send_nil v _).mono ?_
  rintro e w' ⟨rfl, rfl⟩
  go_wp2_with fail
  refine (mSend_nil v _).mono ?_
  rintro e w' ⟨rfl, rfl⟩
  go_wp2_with fail
  refine (wakes_yes none none 0 0 0 [] _ (RdK.nil _ _) (RdK.nil _ _) (by omega)).mono ?_
  rintro e w4 ⟨rfl, nd, rfl⟩
  go_wp2_with fail
  go_ret
  exact ⟨rfl, hN0 ▸ below_drewN HB1.out _⟩
set_option maxRecDepth 100000 in
set_option maxHeartbeats 4000000 in
theorem doesn2 (v : Int) (x : Wt) (sd : Bool) (w : World) : Calls Try.prog 11 #[.pointer none, .pointer none, aG ⟨2, v, x, sd⟩] w (DnR w) := by
  have HB1 := Lib.hid (below_al w (.cells (aC ⟨2, v, x, sd⟩) 37))
  have HA1 : Hid ((w.alloc (.cells (aC ⟨2, v, x, sd⟩) 37)).heap[w.heap.size]? = some (.cells (aC ⟨2, v, x, sd⟩) 37 (0, 0))) := heap_alloc_new _ _
  obtain ⟨N0, hN0⟩ : ∃ N0, w.heap.size = N0 := ⟨_, rfl⟩
  unfold aC at HB1 HA1
  unfold aG
  go_enter Try.func11, Try.ntmps11
  go_upto_region 1 with (fail)
  unfold DnR
  rw [hN0] at HB1 HA1
  have hN : N0 < (w.alloc (.cells #[.int .i64 2, .int .i64 v, .int .i64 x.t, .int .i64 x.c, .int .i64 x.v, .bool sd] 37)).heap.size := lt_of_blk HA1.out
  generalize w.alloc (.cells #[.int .i64 2, .int .i64 v, .int .i64 x.t, .int .i64 x.c, .int .i64 x.v, .bool sd] 37) = w1 at *
  have k0 := cell_of_row w1 N0 0 _ _ _ HA1.out
  have k1 := cell_of_row w1 N0 1 _ _ _ HA1.out
  have k2 := cell_of_row w1 N0 2 _ _ _ HA1.out
  have k3 := cell_of_row w1 N0 3 _ _ _ HA1.out
  have k4 := cell_of_row w1 N0 4 _ _ _ HA1.out
  have k5 := cell_of_row w1 N0 5 _ _ _ HA1.out
  simp only [List.getElem?_toArray, List.getElem?_cons_succ, List.getElem?_cons_zero] at k0 k1 k2 k3 k4 k5
  go_wp2_with fail
  refine (recv_nil _).mono ?_
  rintro e w' ⟨rfl, rfl⟩
  go_wp2_with fail
  refine (mrecv_nil _).mono ?_
  rintro e w' ⟨rfl, rfl⟩
  go_wp2_with fail
  refine (wakes_yes none none 0 0 0 [] _ (RdK.nil _ _) (RdK.nil _ _) (by omega)).mono ?_
  rintro e w4 ⟨rfl, nd, rfl⟩
  go_wp2_with fail
  go_ret
  exact ⟨rfl, hN0 ▸ below_drewN HB1.out _⟩
set_option maxRecDepth 100000 in
set_option maxHeartbeats 4000000 in
theorem doesn3 (v : Int) (x : Wt) (sd : Bool) (w : World) : Calls Try.prog 11 #[.pointer none, .pointer none, aG ⟨3, v, x, sd⟩] w (DnR w) := by
  have HB1 := Lib.hid (below_al w (.cells (aC ⟨3, v, x, sd⟩) 37))
  have HA1 : Hid ((w.alloc (.cells (aC ⟨3, v, x, sd⟩) 37)).heap[w.heap.size]? = some (.cells (aC ⟨3, v, x, sd⟩) 37 (0, 0))) := heap_alloc_new _ _
  obtain ⟨N0, hN0⟩ : ∃ N0, w.heap.size = N0 := ⟨_, rfl⟩
  unfold aC at HB1 HA1
  unfold aG
  go_enter Try.func11, Try.ntmps11
  go_upto_region 1 with (fail)
  unfold DnR
  rw [hN0] at HB1 HA1
  have hN : N0 < (w.alloc (.cells #[.int .i64 3, .int .i64 v, .int .i64 x.t, .int .i64 x.c, .int .i64 x.v, .bool sd] 37)).heap.size := lt_of_blk HA1.out
  generalize w.alloc (.cells #[.int .i64 3, .int .i64 v, .int .i64 x.t, .int .i64 x.c, .int .i64 x.v, .bool sd] 37) = w1 at *
  have k0 := cell_of_row w1 N0 0 _ _ _ HA1.out
  have k1 := cell_of_row w1 N0 1 _ _ _ HA1.out
  have k2 := cell_of_row w1 N0 2 _ _ _ HA1.out
  have k3 := cell_of_row w1 N0 3 _ _ _ HA1.out
  have k4 := cell_of_row w1 N0 4 _ _ _ HA1.out
  have k5 := cell_of_row w1 N0 5 _ _ _ HA1.out
  simp only [List.getElem?_toArray, List.getElem?_cons_succ, List.getElem?_cons_zero] at k0 k1 k2 k3 k4 k5
  go_wp2_with fail
  refine (close_nil _).mono ?_
  rintro e w' ⟨rfl, rfl⟩
  go_wp2_with fail
  refine (mclose_nil _).mono ?_
  rintro e w' ⟨rfl, rfl⟩
  go_wp2_with fail
  refine (wakes_yes none none 0 0 0 [] _ (RdK.nil _ _) (RdK.nil _ _) (by omega)).mono ?_
  rintro e w4 ⟨rfl, nd, rfl⟩
  go_wp2_with fail
  go_ret
  exact ⟨rfl, hN0 ▸ below_drewN HB1.out _⟩
set_option maxRecDepth 100000 in
set_option maxHeartbeats 4000000 in
theorem doesn6 (v : Int) (x : Wt) (sd : Bool) (w : World) : Calls Try.prog 11 #[.pointer none, .pointer none, aG ⟨6, v, x, sd⟩] w (DnR w) := by
  have HB1 := Lib.hid (below_al w (.cells (aC ⟨6, v, x, sd⟩) 37))
  have HA1 : Hid ((w.alloc (.cells (aC ⟨6, v, x, sd⟩) 37)).heap[w.heap.size]? = some (.cells (aC ⟨6, v, x, sd⟩) 37 (0, 0))) := heap_alloc_new _ _
  obtain ⟨N0, hN0⟩ : ∃ N0, w.heap.size = N0 := ⟨_, rfl⟩
  unfold aC at HB1 HA1
  unfold aG
  go_enter Try.func11, Try.ntmps11
  go_upto_region 1 with (fail)
  unfold DnR
  rw [hN0] at HB1 HA1
  have hN : N0 < (w.alloc (.cells #[.int .i64 6, .int .i64 v, .int .i64 x.t, .int .i64 x.c, .int .i64 x.v, .bool sd] 37)).heap.size := lt_of_blk HA1.out
  generalize w.alloc (.cells #[.int .i64 6, .int .i64 v, .int .i64 x.t, .int .i64 x.c, .int .i64 x.v, .bool sd] 37) = w1 at *
  have k0 := cell_of_row w1 N0 0 _ _ _ HA1.out
  have k1 := cell_of_row w1 N0 1 _ _ _ HA1.out
  have k2 := cell_of_row w1 N0 2 _ _ _ HA1.out
  have k3 := cell_of_row w1 N0 3 _ _ _ HA1.out
  have k4 := cell_of_row w1 N0 4 _ _ _ HA1.out
  have k5 := cell_of_row w1 N0 5 _ _ _ HA1.out
  simp only [List.getElem?_toArray, List.getElem?_cons_succ, List.getElem?_cons_zero] at k0 k1 k2 k3 k4 k5
  go_wp2_with fail
  refine (put_nil v _).mono ?_
  rintro e w' ⟨rfl, rfl⟩
  go_wp2_with fail
  refine (mPut_nil v _).mono ?_
  rintro e w' ⟨rfl, rfl⟩
  go_wp2_with fail
  refine (wakes_yes none none 0 0 0 [] _ (RdK.nil _ _) (RdK.nil _ _) (by omega)).mono ?_
  rintro e w4 ⟨rfl, nd, rfl⟩
  go_wp2_with fail
  go_ret
  exact ⟨rfl, hN0 ▸ below_drewN HB1.out _⟩
set_option maxRecDepth 100000 in
set_option maxHeartbeats 4000000 in
theorem doesn7 (v : Int) (x : Wt) (sd : Bool) (w : World) : Calls Try.prog 11 #[.pointer none, .pointer none, aG ⟨7, v, x, sd⟩] w (DnR w) := by
  have HB1 := Lib.hid (below_al w (.cells (aC ⟨7, v, x, sd⟩) 37))
  have HA1 : Hid ((w.alloc (.cells (aC ⟨7, v, x, sd⟩) 37)).heap[w.heap.size]? = some (.cells (aC ⟨7, v, x, sd⟩) 37 (0, 0))) := heap_alloc_new _ _
  obtain ⟨N0, hN0⟩ : ∃ N0, w.heap.size = N0 := ⟨_, rfl⟩
  unfold aC at HB1 HA1
  unfold aG
  go_enter Try.func11, Try.ntmps11
  go_upto_region 1 with (fail)
  unfold DnR
  rw [hN0] at HB1 HA1
  have hN : N0 < (w.alloc (.cells #[.int .i64 7, .int .i64 v, .int .i64 x.t, .int .i64 x.c, .int .i64 x.v, .bool sd] 37)).heap.size := lt_of_blk HA1.out
  generalize w.alloc (.cells #[.int .i64 7, .int .i64 v, .int .i64 x.t, .int .i64 x.c, .int .i64 x.v, .bool sd] 37) = w1 at *
  have k0 := cell_of_row w1 N0 0 _ _ _ HA1.out
  have k1 := cell_of_row w1 N0 1 _ _ _ HA1.out
  have k2 := cell_of_row w1 N0 2 _ _ _ HA1.out
  have k3 := cell_of_row w1 N0 3 _ _ _ HA1.out
  have k4 := cell_of_row w1 N0 4 _ _ _ HA1.out
  have k5 := cell_of_row w1 N0 5 _ _ _ HA1.out
  simp only [List.getElem?_toArray, List.getElem?_cons_succ, List.getElem?_cons_zero] at k0 k1 k2 k3 k4 k5
  go_wp2_with fail
  refine (drop_nil _).mono ?_
  rintro e w' ⟨rfl, rfl⟩
  go_wp2_with fail
  refine (mDrop_nil _).mono ?_
  rintro e w' ⟨rfl, rfl⟩
  go_wp2_with fail
  go_ret
  exact ⟨rfl, hN0 ▸ HB1.out⟩
set_option maxRecDepth 100000 in
set_option maxHeartbeats 4000000 in
theorem doesn8 (v : Int) (x : Wt) (sd : Bool) (w : World) : Calls Try.prog 11 #[.pointer none, .pointer none, aG ⟨8, v, x, sd⟩] w (DnR w) := by
  have HB1 := Lib.hid (below_al w (.cells (aC ⟨8, v, x, sd⟩) 37))
  have HA1 : Hid ((w.alloc (.cells (aC ⟨8, v, x, sd⟩) 37)).heap[w.heap.size]? = some (.cells (aC ⟨8, v, x, sd⟩) 37 (0, 0))) := heap_alloc_new _ _
  obtain ⟨N0, hN0⟩ : ∃ N0, w.heap.size = N0 := ⟨_, rfl⟩
  unfold aC at HB1 HA1
  unfold aG
  go_enter Try.func11, Try.ntmps11
  go_upto_region 1 with (fail)
  unfold DnR
  rw [hN0] at HB1 HA1
  have hN : N0 < (w.alloc (.cells #[.int .i64 8, .int .i64 v, .int .i64 x.t, .int .i64 x.c, .int .i64 x.v, .bool sd] 37)).heap.size := lt_of_blk HA1.out
  generalize w.alloc (.cells #[.int .i64 8, .int .i64 v, .int .i64 x.t, .int .i64 x.c, .int .i64 x.v, .bool sd] 37) = w1 at *
  have k0 := cell_of_row w1 N0 0 _ _ _ HA1.out
  have k1 := cell_of_row w1 N0 1 _ _ _ HA1.out
  have k2 := cell_of_row w1 N0 2 _ _ _ HA1.out
  have k3 := cell_of_row w1 N0 3 _ _ _ HA1.out
  have k4 := cell_of_row w1 N0 4 _ _ _ HA1.out
  have k5 := cell_of_row w1 N0 5 _ _ _ HA1.out
  simp only [List.getElem?_toArray, List.getElem?_cons_succ, List.getElem?_cons_zero] at k0 k1 k2 k3 k4 k5
  go_wp2_with fail
  refine (end_nil _).mono ?_
  rintro e w' ⟨rfl, rfl⟩
  go_wp2_with fail
  refine (mEnd_nil _).mono ?_
  rintro e w' ⟨rfl, rfl⟩
  go_wp2_with fail
  refine (wakes_yes none none 0 0 0 [] _ (RdK.nil _ _) (RdK.nil _ _) (by omega)).mono ?_
  rintro e w4 ⟨rfl, nd, rfl⟩
  go_wp2_with fail
  go_ret
  exact ⟨rfl, hN0 ▸ below_drewN HB1.out _⟩
set_option maxRecDepth 100000 in
set_option maxHeartbeats 4000000 in
theorem doesn4 (v : Int) (x : Wt) (sd : Bool) (w : World) : Calls Try.prog 11 #[.pointer none, .pointer none, aG ⟨4, v, x, sd⟩] w (DnR w) := by
  have HB1 := Lib.hid (below_al w (.cells (aC ⟨4, v, x, sd⟩) 37))
  have HA1 : Hid ((w.alloc (.cells (aC ⟨4, v, x, sd⟩) 37)).heap[w.heap.size]? = some (.cells (aC ⟨4, v, x, sd⟩) 37 (0, 0))) := heap_alloc_new _ _
  obtain ⟨N0, hN0⟩ : ∃ N0, w.heap.size = N0 := ⟨_, rfl⟩
  unfold aC at HB1 HA1
  unfold aG
  go_enter Try.func11, Try.ntmps11
  go_upto_region 1 with (fail)
  unfold DnR
  rw [hN0] at HB1 HA1
  have hN : N0 < (w.alloc (.cells #[.int .i64 4, .int .i64 v, .int .i64 x.t, .int .i64 x.c, .int .i64 x.v, .bool sd] 37)).heap.size := lt_of_blk HA1.out
  generalize w.alloc (.cells #[.int .i64 4, .int .i64 v, .int .i64 x.t, .int .i64 x.c, .int .i64 x.v, .bool sd] 37) = w1 at *
  have k0 := cell_of_row w1 N0 0 _ _ _ HA1.out
  have k1 := cell_of_row w1 N0 1 _ _ _ HA1.out
  have k2 := cell_of_row w1 N0 2 _ _ _ HA1.out
  have k3 := cell_of_row w1 N0 3 _ _ _ HA1.out
  have k4 := cell_of_row w1 N0 4 _ _ _ HA1.out
  have k5 := cell_of_row w1 N0 5 _ _ _ HA1.out
  simp only [List.getElem?_toArray, List.getElem?_cons_succ, List.getElem?_cons_zero] at k0 k1 k2 k3 k4 k5
  have HKP : Hid (∀ w', Below w1.heap.size w1 w' → w'.cell? ⟨N0, 1, none⟩ = some (.int .i64 v) ∧ w'.cell? ⟨N0, 2, none⟩ = some (.int .i64 x.t) ∧ w'.cell? ⟨N0, 3, none⟩ = some (.int .i64 x.c) ∧ w'.cell? ⟨N0, 4, none⟩ = some (.int .i64 x.v) ∧ w'.cell? ⟨N0, 5, none⟩ = some (.bool sd) ∧ Hid (Below w1.heap.size w1 w')) := fun w' hb => ⟨(cell_blk (hb.block N0 hN) 1).trans k1, (cell_blk (hb.block N0 hN) 2).trans k2, (cell_blk (hb.block N0 hN) 3).trans k3, (cell_blk (hb.block N0 hN) 4).trans k4, (cell_blk (hb.block N0 hN) 5).trans k5, hb⟩
  have HV0 : Hid (Below w1.heap.size w1 w1.drew) := (Below.refl _ _).drew
  have HC1 : Hid (∀ wr, Calls Try.prog 35 #[.pointer none, .agg #[.int .i64 x.t, .int .i64 x.c, .int .i64 x.v], .bool sd] wr fun e w' => e = .returned (.int .i64 6) ∧ Below wr.heap.size wr w') := fun wr => wait_nil x sd wr
  have HC2 : Hid (∀ wr, Calls Try.prog 36 #[.pointer none, .agg #[.int .i64 x.t, .int .i64 x.c, .int .i64 x.v], .bool sd] wr fun e w' => e = .returned (.int .i64 6) ∧ Below wr.heap.size wr w') := fun wr => mwait_nil x sd wr
  go_wp2_with fail
  clear k1 k2 k3 k4 k5
  go_region_held3 (fun w' => w'.cell? ⟨N0, 1, none⟩ = some (.int .i64 v) ∧ w'.cell? ⟨N0, 2, none⟩ = some (.int .i64 x.t) ∧ w'.cell? ⟨N0, 3, none⟩ = some (.int .i64 x.c) ∧ w'.cell? ⟨N0, 4, none⟩ = some (.int .i64 x.v) ∧ w'.cell? ⟨N0, 5, none⟩ = some (.bool sd) ∧ Hid (Below w1.heap.size w1 w'))
    (first
      | exact HKP.out _ HV0.out
      | exact HKP.out _ HV1.out
      | exact HKP.out _ HV2.out)
    (first
      | (go_at_call 35; (with_reducible refine (HC1.out _).mono ?_); rintro e v1 ⟨rfl, hb1⟩; have HV1 : Hid (Below w1.heap.size w1 v1) := HV0.out.trans (hb1.mono HV0.out.size); clear hb1)
      | (go_at_call 36; (with_reducible refine (HC2.out _).mono ?_); rintro e v2 ⟨rfl, hb2⟩; have HV2 : Hid (Below w1.heap.size w1 v2) := HV1.out.trans (hb2.mono HV1.out.size); clear hb2))
  all_goals
    go_wp2_with fail
    go_ret
    exact ⟨rfl, by rw [hN0]; exact HB1.out.trans (HV2.out.mono (by rw [← hN0]; exact HB1.out.size))⟩
set_option maxRecDepth 100000 in
set_option maxHeartbeats 4000000 in
theorem doesn5 (v : Int) (x : Wt) (sd : Bool) (w : World) : Calls Try.prog 11 #[.pointer none, .pointer none, aG ⟨5, v, x, sd⟩] w (DnR w) := by
  have HB1 := Lib.hid (below_al w (.cells (aC ⟨5, v, x, sd⟩) 37))
  have HA1 : Hid ((w.alloc (.cells (aC ⟨5, v, x, sd⟩) 37)).heap[w.heap.size]? = some (.cells (aC ⟨5, v, x, sd⟩) 37 (0, 0))) := heap_alloc_new _ _
  obtain ⟨N0, hN0⟩ : ∃ N0, w.heap.size = N0 := ⟨_, rfl⟩
  unfold aC at HB1 HA1
  unfold aG
  go_enter Try.func11, Try.ntmps11
  go_upto_region 1 with (fail)
  unfold DnR
  rw [hN0] at HB1 HA1
  have hN : N0 < (w.alloc (.cells #[.int .i64 5, .int .i64 v, .int .i64 x.t, .int .i64 x.c, .int .i64 x.v, .bool sd] 37)).heap.size := lt_of_blk HA1.out
  generalize w.alloc (.cells #[.int .i64 5, .int .i64 v, .int .i64 x.t, .int .i64 x.c, .int .i64 x.v, .bool sd] 37) = w1 at *
  have k0 := cell_of_row w1 N0 0 _ _ _ HA1.out
  have k1 := cell_of_row w1 N0 1 _ _ _ HA1.out
  have k2 := cell_of_row w1 N0 2 _ _ _ HA1.out
  have k3 := cell_of_row w1 N0 3 _ _ _ HA1.out
  have k4 := cell_of_row w1 N0 4 _ _ _ HA1.out
  have k5 := cell_of_row w1 N0 5 _ _ _ HA1.out
  simp only [List.getElem?_toArray, List.getElem?_cons_succ, List.getElem?_cons_zero] at k0 k1 k2 k3 k4 k5
  have HKP : Hid (∀ w', Below w1.heap.size w1 w' → w'.cell? ⟨N0, 1, none⟩ = some (.int .i64 v) ∧ w'.cell? ⟨N0, 2, none⟩ = some (.int .i64 x.t) ∧ w'.cell? ⟨N0, 3, none⟩ = some (.int .i64 x.c) ∧ w'.cell? ⟨N0, 4, none⟩ = some (.int .i64 x.v) ∧ w'.cell? ⟨N0, 5, none⟩ = some (.bool sd) ∧ Hid (Below w1.heap.size w1 w')) := fun w' hb => ⟨(cell_blk (hb.block N0 hN) 1).trans k1, (cell_blk (hb.block N0 hN) 2).trans k2, (cell_blk (hb.block N0 hN) 3).trans k3, (cell_blk (hb.block N0 hN) 4).trans k4, (cell_blk (hb.block N0 hN) 5).trans k5, hb⟩
  have HV0 : Hid (Below w1.heap.size w1 w1.drew) := (Below.refl _ _).drew
  have HC1 : Hid (∀ wr, Calls Try.prog 37 #[.pointer none, .int .i64 v] wr fun e w' => e = .returned (.int .i64 0) ∧ Below wr.heap.size wr w') := fun wr => (remove_nil v wr).mono fun _ _ h => ⟨h.1, by rw [← h.2]; exact Below.refl _ _⟩
  have HC2 : Hid (∀ wr, Calls Try.prog 38 #[.pointer none, .int .i64 v] wr fun e w' => e = .returned (.int .i64 0) ∧ Below wr.heap.size wr w') := fun wr => (mremove_nil v wr).mono fun _ _ h => ⟨h.1, by rw [← h.2]; exact Below.refl _ _⟩
  go_wp2_with fail
  clear k1 k2 k3 k4 k5
  go_region_held3 (fun w' => w'.cell? ⟨N0, 1, none⟩ = some (.int .i64 v) ∧ w'.cell? ⟨N0, 2, none⟩ = some (.int .i64 x.t) ∧ w'.cell? ⟨N0, 3, none⟩ = some (.int .i64 x.c) ∧ w'.cell? ⟨N0, 4, none⟩ = some (.int .i64 x.v) ∧ w'.cell? ⟨N0, 5, none⟩ = some (.bool sd) ∧ Hid (Below w1.heap.size w1 w'))
    (first
      | exact HKP.out _ HV0.out
      | exact HKP.out _ HV1.out
      | exact HKP.out _ HV2.out)
    (first
      | (go_at_call 37; (with_reducible refine (HC1.out _).mono ?_); rintro e v1 ⟨rfl, hb1⟩; have HV1 : Hid (Below w1.heap.size w1 v1) := HV0.out.trans (hb1.mono HV0.out.size); clear hb1)
      | (go_at_call 38; (with_reducible refine (HC2.out _).mono ?_); rintro e v2 ⟨rfl, hb2⟩; have HV2 : Hid (Below w1.heap.size w1 v2) := HV1.out.trans (hb2.mono HV1.out.size); clear hb2))
  all_goals
    go_wp2_with fail
    go_ret
    exact ⟨rfl, by rw [hN0]; exact HB1.out.trans (HV2.out.mono (by rw [← hN0]; exact HB1.out.size))⟩
set_option maxRecDepth 100000 in
theorem doesn0 (k v : Int) (x : Wt) (sd : Bool) (w : World) (hk : k < 1 ∨ 8 < k) : Calls Try.prog 11 #[.pointer none, .pointer none, aG ⟨k, v, x, sd⟩] w (DnR w) := by
  have d1 : (k == 1) = false := by rw [beq_eq_false_iff_ne]; omega
  have n1 : ¬ k = 1 := by omega
  have d2 : (k == 2) = false := by rw [beq_eq_false_iff_ne]; omega
  have n2 : ¬ k = 2 := by omega
  have d3 : (k == 3) = false := by rw [beq_eq_false_iff_ne]; omega
  have n3 : ¬ k = 3 := by omega
  have d4 : (k == 4) = false := by rw [beq_eq_false_iff_ne]; omega
  have n4 : ¬ k = 4 := by omega
  have d5 : (k == 5) = false := by rw [beq_eq_false_iff_ne]; omega
  have n5 : ¬ k = 5 := by omega
  have d6 : (k == 6) = false := by rw [beq_eq_false_iff_ne]; omega
  have n6 : ¬ k = 6 := by omega
  have d7 : (k == 7) = false := by rw [beq_eq_false_iff_ne]; omega
  have n7 : ¬ k = 7 := by omega
  have d8 : (k == 8) = false := by rw [beq_eq_false_iff_ne]; omega
  have n8 : ¬ k = 8 := by omega
  have HB1 := Lib.hid (below_al w (.cells (aC ⟨k, v, x, sd⟩) 37))
  clear hk
  unfold aC at HB1
  unfold aG
  go_enter Try.func11, Try.ntmps11
  go_wp2_with fail
  go_ret
  exact ⟨rfl, HB1.out⟩
theorem doesn_any (a : Ac) (w : World) : Calls Try.prog 11 #[.pointer none, .pointer none, aG a] w (DnR w) := by
  obtain ⟨k, v, x, sd⟩ := a
  by_cases hk : k < 1 ∨ 8 < k
  · exact doesn0 k v x sd w hk
  · have hc : k = 1 ∨ k = 2 ∨ k = 3 ∨ k = 4 ∨ k = 5 ∨ k = 6 ∨ k = 7 ∨ k = 8 := by omega
    rcases hc with rfl | rfl | rfl | rfl | rfl | rfl | rfl | rfl
    · exact doesn1 v x sd w
    · exact doesn2 v x sd w
    · exact doesn3 v x sd w
    · exact doesn4 v x sd w
    · exact doesn5 v x sd w
    · exact doesn6 v x sd w
    · exact doesn7 v x sd w
    · exact doesn8 v x sd w
theorem showsn (w : World) : Calls Try.prog 19 #[.pointer none, .pointer none] w fun e w' => e = .returned (.bool true) ∧ w = w' := by
  go_enter Try.func19, Try.ntmps19
  go_wp2_with fail
  refine (len_none _).mono ?_
  rintro e w' ⟨rfl, rfl⟩
  go_wp2_with fail
  refine (cap_none _).mono ?_
  rintro e w' ⟨rfl, rfl⟩
  go_wp2_with fail
  refine (closed_none _).mono ?_
  rintro e w' ⟨rfl, rfl⟩
  go_wp2_with fail
  refine (can_nil true _).mono ?_
  rintro e w' ⟨rfl, rfl⟩
  go_wp2_with fail
  refine (can_nil false _).mono ?_
  rintro e w' ⟨rfl, rfl⟩
  go_wp2_with fail
  refine (waiting_none true _).mono ?_
  rintro e w' ⟨rfl, rfl⟩
  go_wp2_with fail
  refine (waiting_none false _).mono ?_
  rintro e w' ⟨rfl, rfl⟩
  go_wp2_with fail
  go_ret
  exact ⟨rfl, rfl⟩
/-- How both begin. -/
def PrR (W : World) (e : Ending) (w' : World) : Prop := (e = .returned (.tuple #[.pointer none, .pointer none]) ∧ Below W.heap.size W w') ∨ ∃ c m s, e = .returned (.tuple #[.pointer (some ⟨c, 0, none⟩), .pointer (some ⟨m, 0, none⟩)]) ∧ nw s = 0 ∧ JS W c m s s w'
set_option maxRecDepth 100000 in
theorem pair_any (kind size : Int) (W : World) : Calls Try.prog 10 #[.int .i64 kind, .int .i64 size] W (PrR W) := by
  have r0 : 0 ≤ kind % 4 := Int.emod_nonneg _ (by omega)
  have r1 : kind % 4 < 4 := Int.emod_lt_of_pos _ (by omega)
  have HR := Lib.hid (round_any kind 4 W (by omega) (by omega))
  generalize kind % 4 = r at *
  have hc : r = 1 ∨ r = 2 ∨ r = 3 ∨ r = 0 := by omega
  clear r0 r1
  rcases hc with rfl | rfl | rfl | rfl
  · go_enter Try.func10, Try.ntmps10
    go_wp2_with fail
    refine HR.out.mono ?_
    rintro e w' ⟨rfl, rfl⟩
    go_wp2_with fail
    refine (timed_any W).mono ?_
    rintro e w1 ⟨c, rfl, k⟩
    have HK := Lib.hid k
    clear k
    go_wp2_with fail
    refine (newtimed_any w1).mono ?_
    rintro e w2 ⟨rfl, rfl⟩
    have HJ := Lib.hid (JS.start (t := ⟨1, false, 1, [], [], []⟩) (Below.refl _ _) HK.out (fun ok hn => md_new w1 ok ⟨1, false, 1, [], [], []⟩ rfl rfl rfl hn) (below_al w1 _) (Nat.le_refl _))
    clear HK
    generalize w1.alloc (.cells (mB ⟨1, false, 1, [], [], []⟩ (.slice none 0 0) (.slice none 0 0) (.slice none 0 0)) 81) = w2 at *
    go_wp2_with fail
    go_ret2
    exact .inr ⟨c, _, _, rfl, rfl, HJ.out⟩
  · go_enter Try.func10, Try.ntmps10
    go_wp2_with fail
    refine HR.out.mono ?_
    rintro e w' ⟨rfl, rfl⟩
    go_wp2_with fail
    refine (signal_any W).mono ?_
    rintro e w1 ⟨c, rfl, k⟩
    have HJ := Lib.hid (JS.start (t := ⟨2, false, 0, [], [], []⟩) (Below.refl _ _) k (fun ok hn => md_new w1 ok ⟨2, false, 0, [], [], []⟩ rfl rfl rfl hn) (below_al w1 _) (Nat.le_refl _))
    clear k
    go_wp2_with fail
    go_ret2
    exact .inr ⟨c, _, _, rfl, rfl, HJ.out⟩
  · go_enter Try.func10, Try.ntmps10
    go_wp2_with fail
    refine HR.out.mono ?_
    rintro e w' ⟨rfl, rfl⟩
    go_wp2_with fail
    go_ret2
    exact .inl ⟨rfl, Below.refl _ _⟩
  · by_cases h : size < 0 ∨ 64 < size
    · by_cases h1 : size < 0
      · clear h
        go_enter Try.func10, Try.ntmps10
        go_wp2_with fail
        refine HR.out.mono ?_
        rintro e w' ⟨rfl, rfl⟩
        go_wp2_with fail
        refine (new_no size W (.inl h1)).mono ?_
        rintro e w' ⟨rfl, rfl⟩
        go_wp2_with fail
        go_ret2
        exact .inl ⟨rfl, Below.refl _ _⟩
      · have h2 : 64 < size := by omega
        clear h
        go_enter Try.func10, Try.ntmps10
        go_wp2_with fail
        refine HR.out.mono ?_
        rintro e w' ⟨rfl, rfl⟩
        go_wp2_with fail
        refine (new_no size W (.inr h2)).mono ?_
        rintro e w' ⟨rfl, rfl⟩
        go_wp2_with fail
        go_ret2
        exact .inl ⟨rfl, Below.refl _ _⟩
    · obtain ⟨n, rfl⟩ := Int.eq_ofNat_of_zero_le (show 0 ≤ size by omega)
      have h1 : ¬ (n : Int) < 0 := by omega
      have h2 : ¬ 64 < (n : Int) := by omega
      have h3 : n ≤ 64 := by omega
      clear h
      go_enter Try.func10, Try.ntmps10
      go_wp2_with fail
      refine HR.out.mono ?_
      rintro e w' ⟨rfl, rfl⟩
      go_wp2_with fail
      refine (new_yes n W h3).mono ?_
      rintro e w1 ⟨c, rfl, k⟩
      have HJ := Lib.hid (JS.start (t := ⟨0, false, n, [], [], []⟩) (Below.refl _ _) k (fun ok hn => md_new w1 ok ⟨0, false, n, [], [], []⟩ rfl rfl rfl hn) (below_al w1 _) (Nat.le_refl _))
      clear k
      go_wp2_with fail
      go_ret2
      exact .inr ⟨c, _, _, rfl, rfl, HJ.out⟩
end
end Go.Proofs.Ytmcacmbllpphiaa
