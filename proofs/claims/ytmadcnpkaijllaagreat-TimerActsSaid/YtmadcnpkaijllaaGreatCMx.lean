/- The document's own channel: Wait, whatever comes of it. Conditions: each theorem's own premises. -/
import Derived.Test.YtmadcnpkaijllaaGreatCMv
namespace Go.Proofs.YtmadcnpkaijllaaGreat.Ch
open Go.RowKit
set_option linter.unusedVariables false
set_option maxRecDepth 100000
section
variable {w : World} {ok : Nat → Prop} {m : Nat} {s : CS}
set_option maxRecDepth 100000 in
theorem mwait_room (x : Wt) (h : MD w ok m s) (hk : s.kd = 0) (hc : s.cl = false) (hf : s.l.length < s.sz) (hn : s.ss.length ≤ 1000) (hn2 : s.rs.length ≤ 1000) (hl : s.l.length ≤ 1000) : Calls Tryz.prog 32 #[.pointer (some ⟨m, 0, none⟩), wG x, .bool true] w (MwR ok m (s, 1) w) := by
  obtain ⟨b, q, r, hx⟩ := h
  have hml := hx.lt
  have HM := Lib.hid (Mo.same ⟨b, q, r, hx⟩)
  have HX2 := Lib.hid (hx.later (below_al w (.cells #[.int .i64 x.t, .int .i64 x.c, .int .i64 x.v] 87)))
  have HB2 := Lib.hid (below_al w (.cells #[.int .i64 x.t, .int .i64 x.c, .int .i64 x.v] 87))
  have HA2 : Hid ((w.alloc (.cells #[.int .i64 x.t, .int .i64 x.c, .int .i64 x.v] 87)).heap[w.heap.size]? = some (.cells #[.int .i64 x.t, .int .i64 x.c, .int .i64 x.v] 87 (0, 0))) := heap_alloc_new _ _
  clear hx
  unfold wG
  go_enter Tryz.func32, Tryz.ntmps32
  go_upto_region 2 with (fail)
  have HM2 := Lib.hid (HM.out.later HB2.out)
  clear HM HB2
  generalize w.heap.size = N at *
  generalize w.alloc (.cells #[.int .i64 x.t, .int .i64 x.c, .int .i64 x.v] 87) = w2 at *
  have p3 : (s.l.length : Int) < (s.sz : Int) := by omega
  have p4 : decide (s.l.length < s.sz) = true := decide_eq_true hf
  have c0 := HX2.out.c0
  have c3 : w2.cell? ⟨m, 3, none⟩ = some (.bool false) := HX2.out.k3 hc
  have c4 := HX2.out.c4
  have c5 := HX2.out.c5
  have c6 := HX2.out.c6
  have a0 := cell_of_row w2 N 0 _ _ _ HA2.out
  simp only [List.getElem?_toArray, List.getElem?_cons_zero] at a0
  have c1 : w2.cell? ⟨m, 1, none⟩ = some (.bool false) := HX2.out.k1 hk
  have c2 : w2.cell? ⟨m, 2, none⟩ = some (.bool false) := HX2.out.k2 hk
  go_wp2_with fail
  go_quiet (fail)
  have HX3 := Lib.hid (HX2.out.later (below_drewN (Below.refl _ _) nq))
  have HM3 := Lib.hid (HM2.out.later (w'' := w2.drewN nq) (below_drewN (Below.refl _ _) nq))
  have HA3 : Hid ((w2.drewN nq).heap[N]? = some (.cells #[.int .i64 x.t, .int .i64 x.c, .int .i64 x.v] 87 (0, 0))) := HA2.out
  clear c0 c3 c4 c5 c6 a0 c1 c2 HX2 HA2 HM2
  generalize w2.drewN nq = w3 at *
  go_wp2_with fail
  go_ret
  exact ⟨rfl, HM3.out⟩
set_option maxRecDepth 100000 in
theorem mwait_meet (x : Wt) (h : MD w ok m s) (hk : s.kd = 0) (hc : s.cl = false) (hf : ¬ s.l.length < s.sz) (hm : meet x.t s.rs = true) (hn : s.ss.length ≤ 1000) (hn2 : s.rs.length ≤ 1000) (hl : s.l.length ≤ 1000) : Calls Tryz.prog 32 #[.pointer (some ⟨m, 0, none⟩), wG x, .bool true] w (MwR ok m (s, 1) w) := by
  obtain ⟨b, q, r, hx⟩ := h
  have hml := hx.lt
  have HM := Lib.hid (Mo.same ⟨b, q, r, hx⟩)
  have HX2 := Lib.hid (hx.later (below_al w (.cells #[.int .i64 x.t, .int .i64 x.c, .int .i64 x.v] 87)))
  have HB2 := Lib.hid (below_al w (.cells #[.int .i64 x.t, .int .i64 x.c, .int .i64 x.v] 87))
  have HA2 : Hid ((w.alloc (.cells #[.int .i64 x.t, .int .i64 x.c, .int .i64 x.v] 87)).heap[w.heap.size]? = some (.cells #[.int .i64 x.t, .int .i64 x.c, .int .i64 x.v] 87 (0, 0))) := heap_alloc_new _ _
  clear hx
  unfold wG
  go_enter Tryz.func32, Tryz.ntmps32
  go_upto_region 2 with (fail)
  have HM2 := Lib.hid (HM.out.later HB2.out)
  clear HM HB2
  generalize w.heap.size = N at *
  generalize w.alloc (.cells #[.int .i64 x.t, .int .i64 x.c, .int .i64 x.v] 87) = w2 at *
  have p3 : ¬ (s.l.length : Int) < (s.sz : Int) := by omega
  have p4 : decide (s.l.length < s.sz) = false := decide_eq_false hf
  have c0 := HX2.out.c0
  have c3 : w2.cell? ⟨m, 3, none⟩ = some (.bool false) := HX2.out.k3 hc
  have c4 := HX2.out.c4
  have c5 := HX2.out.c5
  have c6 := HX2.out.c6
  have a0 := cell_of_row w2 N 0 _ _ _ HA2.out
  simp only [List.getElem?_toArray, List.getElem?_cons_zero] at a0
  have c1 : w2.cell? ⟨m, 1, none⟩ = some (.bool false) := HX2.out.k1 hk
  have c2 : w2.cell? ⟨m, 2, none⟩ = some (.bool false) := HX2.out.k2 hk
  have HO : Hid (∀ n, Calls Tryz.prog 70 #[.slice r.1 s.rs.length r.2, .int .i64 x.t] (w2.drewN n) fun e w' => e = .returned (.bool true) ∧ w' = w2.drewN n) := by
    intro n
    rw [← hm]
    exact (others_any x.t ⟨rfl, (HX2.out.rr.later (below_drewN (Below.refl _ _) n)).rd⟩ (by omega)).mono fun _ _ h => ⟨h.1, h.2.symm⟩
  go_wp2_with fail
  go_quiet (exact Calls.quiet_of_same (HO.out _))
  have HX3 := Lib.hid (HX2.out.later (below_drewN (Below.refl _ _) nq))
  have HM3 := Lib.hid (HM2.out.later (w'' := w2.drewN nq) (below_drewN (Below.refl _ _) nq))
  have HA3 : Hid ((w2.drewN nq).heap[N]? = some (.cells #[.int .i64 x.t, .int .i64 x.c, .int .i64 x.v] 87 (0, 0))) := HA2.out
  clear c0 c3 c4 c5 c6 a0 c1 c2 HX2 HA2 HM2
  generalize w2.drewN nq = w3 at *
  clear HO
  go_wp2_with fail
  go_ret
  exact ⟨rfl, HM3.out⟩
set_option maxRecDepth 100000 in
theorem mwait_val (x : Wt) (h : MD w ok m s) (hc : s.cl = false) (hf : 0 < s.l.length) (hn : s.ss.length ≤ 1000) (hn2 : s.rs.length ≤ 1000) (hl : s.l.length ≤ 1000) : Calls Tryz.prog 32 #[.pointer (some ⟨m, 0, none⟩), wG x, .bool false] w (MwR ok m (s, 1) w) := by
  obtain ⟨b, q, r, hx⟩ := h
  have hml := hx.lt
  have HM := Lib.hid (Mo.same ⟨b, q, r, hx⟩)
  have HX2 := Lib.hid (hx.later (below_al w (.cells #[.int .i64 x.t, .int .i64 x.c, .int .i64 x.v] 87)))
  have HB2 := Lib.hid (below_al w (.cells #[.int .i64 x.t, .int .i64 x.c, .int .i64 x.v] 87))
  have HA2 : Hid ((w.alloc (.cells #[.int .i64 x.t, .int .i64 x.c, .int .i64 x.v] 87)).heap[w.heap.size]? = some (.cells #[.int .i64 x.t, .int .i64 x.c, .int .i64 x.v] 87 (0, 0))) := heap_alloc_new _ _
  clear hx
  unfold wG
  go_enter Tryz.func32, Tryz.ntmps32
  go_upto_region 2 with (fail)
  have HM2 := Lib.hid (HM.out.later HB2.out)
  clear HM HB2
  generalize w.heap.size = N at *
  generalize w.alloc (.cells #[.int .i64 x.t, .int .i64 x.c, .int .i64 x.v] 87) = w2 at *
  have p3 : 0 < (s.l.length : Int) := by omega
  have p4 : decide (0 < s.l.length) = true := decide_eq_true hf
  have c0 := HX2.out.c0
  have c3 : w2.cell? ⟨m, 3, none⟩ = some (.bool false) := HX2.out.k3 hc
  have c4 := HX2.out.c4
  have c5 := HX2.out.c5
  have c6 := HX2.out.c6
  have a0 := cell_of_row w2 N 0 _ _ _ HA2.out
  simp only [List.getElem?_toArray, List.getElem?_cons_zero] at a0
  go_wp2_with fail
  go_quiet (fail)
  have HX9 := Lib.hid (HX2.out.later (below_drewN (Below.refl _ _) nq))
  have HM9 := Lib.hid (HM2.out.later (w'' := w2.drewN nq) (below_drewN (Below.refl _ _) nq))
  have HA9 : Hid ((w2.drewN nq).heap[N]? = some (.cells #[.int .i64 x.t, .int .i64 x.c, .int .i64 x.v] 87 (0, 0))) := HA2.out
  clear c0 c3 c4 c5 c6 a0 HX2 HA2 HM2
  generalize w2.drewN nq = w2' at *
  have c0 := HX9.out.c0
  have c3 : w2'.cell? ⟨m, 3, none⟩ = some (.bool false) := HX9.out.k3 hc
  have c4 := HX9.out.c4
  have c5 := HX9.out.c5
  have c6 := HX9.out.c6
  have a0 := cell_of_row w2' N 0 _ _ _ HA9.out
  simp only [List.getElem?_toArray, List.getElem?_cons_zero] at a0
  go_wp2_with fail
  go_quiet (fail)
  have HX3 := Lib.hid (HX9.out.later (below_drewN (Below.refl _ _) nq))
  have HM3 := Lib.hid (HM9.out.later (w'' := w2'.drewN nq) (below_drewN (Below.refl _ _) nq))
  have HA3 : Hid ((w2'.drewN nq).heap[N]? = some (.cells #[.int .i64 x.t, .int .i64 x.c, .int .i64 x.v] 87 (0, 0))) := HA9.out
  clear c0 c3 c4 c5 c6 a0 HX9 HA9 HM9
  generalize w2'.drewN nq = w3 at *
  go_wp2_with fail
  go_ret
  exact ⟨rfl, HM3.out⟩
set_option maxRecDepth 100000 in
theorem mwait_other (x : Wt) (h : MD w ok m s) (hc : s.cl = false) (hf : s.l = []) (hm : meet x.t s.ss = true) (hn : s.ss.length ≤ 1000) (hn2 : s.rs.length ≤ 1000) (hl : s.l.length ≤ 1000) : Calls Tryz.prog 32 #[.pointer (some ⟨m, 0, none⟩), wG x, .bool false] w (MwR ok m (s, 1) w) := by
  obtain ⟨b, q, r, hx⟩ := h
  have hml := hx.lt
  have HM := Lib.hid (Mo.same ⟨b, q, r, hx⟩)
  have HX2 := Lib.hid (hx.later (below_al w (.cells #[.int .i64 x.t, .int .i64 x.c, .int .i64 x.v] 87)))
  have HB2 := Lib.hid (below_al w (.cells #[.int .i64 x.t, .int .i64 x.c, .int .i64 x.v] 87))
  have HA2 : Hid ((w.alloc (.cells #[.int .i64 x.t, .int .i64 x.c, .int .i64 x.v] 87)).heap[w.heap.size]? = some (.cells #[.int .i64 x.t, .int .i64 x.c, .int .i64 x.v] 87 (0, 0))) := heap_alloc_new _ _
  clear hx
  unfold wG
  go_enter Tryz.func32, Tryz.ntmps32
  go_upto_region 2 with (fail)
  have HM2 := Lib.hid (HM.out.later HB2.out)
  clear HM HB2
  generalize w.heap.size = N at *
  generalize w.alloc (.cells #[.int .i64 x.t, .int .i64 x.c, .int .i64 x.v] 87) = w2 at *
  have c0 := HX2.out.c0
  have c3 : w2.cell? ⟨m, 3, none⟩ = some (.bool false) := HX2.out.k3 hc
  have c4 := HX2.out.c4
  have c5 := HX2.out.c5
  have c6 := HX2.out.c6
  have a0 := cell_of_row w2 N 0 _ _ _ HA2.out
  simp only [List.getElem?_toArray, List.getElem?_cons_zero] at a0
  rw [hf, List.length_nil] at c4
  go_wp2_with fail
  go_quiet (fail)
  have HX9 := Lib.hid (HX2.out.later (below_drewN (Below.refl _ _) nq))
  have HM9 := Lib.hid (HM2.out.later (w'' := w2.drewN nq) (below_drewN (Below.refl _ _) nq))
  have HA9 : Hid ((w2.drewN nq).heap[N]? = some (.cells #[.int .i64 x.t, .int .i64 x.c, .int .i64 x.v] 87 (0, 0))) := HA2.out
  clear c0 c3 c4 c5 c6 a0 HX2 HA2 HM2
  generalize w2.drewN nq = w2' at *
  have c0 := HX9.out.c0
  have c3 : w2'.cell? ⟨m, 3, none⟩ = some (.bool false) := HX9.out.k3 hc
  have c4 := HX9.out.c4
  have c5 := HX9.out.c5
  have c6 := HX9.out.c6
  have a0 := cell_of_row w2' N 0 _ _ _ HA9.out
  simp only [List.getElem?_toArray, List.getElem?_cons_zero] at a0
  rw [hf, List.length_nil] at c4
  have HO : Hid (∀ n, Calls Tryz.prog 70 #[.slice q.1 s.ss.length q.2, .int .i64 x.t] (w2'.drewN n) fun e w' => e = .returned (.bool true) ∧ w' = w2'.drewN n) := by
    intro n
    rw [← hm]
    exact (others_any x.t ⟨rfl, (HX9.out.rq.later (below_drewN (Below.refl _ _) n)).rd⟩ (by omega)).mono fun _ _ h => ⟨h.1, h.2.symm⟩
  go_wp2_with fail
  go_quiet (exact Calls.quiet_of_same (HO.out _))
  have HX3 := Lib.hid (HX9.out.later (below_drewN (Below.refl _ _) nq))
  have HM3 := Lib.hid (HM9.out.later (w'' := w2'.drewN nq) (below_drewN (Below.refl _ _) nq))
  have HA3 : Hid ((w2'.drewN nq).heap[N]? = some (.cells #[.int .i64 x.t, .int .i64 x.c, .int .i64 x.v] 87 (0, 0))) := HA9.out
  clear c0 c3 c4 c5 c6 a0 HX9 HA9 HM9
  generalize w2'.drewN nq = w3 at *
  clear HO
  go_wp2_with fail
  go_ret
  exact ⟨rfl, HM3.out⟩
theorem mwait_nil (x : Wt) (b : Bool) (w : World) : Calls Tryz.prog 32 #[.pointer none, wG x, .bool b] w fun e w' => e = .returned (.int .i64 6) ∧ Below w.heap.size w w' := by
  unfold wG
  go_enter Tryz.func32, Tryz.ntmps32
  go_wp2
  go_ret
  exact ⟨rfl, below_al _ _⟩
theorem mwait_kind (x : Wt) (h : MD w ok m s) (hk : s.kd ≠ 0) (hk2 : s.kd ≤ 2) : Calls Tryz.prog 32 #[.pointer (some ⟨m, 0, none⟩), wG x, .bool true] w (MwR ok m (s, 7) w) := by
  have HM := Lib.hid ((Mo.same h).later (below_al w (.cells #[.int .i64 x.t, .int .i64 x.c, .int .i64 x.v] 87)))
  obtain ⟨b, q, r, hx⟩ := h
  have hx2 := hx.later (below_al w (.cells #[.int .i64 x.t, .int .i64 x.c, .int .i64 x.v] 87))
  clear hx
  unfold wG
  by_cases h1 : s.kd = 1
  · have c1 := hx2.k1 h1
    simp only [BEq.rfl] at c1
    clear hx2 hk hk2
    go_enter Tryz.func32, Tryz.ntmps32
    go_wp2
    go_ret
    exact ⟨rfl, HM.out⟩
  · have h2 : s.kd = 2 := by omega
    have c1 := hx2.k1 h2
    have c2 := hx2.k2 h2
    rw [show ((2 : Nat) == 1) = false from rfl] at c1
    rw [show ((2 : Nat) == 2) = true from rfl] at c2
    clear hx2 hk hk2 h1
    go_enter Tryz.func32, Tryz.ntmps32
    go_wp2
    go_ret
    exact ⟨rfl, HM.out⟩
theorem mwait_closed (x : Wt) (b : Bool) (h : MD w ok m s) (hk : ¬ (b = true ∧ s.kd ≠ 0)) (hc : s.cl = true) : Calls Tryz.prog 32 #[.pointer (some ⟨m, 0, none⟩), wG x, .bool b] w (MwR ok m (s, 5) w) := by
  have HM := Lib.hid ((Mo.same h).later (below_al w (.cells #[.int .i64 x.t, .int .i64 x.c, .int .i64 x.v] 87)))
  obtain ⟨vb, q, r, hx⟩ := h
  have hx2 := hx.later (below_al w (.cells #[.int .i64 x.t, .int .i64 x.c, .int .i64 x.v] 87))
  have c3 := hx2.k3 hc
  clear hx
  unfold wG
  cases b with
  | true =>
    have h0 : s.kd = 0 := by
      by_cases h0 : s.kd = 0
      · exact h0
      · exact absurd ⟨rfl, h0⟩ hk
    have c1 := hx2.k1 h0
    have c2 := hx2.k2 h0
    rw [show ((0 : Nat) == 1) = false from rfl] at c1
    rw [show ((0 : Nat) == 2) = false from rfl] at c2
    clear hx2 hk
    go_enter Tryz.func32, Tryz.ntmps32
    go_wp2
    go_ret
    exact ⟨rfl, HM.out⟩
  | false =>
    clear hx2 hk
    go_enter Tryz.func32, Tryz.ntmps32
    go_wp2
    go_ret
    exact ⟨rfl, HM.out⟩
theorem mwait_any (x : Wt) (b : Bool) (h : MD w ok m s) (hk2 : s.kd ≤ 2) (hn : s.ss.length ≤ 1000) (hn2 : s.rs.length ≤ 1000) (hl : s.l.length ≤ 1000) : Calls Tryz.prog 32 #[.pointer (some ⟨m, 0, none⟩), wG x, .bool b] w (MwR ok m (wt s x b) w) := by
  unfold wt
  split
  · rename_i hk
    obtain ⟨rfl, hk⟩ := hk
    exact mwait_kind x h hk hk2
  · rename_i hk
    split
    · rename_i hc
      exact mwait_closed x b h hk hc
    · rename_i hc
      have hc' : s.cl = false := by simpa using hc
      cases b with
      | true =>
        have h0 : s.kd = 0 := by
          by_cases h0 : s.kd = 0
          · exact h0
          · exact absurd ⟨rfl, h0⟩ hk
        by_cases hf : s.l.length < s.sz
        · rw [if_pos (by simp [fr, hf])]
          exact mwait_room x h h0 hc' hf hn hn2 hl
        · cases hm : meet x.t s.rs with
          | true =>
            rw [if_pos (by simp [fr, CS.q, hm])]
            exact mwait_meet x h h0 hc' hf hm hn hn2 hl
          | false =>
            rw [if_neg (by simp [fr, hf, CS.q, hm])]
            exact mwait_send x h h0 hc' hf hm hn hn2 hl
      | false =>
        by_cases hf : 0 < s.l.length
        · rw [if_pos (by simp [fr, hf])]
          exact mwait_val x h hc' hf hn hn2 hl
        · have hf' : s.l = [] := List.eq_nil_of_length_eq_zero (by omega)
          cases hm : meet x.t s.ss with
          | true =>
            rw [if_pos (by simp [fr, CS.q, hm])]
            exact mwait_other x h hc' hf' hm hn hn2 hl
          | false =>
            rw [if_neg (by simp [fr, hf', CS.q, hm])]
            exact mwait_recv x h hc' hf' hm hn hn2 hl
end
end Go.Proofs.YtmadcnpkaijllaaGreat.Ch
