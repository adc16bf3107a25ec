/- stop, arm and add of package timer. Conditions: each theorem's own premises. -/
import Derived.Test.YtmadcnpkaijllaaSop
namespace Go.Proofs.Ytmadcnpkaijllaa
open Go.RowKit Ch
set_option linter.unusedVariables false
set_option maxRecDepth 100000
section
variable {W w w' w'' : World} {t m n n' i j c : Nat} {E E' : List On} {S S' : List It} {g g' : Int → Int} {L L' : List (Nat × CS)} {v : Value} {e : Ending} {x : On} {s s' : CS}
/-- A number of one that was made. -/
theorem wf_nat (h : i < 1000000) : Wf (i : Int) := wf_of (by omega) (by omega)
set_option maxHeartbeats 4000000 in
theorem stopS_ch (h : SS W t E m n S g L w) (hx : E[i]? = some x) (hc : x.ch = some c) (hi : L[j]? = some (c, s)) (hk : s.kd = 1) (hE : E.length ≤ 100000) (hl : S.length ≤ 1000) :
    Calls Try.prog 37 #[pS t, .int .i64 (i : Int)] w (SZ W t E m n (del i S) (fput g i 0) (L.set j (c, { s with l := [] })) (.bool (decide ((i : Int) ∈ ids S) || decide (0 < s.l.length))) w) := by
  have hlt := (List.getElem?_eq_some_iff.1 hx).1
  have b1 : (0 : Int) ≤ (i : Int) := by omega
  have b2 : (i : Int) < (E.length : Int) := by omega
  have hw := wf_nat (i := i) (by omega)
  have HA := Lib.hid h
  have HX := Lib.hid hx
  have HI := Lib.hid hi
  have HK := Lib.hid hk
  clear h hx hi hk hE hlt
  go_enter Try.func37, Try.ntmps37
  go_wp2_with fail
  refine (ss_tstop i HA.out hw hl).mono ?_
  rintro e w1 hz
  have HZ := Lib.hid hz
  obtain rfl := hz.1
  clear hz
  obtain ⟨P, cc, c0, -, -, -, hr⟩ := HZ.out.2.1.cells
  obtain ⟨q, rfl, hq, ⟨x0, x1, x2, x3⟩, -, -⟩ := hr i x HX.out
  rw [hc] at x2
  clear hr x0 x1 x3
  simp only [Option.map_some] at x2
  generalize hd : decide ((i : Int) ∈ ids S) = d at *
  clear hd
  go_wp2_with fail
  refine (ss_drop HZ.out.2.1 HI.out HK.out).mono ?_
  rintro e w2 hz
  have HY := Lib.hid (SZ.after HZ.out.2.2 hz)
  obtain rfl := hz.1
  clear hz HZ c0 x2
  generalize hf : decide (0 < s.l.length) = f at *
  clear hf
  cases d
  · go_wp2_with fail
    go_ret
    exact HY.out.but
  · go_wp2_with fail
    go_ret
    exact HY.out.but
set_option maxHeartbeats 4000000 in
theorem stopS_no (h : SS W t E m n S g L w) (hx : E[i]? = some x) (hc : x.ch = none) (hE : E.length ≤ 100000) (hl : S.length ≤ 1000) :
    Calls Try.prog 37 #[pS t, .int .i64 (i : Int)] w (SZ W t E m n (del i S) (fput g i 0) L (.bool (decide ((i : Int) ∈ ids S))) w) := by
  have hlt := (List.getElem?_eq_some_iff.1 hx).1
  have b1 : (0 : Int) ≤ (i : Int) := by omega
  have b2 : (i : Int) < (E.length : Int) := by omega
  have hw := wf_nat (i := i) (by omega)
  have HA := Lib.hid h
  have HX := Lib.hid hx
  clear h hx hE hlt
  go_enter Try.func37, Try.ntmps37
  go_wp2_with fail
  refine (ss_tstop i HA.out hw hl).mono ?_
  rintro e w1 hz
  have HZ := Lib.hid hz
  obtain rfl := hz.1
  clear hz
  obtain ⟨P, cc, c0, -, -, -, hr⟩ := HZ.out.2.1.cells
  obtain ⟨q, rfl, hq, ⟨x0, x1, x2, x3⟩, -, -⟩ := hr i x HX.out
  rw [hc] at x2
  clear hr x0 x1 x3
  simp only [Option.map_none] at x2
  generalize hd : decide ((i : Int) ∈ ids S) = d at *
  clear hd
  go_wp2_with fail
  refine (drop_nil _).mono ?_
  rintro e w2 ⟨rfl, rfl⟩
  cases d
  · go_wp2_with fail
    go_ret
    exact HZ.out.but
  · go_wp2_with fail
    go_ret
    exact HZ.out.but
/-- It was armed once more. -/
def up (x : On) : On := { x with gn := x.gn + 1 }
set_option maxHeartbeats 4000000 in
theorem arm_set (y z : Int) (h : SS W t E m n S g L w) (hx : E[i]? = some x) (hg0 : 0 ≤ x.gn) (hg1 : x.gn ≤ 1000000) (hy : Fit y) (hz : Fit z) (hE : E.length ≤ 100000) (hn : n ≤ 1000000) (hl : S.length < 1000) :
    Calls Try.prog 42 #[pS t, .int .i64 (i : Int), .int .i64 y, .int .i64 z] w (SZ W t (E.set i (up x)) m (n + 1) (ins ⟨i, y, (n : Int) + 1⟩ (del i S)) (fput g i z) L (.tuple #[]) w) := by
  have hlt := (List.getElem?_eq_some_iff.1 hx).1
  have b1 : (0 : Int) ≤ (i : Int) := by omega
  have b2 : (i : Int) < (E.length : Int) := by omega
  have b3 : IntKind.i64.wrap (x.gn + 1) = x.gn + 1 := by rw [IntKind.wrap_i64]; omega
  have hw := wf_nat (i := i) (by omega)
  have HA := Lib.hid h
  have HX := Lib.hid hx
  clear h hx hE hlt hg0 hg1
  go_enter Try.func42, Try.ntmps42
  go_wp2_with fail
  refine (ss_tarm i y z HA.out hw hy hz hn hl).mono ?_
  rintro e w1 hz
  have HZ := Lib.hid hz
  obtain rfl := hz.1
  clear hz
  obtain ⟨P, cc, c0, -, -, -, hr⟩ := HZ.out.2.1.cells
  obtain ⟨q, rfl, hq, ⟨x0, x1, x2, x3⟩, fq, st⟩ := hr i x HX.out
  have HS := Lib.hid (st (x.gn + 1))
  have f3 := fq (i * 4 + 3)
  clear hr x0 x1 x2 st fq
  go_wp2_with fail
  go_end0
  exact ⟨rfl, HS.out.1, HZ.out.2.2.trans HS.out.2⟩
theorem below_two {w wx : World} {o1 o2 : Obj} (hh : wx.heap = ((w.alloc o1).alloc o2).heap) (h1 : wx.os = w.os) (h2 : wx.tape = w.tape) (h3 : wx.output = w.output) : Below w.heap.size w wx :=
  ⟨h1, h2, h3, by rw [hh]; simp; omega, fun k hk => by rw [hh]; exact (Below.heap_alloc _ _ k (by simp; omega)).trans (Below.heap_alloc _ _ k hk)⟩
theorem news_two {w wx : World} {o1 : Obj} {cs : Array Value} {t : TypeId} (hh : wx.heap = ((w.alloc o1).alloc (.cells cs t)).heap) : wx.heap[w.heap.size + 1]? = some (.cells cs t (0, 0)) := by
  rw [hh]
  have := heap_alloc_new (w.alloc o1) (.cells cs t)
  rw [World.size_alloc] at this
  exact this
theorem SS.mid {wx w1 : World} {P : Option Addr} (h : SS W t E m n S g L w) (hc0 : w.cell? ⟨t, 0, none⟩ = some (.slice P E.length c)) (hx : Below w.heap.size w wx) (hg : wx.grownBy w1 (Value.slice P E.length c).ownBlock) : w1.cell? ⟨t, 0, none⟩ = some (.slice P E.length c) ∧ w1.frozen? ⟨t, 0, none⟩ = false := by
  obtain ⟨h0, P', c', h1, h2⟩ := h
  obtain ⟨hB, u, v, hb⟩ := h1.blk
  have e0 : w.cell? ⟨t, 0, none⟩ = some (.slice P' E.length c') := by rw [cell_of_row w t 0 _ _ _ hb]; rfl
  rw [hc0] at e0
  injection e0 with e0; injection e0 with e0 _ e1
  subst e0; subst e1
  rw [own_blk] at hg
  have hk := (hg.block t (by have := hx.size; have := lt_of_blk hb; omega) (fun e => by
    obtain ⟨cs, fr, hq⟩ := row_tag h2 e.symm
    rw [hb] at hq; injection hq with hq; injection hq with _ hq _; exact absurd hq (by decide))).trans (hx.block t (lt_of_blk hb))
  exact ⟨(cell_blk hk 0).trans hc0, (frozen_blk hk 0).trans (frozen_of_row w t 0 _ _ hb)⟩
theorem SS.own {P : Option Addr} (h : SS W t E m n S g L w) (hc0 : w.cell? ⟨t, 0, none⟩ = some (.slice P E.length c)) : w.ownsRow W.heap.size 80 4 (.slice P E.length c) E.length (oV E) := by
  obtain ⟨h0, P', c', h1, h2⟩ := h
  obtain ⟨hB, u, v, hb⟩ := h1.blk
  have e0 : w.cell? ⟨t, 0, none⟩ = some (.slice P' E.length c') := by rw [cell_of_row w t 0 _ _ _ hb]; rfl
  rw [hc0] at e0
  injection e0 with e0; injection e0 with e0 _ e1
  subst e0; subst e1
  exact h2
theorem infO : (Try.prog.info? 80).map (fun i => (i.zero, i.size, i.bytes)) = some (some (.agg #[.int .i64 0, .int .i64 0, .pointer none, .int .i64 0]), 4, 32) := by kernel_rfl
theorem up_snoc (E : List On) (x : On) : (E ++ [x]).set E.length (up x) = E ++ [up x] := by simp
set_option maxHeartbeats 8000000 in
theorem add_set (x : On) (y z : Int) (h : SS W t E m n S g L w) (hg0 : 0 ≤ x.gn) (hg1 : x.gn ≤ 1000000) (hy : Fit y) (hz : Fit z) (hE : E.length < 100000) (hn : n ≤ 1000000) (hl : S.length < 1000) :
    Calls Try.prog 48 #[pS t, .agg #[.int .i64 x.kd, .int .i64 x.dt, .pointer (cp x.ch), .int .i64 x.gn], .int .i64 y, .int .i64 z] w (SZ W t (E ++ [up x]) m (n + 1) (ins ⟨(E.length : Int), y, (n : Int) + 1⟩ (del (E.length : Int) S)) (fput g (E.length : Int) z) L (.int .i64 (E.length : Int)) w) := by
  obtain ⟨i0, hi, hz0, hz1, hz2⟩ := info_parts infO
  have hlt := h.lt
  have hla : t ≠ w.heap.size := by omega
  have hsz := h.bel.size
  have HA := Lib.hid h
  obtain ⟨P, c, c0, -, f0, -, -⟩ := h.cells
  have HC : Hid (w.cell? ⟨t, 0, none⟩ = some (.slice P E.length c)) := c0
  have HG := Lib.hid (And.intro hg0 hg1)
  have HF := Lib.hid (And.intro hy hz)
  have HN := Lib.hid (And.intro hE (And.intro hn hl))
  have b2 : (E.length : Int) ≤ 100000 := by omega
  have b3 : (0 : Int) ≤ (E.length : Int) := by omega
  clear h hg0 hg1 hy hz hn hl
  go_enter Try.func48, Try.ntmps48
  go_wp2_with fail
  go_region_law (go_loud (refine step_append_lies _ (by rfl) _ _ _ (by rfl) W.heap.size 80 i0 (.agg #[.int .i64 0, .int .i64 0, .pointer none, .int .i64 0]) 4 32 Try.underlying67 hi hz0 hz1 hz2 rfl (by omega) (.slice P E.length c) E.length (oV E) (by rfl) (row_later (HA.out.own HC.out) (below_two rfl rfl rfl rfl)) ⟨w.heap.size + 1, 0, none⟩ 1 1 (oE x) (by rfl) (by rfl) (World.news_of_block (cs := #[.int .i64 x.kd, .int .i64 x.dt, .pointer (cp x.ch), .int .i64 x.gn]) (t := 80) (fr := (0, 0)) (news_two (w := w) (by rfl))) (oE_one x) (by omega) (by unfold maxLen; omega) (by omega) (by simp; omega) (w.heap.size + 2) (by simp) ?_; intro q cap w1 hown hgrow hat hlt1; have HM := HA.out.mid HC.out (by exact below_two rfl rfl rfl rfl) hgrow; have HE := Lib.hid (HA.out.added (x := x) HC.out (by exact below_two rfl rfl rfl rfl) hown hgrow (hat.imp id (by omega))); have hc1 := HM.1; have hf1 := HM.2; clear HM hown hgrow hat hlt1 c0 f0))
  all_goals
    go_wp2_with fail
    refine (arm_set (i := E.length) y z HE.out.1 (by simp) HG.out.1 HG.out.2 HF.out.1 HF.out.2 (by simp; omega) HN.out.2.1 HN.out.2.2).mono ?_
    rintro e w2 hz
    rw [up_snoc] at hz
    have HZ := Lib.hid (SZ.after HE.out.2 hz)
    obtain rfl := hz.1
    clear hz HE
    go_wp2_with fail
    go_ret
    exact HZ.out.but
end
end Go.Proofs.Ytmadcnpkaijllaa
