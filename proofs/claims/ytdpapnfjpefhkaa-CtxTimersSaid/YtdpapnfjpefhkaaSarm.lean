/- stop, arm and add of package timer. Conditions: each theorem's own premises.
due, start, withChan, Timer, Ticker, Func, Lapse of package timer. Conditions: each theorem's own premises.
Stop, Reset and Fire of package timer. Conditions: each theorem's own premises. -/
import Derived.Test.YtdpapnfjpefhkaaCMulm
namespace Go.Proofs.Ytdpapnfjpefhkaa
open Go.RowKit Ch
set_option linter.unusedVariables false
set_option maxRecDepth 100000
section
variable {W w w' w'' : World} {t m n n' i j c : Nat} {E E' : List On} {S S' : List It} {g g' : Int → Int} {L L' : List (Nat × CS)} {v : Value} {e : Ending} {x : On} {s s' : CS}
/-- A number of one that was made. -/
theorem wf_nat (h : i < 1000000) : Wf (i : Int) := wf_of (by omega) (by omega)
set_option maxHeartbeats 4000000 in
theorem stopS_no (h : SS W t E m n S g L w) (hx : E[i]? = some x) (hc : x.ch = none) (hE : E.length ≤ 100000) (hl : S.length ≤ 1000) :
    Calls Try.prog 81 #[pS t, .int .i64 (i : Int)] w (SZ W t E m n (del i S) (fput g i 0) L (.bool (decide ((i : Int) ∈ ids S))) w) := by
  have hlt := (List.getElem?_eq_some_iff.1 hx).1
  have b1 : (0 : Int) ≤ (i : Int) := by omega
  have b2 : (i : Int) < (E.length : Int) := by omega
  have hw := wf_nat (i := i) (by omega)
  have HA := Lib.hid h
  have HX := Lib.hid hx
  clear h hx hE hlt
  go_enter Try.func81, Try.ntmps81
  go_wp2_with fail
  refine (ss_tstop i HA.out hw hl).mono ?_
  rintro e w1 hz
  have HZ := Lib.hid hz
  obtain rfl := hz.1
  clear hz
  obtain ⟨P, cc, c0, -, -, -, hr⟩ := HZ.out.2.1.cells
  obtain ⟨q, rfl, hq, ⟨x0, x1, x2, x3⟩, -, -⟩ := hr i x HX.out
  rw [hc] at x2
  clear hr x0 x1 x3
  simp only [Option.map_none] at x2
  generalize hd : decide ((i : Int) ∈ ids S) = d at *
  clear hd
  go_wp2_with fail
  refine (drop_nil _).mono ?_
  rintro e w2 ⟨rfl, rfl⟩
  cases d
  · go_wp2_with fail
    go_ret
    exact HZ.out.but
  · go_wp2_with fail
    go_ret
    exact HZ.out.but
/-- It was armed once more. -/
def up (x : On) : On := { x with gn := x.gn + 1 }
set_option maxHeartbeats 4000000 in
theorem arm_set (y z : Int) (h : SS W t E m n S g L w) (hx : E[i]? = some x) (hg0 : 0 ≤ x.gn) (hg1 : x.gn ≤ 1000000) (hy : Fit y) (hz : Fit z) (hE : E.length ≤ 100000) (hn : n ≤ 1000000) (hl : S.length < 1000) :
    Calls Try.prog 70 #[pS t, .int .i64 (i : Int), .int .i64 y, .int .i64 z] w (SZ W t (E.set i (up x)) m (n + 1) (ins ⟨i, y, (n : Int) + 1⟩ (del i S)) (fput g i z) L (.tuple #[]) w) := by
  have hlt := (List.getElem?_eq_some_iff.1 hx).1
  have b1 : (0 : Int) ≤ (i : Int) := by omega
  have b2 : (i : Int) < (E.length : Int) := by omega
  have b3 : IntKind.i64.wrap (x.gn + 1) = x.gn + 1 := by rw [IntKind.wrap_i64]; omega
  have hw := wf_nat (i := i) (by omega)
  have HA := Lib.hid h
  have HX := Lib.hid hx
  clear h hx hE hlt hg0 hg1
  go_enter Try.func70, Try.ntmps70
  go_wp2_with fail
  refine (ss_tarm i y z HA.out hw hy hz hn hl).mono ?_
  rintro e w1 hz
  have HZ := Lib.hid hz
  obtain rfl := hz.1
  clear hz
  obtain ⟨P, cc, c0, -, -, -, hr⟩ := HZ.out.2.1.cells
  obtain ⟨q, rfl, hq, ⟨x0, x1, x2, x3⟩, fq, st⟩ := hr i x HX.out
  have HS := Lib.hid (st (x.gn + 1))
  have f3 := fq (i * 4 + 3)
  clear hr x0 x1 x2 st fq
  go_wp2_with fail
  go_end0
  exact ⟨rfl, HS.out.1, HZ.out.2.2.trans HS.out.2⟩
theorem below_two {w wx : World} {o1 o2 : Obj} (hh : wx.heap = ((w.alloc o1).alloc o2).heap) (h1 : wx.os = w.os) (h2 : wx.tape = w.tape) (h3 : wx.output = w.output) : Below w.heap.size w wx :=
  ⟨h1, h2, h3, by rw [hh]; simp; omega, fun k hk => by rw [hh]; exact (Below.heap_alloc _ _ k (by simp; omega)).trans (Below.heap_alloc _ _ k hk)⟩
theorem news_two {w wx : World} {o1 : Obj} {cs : Array Value} {t : TypeId} (hh : wx.heap = ((w.alloc o1).alloc (.cells cs t)).heap) : wx.heap[w.heap.size + 1]? = some (.cells cs t (0, 0)) := by
  rw [hh]
  have := heap_alloc_new (w.alloc o1) (.cells cs t)
  rw [World.size_alloc] at this
  exact this
theorem SS.mid {wx w1 : World} {P : Option Addr} (h : SS W t E m n S g L w) (hc0 : w.cell? ⟨t, 0, none⟩ = some (.slice P E.length c)) (hx : Below w.heap.size w wx) (hg : wx.grownBy w1 (Value.slice P E.length c).ownBlock) : w1.cell? ⟨t, 0, none⟩ = some (.slice P E.length c) ∧ w1.frozen? ⟨t, 0, none⟩ = false := by
  obtain ⟨h0, P', c', h1, h2⟩ := h
  obtain ⟨hB, u, v, hb⟩ := h1.blk
  have e0 : w.cell? ⟨t, 0, none⟩ = some (.slice P' E.length c') := by rw [cell_of_row w t 0 _ _ _ hb]; rfl
  rw [hc0] at e0
  injection e0 with e0; injection e0 with e0 _ e1
  subst e0; subst e1
  rw [own_blk] at hg
  have hk := (hg.block t (by have := hx.size; have := lt_of_blk hb; omega) (fun e => by
    obtain ⟨cs, fr, hq⟩ := row_tag h2 e.symm
    rw [hb] at hq; injection hq with hq; injection hq with _ hq _; exact absurd hq (by decide))).trans (hx.block t (lt_of_blk hb))
  exact ⟨(cell_blk hk 0).trans hc0, (frozen_blk hk 0).trans (frozen_of_row w t 0 _ _ hb)⟩
theorem SS.own {P : Option Addr} (h : SS W t E m n S g L w) (hc0 : w.cell? ⟨t, 0, none⟩ = some (.slice P E.length c)) : w.ownsRow W.heap.size 114 4 (.slice P E.length c) E.length (oV E) := by
  obtain ⟨h0, P', c', h1, h2⟩ := h
  obtain ⟨hB, u, v, hb⟩ := h1.blk
  have e0 : w.cell? ⟨t, 0, none⟩ = some (.slice P' E.length c') := by rw [cell_of_row w t 0 _ _ _ hb]; rfl
  rw [hc0] at e0
  injection e0 with e0; injection e0 with e0 _ e1
  subst e0; subst e1
  exact h2
theorem infO : (Try.prog.info? 114).map (fun i => (i.zero, i.size, i.bytes)) = some (some (.agg #[.int .i64 0, .int .i64 0, .pointer none, .int .i64 0]), 4, 32) := by kernel_rfl
theorem up_snoc (E : List On) (x : On) : (E ++ [x]).set E.length (up x) = E ++ [up x] := by simp
set_option maxHeartbeats 8000000 in
theorem add_set (x : On) (y z : Int) (h : SS W t E m n S g L w) (hg0 : 0 ≤ x.gn) (hg1 : x.gn ≤ 1000000) (hy : Fit y) (hz : Fit z) (hE : E.length < 100000) (hn : n ≤ 1000000) (hl : S.length < 1000) :
    Calls Try.prog 54 #[pS t, .agg #[.int .i64 x.kd, .int .i64 x.dt, .pointer (cp x.ch), .int .i64 x.gn], .int .i64 y, .int .i64 z] w (SZ W t (E ++ [up x]) m (n + 1) (ins ⟨(E.length : Int), y, (n : Int) + 1⟩ (del (E.length : Int) S)) (fput g (E.length : Int) z) L (.int .i64 (E.length : Int)) w) := by
  obtain ⟨i0, hi, hz0, hz1, hz2⟩ := info_parts infO
  have hlt := h.lt
  have hla : t ≠ w.heap.size := by omega
  have hsz := h.bel.size
  have HA := Lib.hid h
  obtain ⟨P, c, c0, -, f0, -, -⟩ := h.cells
  have HC : Hid (w.cell? ⟨t, 0, none⟩ = some (.slice P E.length c)) := c0
  have HG := Lib.hid (And.intro hg0 hg1)
  have HF := Lib.hid (And.intro hy hz)
  have HN := Lib.hid (And.intro hE (And.intro hn hl))
  have b2 : (E.length : Int) ≤ 100000 := by omega
  have b3 : (0 : Int) ≤ (E.length : Int) := by omega
  clear h hg0 hg1 hy hz hn hl
  go_enter Try.func54, Try.ntmps54
  go_wp2_with fail
  go_region_law (go_loud (refine step_append_lies _ (by rfl) _ _ _ (by rfl) W.heap.size 114 i0 (.agg #[.int .i64 0, .int .i64 0, .pointer none, .int .i64 0]) 4 32 Try.underlying93 hi hz0 hz1 hz2 rfl (by omega) (.slice P E.length c) E.length (oV E) (by rfl) (row_later (HA.out.own HC.out) (below_two rfl rfl rfl rfl)) ⟨w.heap.size + 1, 0, none⟩ 1 1 (oE x) (by rfl) (by rfl) (World.news_of_block (cs := #[.int .i64 x.kd, .int .i64 x.dt, .pointer (cp x.ch), .int .i64 x.gn]) (t := 114) (fr := (0, 0)) (news_two (w := w) (by rfl))) (oE_one x) (by omega) (by unfold maxLen; omega) (by omega) (by simp; omega) (w.heap.size + 2) (by simp) ?_; intro q cap w1 hown hgrow hat hlt1; have HM := HA.out.mid HC.out (by exact below_two rfl rfl rfl rfl) hgrow; have HE := Lib.hid (HA.out.added (x := x) HC.out (by exact below_two rfl rfl rfl rfl) hown hgrow (hat.imp id (by omega))); have hc1 := HM.1; have hf1 := HM.2; clear HM hown hgrow hat hlt1 c0 f0))
  all_goals
    go_wp2_with fail
    refine (arm_set (i := E.length) y z HE.out.1 (by simp) HG.out.1 HG.out.2 HF.out.1 HF.out.2 (by simp; omega) HN.out.2.1 HN.out.2.2).mono ?_
    rintro e w2 hz
    rw [up_snoc] at hz
    have HZ := Lib.hid (SZ.after HE.out.2 hz)
    obtain rfl := hz.1
    clear hz HE
    go_wp2_with fail
    go_ret
    exact HZ.out.but
end
end Go.Proofs.Ytdpapnfjpefhkaa
namespace Go.Proofs.Ytdpapnfjpefhkaa
open Go.RowKit Ch
set_option linter.unusedVariables false
set_option maxRecDepth 100000
/-- A number held from nothing to the greatest time. -/
def hz (x : Int) : Int := max 0 (min x 4611686018427387904)
theorem hz_fit (x : Int) : Fit (hz x) := by unfold hz Fit; omega
theorem hold0_any (x : Int) (w : World) : Calls Try.prog 55 #[.int .i64 x] w fun e w' => e = .returned (.int .i64 (hz x)) ∧ w = w' := by
  go_enter Try.func55, Try.ntmps55
  go_wp2
  all_goals (go_ret; exact ⟨ret_int (by unfold hz; omega), rfl⟩)
/-- When one is due that is armed at a time with a duration. -/
def wn (now d : Int) : Int := ad now (hz d)
theorem wn_fit {now : Int} (d : Int) (h : Fit now) : Fit (wn now d) := by
  unfold wn ad hd hz Fit at *
  omega
def per (kd d : Int) : Int := if kd = 2 then hz d else 0
theorem per_fit (kd d : Int) : Fit (per kd d) := by
  unfold per
  split
  · exact hz_fit d
  · unfold Fit; omega
/-- May it be armed so? -/
def DueOk (kd now d : Int) : Prop := Fit now ∧ (kd = 2 → 1 ≤ d)
instance (kd now d : Int) : Decidable (DueOk kd now d) := inferInstanceAs (Decidable (_ ∧ _))
section
variable {W w w' w'' : World} {t m n n' i j c : Nat} {E E' : List On} {S S' : List It} {g g' : Int → Int} {L L' : List (Nat × CS)} {v : Value} {e : Ending} {x : On} {s s' : CS}
/-- A local of the set's own kind of row is written. -/
theorem SS.loc (h : SS W t E m n S g L w) {b : Nat} {cs : Array Value} {fr : Nat × Nat} (hb : w.heap[b]? = some (.cells cs 114 fr)) (hW : W.heap.size ≤ b)
    (hP : ∀ P c, w.cell? ⟨t, 0, none⟩ = some (.slice P E.length c) → blk P ≠ some b) (k : Nat) (u : Value) : SS W t E m n S g L (w.setCell ⟨b, k, none⟩ u) ∧ OZ w (w.setCell ⟨b, k, none⟩ u) := by
  obtain ⟨h0, P, c, h1, h2⟩ := h
  obtain ⟨hB, u1, v1, hb1⟩ := h1.blk
  have e0 : w.cell? ⟨t, 0, none⟩ = some (.slice P E.length c) := by rw [cell_of_row w t 0 _ _ _ hb1]; rfl
  have hne := hP P c e0
  have key : ∀ q, q ≠ b → (w.setCell ⟨b, k, none⟩ u).heap[q]? = w.heap[q]? := fun q hq => Below.heap_setCell _ _ _ _ (by exact hq)
  have ex : Ex 114 w (w.setCell ⟨b, k, none⟩ u) := ⟨by simp [World.setCell], fun q hq hn => key q (by rintro rfl; exact hn _ _ hb)⟩
  refine ⟨⟨h0.ex ex (h0.bel.setCell (show W.heap.size ≤ (⟨b, k, none⟩ : Addr).block from hW) _) (by decide), P, c, h1.ex ex, row_keep h2 fun q hq => key q (by rintro rfl; exact hne hq)⟩, by simp [World.setCell], fun q cs' ty fr' e1 e2 => (key q ?_).trans e1⟩
  rintro rfl
  rw [hb] at e1; injection e1 with e1; injection e1 with _ e1 _; exact e2.2.2.2 e1.symm
/-- Another block of the call's own is written. -/
theorem SS.cellO (h : SS W t E m n S g L w) {b : Nat} {cs : Array Value} {ty : TypeId} {fr : Nat × Nat} (hb : w.heap[b]? = some (.cells cs ty fr)) (ho : OthZ ty) (hc : ty ≠ 128 ∧ ty ≠ 186 ∧ ty ≠ 3 ∧ ty ≠ 161) (hW : W.heap.size ≤ b) (k : Nat) (u : Value) : SS W t E m n S g L (w.setCell ⟨b, k, none⟩ u) := by
  obtain ⟨h0, P, c, h1, h2⟩ := h
  have key : ∀ q, q ≠ b → (w.setCell ⟨b, k, none⟩ u).heap[q]? = w.heap[q]? := fun q hq => Below.heap_setCell _ _ _ _ (by exact hq)
  have ex : Ex ty w (w.setCell ⟨b, k, none⟩ u) := ⟨by simp [World.setCell], fun q hq hn => key q (by rintro rfl; exact hn _ _ hb)⟩
  refine ⟨h0.ex ex (h0.bel.setCell (show W.heap.size ≤ (⟨b, k, none⟩ : Addr).block from hW) _) hc, P, c, h1.keep fun q hq hi => ?_, row_keep h2 fun q hq => key q ?_⟩
  · refine key q ?_
    rintro rfl
    rcases hi with ⟨cs', ty', fr', e1, e2⟩ | ⟨es, cl, e1⟩
    · rw [hb] at e1; injection e1 with e1; injection e1 with _ e1 _; subst e1
      rcases e2 with e2 | e2 | e2
      · exact ho.1 e2
      · exact ho.2.1 e2
      · exact ho.2.2.1 e2
    · rw [hb] at e1; cases e1
  · rintro rfl
    obtain ⟨cs', fr', e1⟩ := row_tag h2 hq
    rw [hb] at e1; injection e1 with e1; injection e1 with _ e1 _; exact ho.2.2.2 e1
theorem OZ.cell {w0 : World} (h : OZ w0 w) {b : Nat} (hb : w0.heap.size ≤ b) (k : Nat) (u : Value) : OZ w0 (w.setCell ⟨b, k, none⟩ u) := ⟨by rw [show (w.setCell ⟨b, k, none⟩ u).heap.size = w.heap.size from by simp [World.setCell]]; exact h.1, fun q cs ty fr e1 e2 =>
  (Below.heap_setCell _ _ _ _ (show q ≠ b by have := lt_of_blk e1; omega)).trans (h.2 q cs ty fr e1 e2)⟩
/-- A timer's channel, new. -/
def cN : CS := ⟨1, false, 1, [], [], []⟩
/-- What Timer and Ticker answer: one more is there, on a channel of its own. -/
def MkC (W : World) (t : Nat) (E : List On) (m n : Nat) (S : List It) (g : Int → Int) (L : List (Nat × CS)) (kd now d : Int) (a : Nat → Value) (w : World) (e : Ending) (w' : World) : Prop :=
  ∃ c, e = .returned (a c) ∧ SS W t (E ++ [⟨kd, 0, some c, 1⟩]) (m + 1) (n + 1) (ins ⟨(E.length : Int), wn now d, (n : Int) + 1⟩ (del (E.length : Int) S)) (fput g (E.length : Int) (per kd d)) (L ++ [(c, cN)]) w' ∧ OZ w w'
/-- What Func and Lapse make. -/
def MkF (W : World) (t : Nat) (E : List On) (m m' n : Nat) (S : List It) (g : Int → Int) (L : List (Nat × CS)) (kd wh p : Int) (w : World) (e : Ending) (w' : World) : Prop :=
  SZ W t (E ++ [⟨kd, p, none, 1⟩]) m' (n + 1) (ins ⟨(E.length : Int), wh, (n : Int) + 1⟩ (del (E.length : Int) S)) (fput g (E.length : Int) 0) L (.tuple #[.int .i64 (E.length : Int), .int .i64 0]) w e w'
/-! The calls. -/
theorem lapse_no {wh p : Int} (q : Option Addr) (w : World) (hp : p < 0) : Calls Try.prog 40 #[.pointer q, .int .i64 wh, .int .i64 p] w fun e w' => e = .returned (.tuple #[.int .i64 0, .int .i64 1]) ∧ w = w' := by
  go_enter Try.func40, Try.ntmps40
  go_wp2_with fail
  go_ret2
  exact ⟨rfl, rfl⟩
theorem lapse_ok {wh p : Int} (h : SS W t E m n S g L w) (hp : 0 ≤ p) (hE : E.length < 100000) (hn : n ≤ 1000000) (hl : S.length < 1000) :
    Calls Try.prog 40 #[pS t, .int .i64 wh, .int .i64 p] w (MkF W t E m m n S g L 4 (hz wh) p w) := by
  have b0 : ¬ p < 0 := by omega
  have HF := Lib.hid (hz_fit wh)
  have hz0 := Lib.hid (show Fit 0 by decide)
  have HA := Lib.hid h
  have HN := Lib.hid (And.intro hE (And.intro hn hl))
  have F := hold0_any wh w
  clear h hE hn hl
  unfold MkF
  generalize hz wh = y at *
  go_enter Try.func40, Try.ntmps40
  go_wp2_with (go_at_call 55; (with_reducible refine F.mono ?_); rintro e w' ⟨rfl, rfl⟩)
  refine (add_set ⟨4, p, none, 0⟩ y 0 HA.out (by show (0 : Int) ≤ 0; decide) (by show (0 : Int) ≤ 1000000; decide) HF.out hz0.out HN.out.1 HN.out.2.1 HN.out.2.2).mono ?_
  rintro e w5 hz
  have HZ := Lib.hid hz
  obtain rfl := hz.1
  clear hz
  go_wp2_with fail
  go_ret2
  exact HZ.out.but
end
end Go.Proofs.Ytdpapnfjpefhkaa
namespace Go.Proofs.Ytdpapnfjpefhkaa
open Go.RowKit Ch
set_option linter.unusedVariables false
set_option maxRecDepth 100000
section
variable {W w w' w'' : World} {t m n n' i j c : Nat} {E E' : List On} {S S' : List It} {g g' : Int → Int} {L L' : List (Nat × CS)} {v : Value} {e : Ending} {x : On} {s s' : CS}
/-- The channel of one that was made is dropped: the channels, and whether it had a value. -/
structure Drp (L : List (Nat × CS)) (x : On) (L' : List (Nat × CS)) (b : Bool) : Prop where
  h : x.ch = none ∧ L' = L ∧ b = false
theorem Drp.none (hc : x.ch = none) : Drp L x L false := ⟨⟨hc, rfl, rfl⟩⟩
theorem stopS (h : SS W t E m n S g L w) (hx : E[i]? = some x) {b : Bool} (hd : Drp L x L' b) (hE : E.length ≤ 100000) (hl : S.length ≤ 1000) :
    Calls Try.prog 81 #[pS t, .int .i64 (i : Int)] w (SZ W t E m n (del i S) (fput g i 0) L' (.bool (decide ((i : Int) ∈ ids S) || b)) w) := by
  obtain ⟨hc, rfl, rfl⟩ := hd.h
  rw [Bool.or_false]
  exact stopS_no h hx hc hE hl
/-- Stop, of one that was made. -/
theorem stop_set (h : SS W t E m n S g L w) (hx : E[i]? = some x) {b : Bool} (hd : Drp L x L' b) (hk : x.kd ≠ 0) (hE : E.length ≤ 100000) (hl : S.length ≤ 1000) :
    Calls Try.prog 68 #[pS t, .int .i64 (i : Int)] w (SZ W t E m n (del i S) (fput g i 0) L' (.tuple #[.bool (decide ((i : Int) ∈ ids S) || b), .int .i64 0]) w) := by
  have HA := Lib.hid h
  have hk2 : (x.kd == 0) = false := by simpa using hk
  have HX := Lib.hid hx
  clear h hk hx
  go_enter Try.func68, Try.ntmps68
  go_wp2_with fail
  refine (kind_any _ HA.out).mono ?_
  rintro e w1 hz
  rw [eA_at HX.out] at hz
  have HZ := Lib.hid hz
  obtain rfl := hz.1
  clear hz
  go_wp2_with fail
  refine (stopS HZ.out.2.1 HX.out hd hE hl).mono ?_
  rintro e w2 hz
  have HY := Lib.hid (SZ.after HZ.out.2.2 hz)
  obtain rfl := hz.1
  clear hz HZ hd
  generalize (decide ((i : Int) ∈ ids S) || b) = d at *
  go_wp2_with fail
  go_ret2
  exact HY.out.but
theorem stop_none {k : Int} (h : SS W t E m n S g L w) (hk : k < 0 ∨ (E.length : Int) ≤ k) : Calls Try.prog 68 #[pS t, .int .i64 k] w (SZ W t E m n S g L (.tuple #[.bool false, .int .i64 4]) w) := by
  have HA := Lib.hid h
  clear h
  go_enter Try.func68, Try.ntmps68
  go_wp2_with fail
  refine (kind_any _ HA.out).mono ?_
  rintro e w1 hz
  rw [eA_no hk] at hz
  have HZ := Lib.hid hz
  obtain rfl := hz.1
  clear hz
  simp only [zO]
  go_wp2_with fail
  go_ret2
  exact HZ.out.but
end
end Go.Proofs.Ytdpapnfjpefhkaa
