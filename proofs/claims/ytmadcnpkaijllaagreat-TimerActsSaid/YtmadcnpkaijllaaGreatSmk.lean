/- due, start, withChan, Timer, Ticker, Func, Lapse of package timer. Conditions: each theorem's own premises. -/
import Derived.Test.YtmadcnpkaijllaaGreatSopm
namespace Go.Proofs.YtmadcnpkaijllaaGreat
open Go.RowKit Ch
set_option linter.unusedVariables false
set_option maxRecDepth 100000
/-- A number held from nothing to the greatest time. -/
def hz (x : Int) : Int := max 0 (min x 4611686018427387904)
theorem hz_fit (x : Int) : Fit (hz x) := by unfold hz Fit; omega
theorem hold0_any (x : Int) (w : World) : Calls Tryz.prog 49 #[.int .i64 x] w fun e w' => e = .returned (.int .i64 (hz x)) ∧ w = w' := by
  go_enter Tryz.func49, Tryz.ntmps49
  go_wp2
  all_goals (go_ret; exact ⟨ret_int (by unfold hz; omega), rfl⟩)
/-- When one is due that is armed at a time with a duration. -/
def wn (now d : Int) : Int := ad now (hz d)
theorem wn_fit {now : Int} (d : Int) (h : Fit now) : Fit (wn now d) := by
  unfold wn ad hd hz Fit at *
  omega
def per (kd d : Int) : Int := if kd = 2 then hz d else 0
theorem per_fit (kd d : Int) : Fit (per kd d) := by
  unfold per
  split
  · exact hz_fit d
  · unfold Fit; omega
/-- May it be armed so? -/
def DueOk (kd now d : Int) : Prop := Fit now ∧ (kd = 2 → 1 ≤ d)
instance (kd now d : Int) : Decidable (DueOk kd now d) := inferInstanceAs (Decidable (_ ∧ _))
theorem due_ok {kd now d : Int} (w : World) (h : DueOk kd now d) : Calls Tryz.prog 46 #[.int .i64 kd, .int .i64 now, .int .i64 d] w fun e w' => e = .returned (.tuple #[.int .i64 (wn now d), .int .i64 (per kd d), .int .i64 0]) ∧ w = w' := by
  obtain ⟨⟨h0, h1⟩, h2⟩ := h
  have b0 : ¬ now < 0 := by omega
  have b1 : ¬ 4611686018427387904 < now := by omega
  by_cases hk : kd = 2
  · subst hk
    have b2 : ¬ d < 1 := by have := h2 rfl; omega
    clear h2
    unfold wn per
    rw [if_pos rfl]
    go_enter Tryz.func46, Tryz.ntmps46
    go_wp2_with (first | (go_at_call 49; (with_reducible refine (hold0_any _ _).mono ?_); rintro e w' ⟨rfl, rfl⟩) | (go_at_call 80; (with_reducible refine (add_any _ _ _).mono ?_); rintro e w' ⟨rfl, rfl⟩))
    go_ret3
    exact ⟨rfl, rfl⟩
  · have hk2 : (kd == 2) = false := by simpa using hk
    clear h2
    unfold wn per
    rw [if_neg hk]
    go_enter Tryz.func46, Tryz.ntmps46
    go_wp2_with (first | (go_at_call 49; (with_reducible refine (hold0_any _ _).mono ?_); rintro e w' ⟨rfl, rfl⟩) | (go_at_call 80; (with_reducible refine (add_any _ _ _).mono ?_); rintro e w' ⟨rfl, rfl⟩))
    go_ret3
    exact ⟨rfl, rfl⟩
theorem due_bad {kd now d : Int} (w : World) (h : ¬ DueOk kd now d) : Calls Tryz.prog 46 #[.int .i64 kd, .int .i64 now, .int .i64 d] w fun e w' => e = .returned (.tuple #[.int .i64 0, .int .i64 0, .int .i64 1]) ∧ w = w' := by
  by_cases b0 : now < 0
  · clear h
    go_enter Tryz.func46, Tryz.ntmps46
    go_wp2_with fail
    go_ret3
    exact ⟨rfl, rfl⟩
  by_cases b1 : 4611686018427387904 < now
  · clear h
    go_enter Tryz.func46, Tryz.ntmps46
    go_wp2_with fail
    go_ret3
    exact ⟨rfl, rfl⟩
  have hk : kd = 2 ∧ d < 1 := by
    unfold DueOk Fit at h
    by_cases hk : kd = 2
    · refine ⟨hk, ?_⟩
      apply Classical.byContradiction
      intro h9
      exact h ⟨by omega, fun _ => by omega⟩
    · exact absurd ⟨by omega, fun e => absurd e hk⟩ h
  obtain ⟨rfl, b2⟩ := hk
  clear h
  go_enter Tryz.func46, Tryz.ntmps46
  go_wp2_with fail
  go_ret3
  exact ⟨rfl, rfl⟩
section
variable {RC : List Nat} {RT : List CS} {W w w' w'' : World} {t m n n' i j c : Nat} {E E' : List On} {S S' : List It} {g g' : Int → Int} {L L' : List (Nat × CS)} {v : Value} {e : Ending} {x : On} {s s' : CS}
/-- A local of the set's own kind of row is written. -/
theorem SS.loc (h : SS W RC RT t E m n S g L w) {b : Nat} {cs : Array Value} {fr : Nat × Nat} (hb : w.heap[b]? = some (.cells cs 101 fr)) (hW : W.heap.size ≤ b)
    (hP : ∀ P c, w.cell? ⟨t, 0, none⟩ = some (.slice P E.length c) → blk P ≠ some b) (k : Nat) (u : Value) : SS W RC RT t E m n S g L (w.setCell ⟨b, k, none⟩ u) ∧ OZ w (w.setCell ⟨b, k, none⟩ u) := by
  obtain ⟨h0, P, c, h1, h2⟩ := h
  obtain ⟨hB, u1, v1, hb1⟩ := h1.blk
  have e0 : w.cell? ⟨t, 0, none⟩ = some (.slice P E.length c) := by rw [cell_of_row w t 0 _ _ _ hb1]; rfl
  have hne := hP P c e0
  have key : ∀ q, q ≠ b → (w.setCell ⟨b, k, none⟩ u).heap[q]? = w.heap[q]? := fun q hq => Below.heap_setCell _ _ _ _ (by exact hq)
  have ex : Ex 101 w (w.setCell ⟨b, k, none⟩ u) := ⟨by simp [World.setCell], fun q hq hn => key q (by rintro rfl; exact hn _ _ hb)⟩
  refine ⟨⟨h0.ex ex (h0.bel.setCell (show W.heap.size ≤ (⟨b, k, none⟩ : Addr).block from hW) _) (by decide), P, c, h1.ex ex, row_keep h2 fun q hq => key q (by rintro rfl; exact hne hq)⟩, fun q cs' ty fr' e1 e2 => (key q ?_).trans e1⟩
  rintro rfl
  rw [hb] at e1; injection e1 with e1; injection e1 with _ e1 _; exact e2.2.2.2.1 e1.symm
/-- Another block of the call's own is written. -/
theorem SS.cellO (h : SS W RC RT t E m n S g L w) {b : Nat} {cs : Array Value} {ty : TypeId} {fr : Nat × Nat} (hb : w.heap[b]? = some (.cells cs ty fr)) (ho : OthZ ty) (hW : W.heap.size ≤ b) (k : Nat) (u : Value) : SS W RC RT t E m n S g L (w.setCell ⟨b, k, none⟩ u) := by
  obtain ⟨h0, P, c, h1, h2⟩ := h
  have key : ∀ q, q ≠ b → (w.setCell ⟨b, k, none⟩ u).heap[q]? = w.heap[q]? := fun q hq => Below.heap_setCell _ _ _ _ (by exact hq)
  have ex : Ex ty w (w.setCell ⟨b, k, none⟩ u) := ⟨by simp [World.setCell], fun q hq hn => key q (by rintro rfl; exact hn _ _ hb)⟩
  refine ⟨h0.ex ex (h0.bel.setCell (show W.heap.size ≤ (⟨b, k, none⟩ : Addr).block from hW) _) ⟨ho.2.2.2.2.1, ho.2.2.2.2.2.1, ho.2.2.2.2.2.2.1, ho.2.2.2.2.2.2.2.1, ho.2.2.2.2.2.2.2.2.1, ho.2.2.2.2.2.2.2.2.2⟩, P, c, h1.keep fun q hq hi => ?_, row_keep h2 fun q hq => key q ?_⟩
  · refine key q ?_
    rintro rfl
    rcases hi with ⟨cs', ty', fr', e1, e2⟩ | ⟨es, cl, e1⟩
    · rw [hb] at e1; injection e1 with e1; injection e1 with _ e1 _; subst e1
      rcases e2 with e2 | e2 | e2
      · exact ho.1 e2
      · exact ho.2.1 e2
      · exact ho.2.2.1 e2
    · rw [hb] at e1; cases e1
  · rintro rfl
    obtain ⟨cs', fr', e1⟩ := row_tag h2 hq
    rw [hb] at e1; injection e1 with e1; injection e1 with _ e1 _; exact ho.2.2.2.1 e1
theorem OZ.cell {w0 : World} (h : OZ w0 w) {b : Nat} (hb : w0.heap.size ≤ b) (k : Nat) (u : Value) : OZ w0 (w.setCell ⟨b, k, none⟩ u) := fun q cs ty fr e1 e2 =>
  (Below.heap_setCell _ _ _ _ (show q ≠ b by have := lt_of_blk e1; omega)).trans (h q cs ty fr e1 e2)
/-- A timer's channel, new. -/
def cN : CS := ⟨1, false, 1, [], [], []⟩
/-- What Timer and Ticker answer: one more is there, on a channel of its own. -/
def MkC (W : World) (RC : List Nat) (RT : List CS) (t : Nat) (E : List On) (m n : Nat) (S : List It) (g : Int → Int) (L : List (Nat × CS)) (kd now d : Int) (a : Nat → Value) (w : World) (e : Ending) (w' : World) : Prop :=
  ∃ c, e = .returned (a c) ∧ SS W RC RT t (E ++ [⟨kd, 0, some c, 1⟩]) (m + 1) (n + 1) (ins ⟨(E.length : Int), wn now d, (n : Int) + 1⟩ (del (E.length : Int) S)) (fput g (E.length : Int) (per kd d)) (L ++ [(c, cN)]) w' ∧ OZ w w'
set_option maxHeartbeats 8000000 in
theorem start_ch {kd now d : Int} (hkd : kd = 1 ∨ kd = 2) (h : SS W RC RT t E m n S g L w) (hd : DueOk kd now d) (hm : m < 64) (hE : E.length < 100000) (hn : n ≤ 1000000) (hl : S.length < 1000) :
    Calls Tryz.prog 45 #[pS t, .int .i64 kd, .int .i64 now, .int .i64 d, .int .i64 0] w (MkC W RC RT t E m n S g L kd now d (fun _ => .tuple #[.int .i64 (E.length : Int), .int .i64 0]) w) := by
  have hfit := wn_fit d hd.1
  have hpf := per_fit kd d
  have hlt := h.lt
  have hla : t ≠ w.heap.size := by omega
  have hsz := h.bel.size
  have F := due_ok w hd
  obtain ⟨P, cc, c0, c3, -, f3, -⟩ := h.cells
  have own := h.own c0
  have hP := Lib.hid (show blk P ≠ some w.heap.size from fun e => by have := (row_lt own e).2; omega)
  have C0 := Lib.hid c0
  have HN := Lib.hid (And.intro hE (And.intro hn hl))
  have b1 : ((m : Int) == 64) = false := by simp; omega
  have b2 : IntKind.i64.wrap ((m : Int) + 1) = ((m + 1 : Nat) : Int) := by rw [IntKind.wrap_i64]; omega
  have H1 := Lib.hid (h.box (.cells #[.int .i64 kd, .int .i64 0, .pointer none, .int .i64 0] 101))
  have hb0 := Lib.hid (heap_alloc_new w (.cells #[.int .i64 kd, .int .i64 0, .pointer none, .int .i64 0] 101))
  clear h own hE hn hl hm
  have H2 : Hid (∀ c w2, MS W RC RT (L ++ [(c, cN)]) w2 → Kp (w.alloc (.cells #[.int .i64 kd, .int .i64 0, .pointer none, .int .i64 0] 101)) w2 →
      (∃ cs fr, w2.heap[w.heap.size]? = some (.cells cs 101 fr)) ∧ (SS W RC RT t E m n S g (L ++ [(c, cN)]) (w2.setCell ⟨w.heap.size, 2, none⟩ (.pointer (some ⟨c, 0, none⟩))) ∧ OZ w (w2.setCell ⟨w.heap.size, 2, none⟩ (.pointer (some ⟨c, 0, none⟩)))) ∧
      (w2.setCell ⟨w.heap.size, 2, none⟩ (.pointer (some ⟨c, 0, none⟩))).heap[w.heap.size]? = some (.cells #[.int .i64 kd, .int .i64 0, .pointer (some ⟨c, 0, none⟩), .int .i64 0] 101 (0, 0)) ∧
      w2.frozen? ⟨w.heap.size, 2, none⟩ = false ∧ w2.cell? ⟨w.heap.size, 2, none⟩ = some (.pointer none)) := by
    intro c w2 hms hkp
    have hb2 := hkp.at hb0.out (by decide)
    have h2 := H1.out.chan hms hkp
    have ct : w2.cell? ⟨t, 0, none⟩ = some (.slice P E.length cc) := by
      obtain ⟨_, P', c', k1, k2⟩ := H1.out
      obtain ⟨_, u1, v1, k3⟩ := k1.blk
      exact (cell_blk ((hkp.at k3 (by decide)).trans k3.symm) 0).trans ((cell_blk ((below_al w _).block t hlt) 0).trans C0.out)
    have h3 := h2.1.loc hb2 hsz (fun P' c' e => by
      rw [ct] at e; injection e with e; injection e with e _ _; subst e; exact hP.out) 2 (.pointer (some ⟨c, 0, none⟩))
    exact ⟨⟨_, _, hb2⟩, ⟨h3.1, ((OZ.of_below (below_al w _)).trans h2.2).cell (Nat.le_refl _) 2 _⟩, heap_setCell_same _ _ 2 _ _ _ hb2, frozen_of_row _ _ 2 _ _ hb2, by rw [cell_of_row _ _ 2 _ _ _ hb2]; rfl⟩
  unfold MkC
  generalize wn now d = y at *
  generalize per kd d = z at *
  have HF := Lib.hid (And.intro hfit hpf)
  clear hfit hpf c0 f3
  rcases hkd with rfl | rfl
  all_goals
    go_enter Tryz.func45, Tryz.ntmps45
    go_wp2_with (go_at_call 46; (with_reducible refine F.mono ?_); rintro e w' ⟨rfl, rfl⟩)
    refine (ms_timed H1.out.ms).mono ?_
    rintro e w2 ⟨c, rfl, hms, hkp⟩
    obtain ⟨-, H3, hbl, hfz, hcl⟩ := H2.out c w2 hms hkp
    have H3 := Lib.hid H3
    have HBL := Lib.hid hbl
    clear hms hkp H2 hbl c3
    go_upto_region 11 with (fail)
    generalize w2.setCell ⟨w.heap.size, 2, none⟩ (.pointer (some ⟨c, 0, none⟩)) = w3 at *
    obtain ⟨P3, cc3, -, c3, -, f3, -⟩ := H3.out.1.cells
    have r0 := cell_of_row w3 w.heap.size 0 _ _ _ HBL.out
    have r1 := cell_of_row w3 w.heap.size 1 _ _ _ HBL.out
    have r2 := cell_of_row w3 w.heap.size 2 _ _ _ HBL.out
    have r3 := cell_of_row w3 w.heap.size 3 _ _ _ HBL.out
    simp only [List.getElem?_toArray, List.getElem?_cons_zero, List.getElem?_cons_succ] at r0 r1 r2 r3
    have H4 := Lib.hid (H3.out.1.lim (m + 1))
    clear hfz hcl
    go_wp2_with fail
    refine (add_set ⟨_, 0, some c, 0⟩ y z H4.out.1 (by show (0 : Int) ≤ 0; decide) (by show (0 : Int) ≤ 1000000; decide) HF.out.1 HF.out.2 HN.out.1 HN.out.2.1 HN.out.2.2).mono ?_
    rintro e w5 hz
    have HZ := Lib.hid (SZ.after (H3.out.2.trans H4.out.2) hz)
    obtain rfl := hz.1
    clear hz
    go_wp2_with fail
    go_ret2
    exact ⟨c, rfl, HZ.out.2.1, HZ.out.2.2⟩
/-- What is armed by a law's own duration at a time that may not be, or when no more may be made. -/
theorem start_due {kd now d p : Int} (q : Option Addr) (w : World) (hd : ¬ DueOk kd now d) : Calls Tryz.prog 45 #[.pointer q, .int .i64 kd, .int .i64 now, .int .i64 d, .int .i64 p] w fun e w' => e = .returned (.tuple #[.int .i64 0, .int .i64 1]) ∧ w = w' := by
  have F := due_bad w hd
  go_enter Tryz.func45, Tryz.ntmps45
  go_wp2_with (go_at_call 46; (with_reducible refine F.mono ?_); rintro e w' ⟨rfl, rfl⟩)
  go_ret2
  exact ⟨rfl, rfl⟩
theorem start_prog {kd now d p : Int} (q : Option Addr) (w : World) (hd : DueOk kd now d) (hp : p < 0) : Calls Tryz.prog 45 #[.pointer q, .int .i64 kd, .int .i64 now, .int .i64 d, .int .i64 p] w fun e w' => e = .returned (.tuple #[.int .i64 0, .int .i64 1]) ∧ w = w' := by
  have F := due_ok w hd
  go_enter Tryz.func45, Tryz.ntmps45
  go_wp2_with (go_at_call 46; (with_reducible refine F.mono ?_); rintro e w' ⟨rfl, rfl⟩)
  go_ret2
  exact ⟨rfl, rfl⟩
theorem start_nil {kd now d p : Int} (w : World) (hd : DueOk kd now d) (hp : 0 ≤ p) : Calls Tryz.prog 45 #[.pointer none, .int .i64 kd, .int .i64 now, .int .i64 d, .int .i64 p] w fun e w' => e = .returned (.tuple #[.int .i64 0, .int .i64 3]) ∧ w = w' := by
  have F := due_ok w hd
  have b0 : ¬ p < 0 := by omega
  go_enter Tryz.func45, Tryz.ntmps45
  go_wp2_with (go_at_call 46; (with_reducible refine F.mono ?_); rintro e w' ⟨rfl, rfl⟩)
  go_ret2
  exact ⟨rfl, rfl⟩
theorem start_full {kd now d p : Int} (h : SS W RC RT t E 64 n S g L w) (hd : DueOk kd now d) (hp : 0 ≤ p) : Calls Tryz.prog 45 #[pS t, .int .i64 kd, .int .i64 now, .int .i64 d, .int .i64 p] w fun e w' => e = .returned (.tuple #[.int .i64 0, .int .i64 3]) ∧ w = w' := by
  have F := due_ok w hd
  have b0 : ¬ p < 0 := by omega
  obtain ⟨P, cc, -, c3, -, f3, -⟩ := h.cells
  have b1 : ((64 : Nat) : Int) = 64 := rfl
  rw [b1] at c3
  clear h
  go_enter Tryz.func45, Tryz.ntmps45
  go_wp2_with (go_at_call 46; (with_reducible refine F.mono ?_); rintro e w' ⟨rfl, rfl⟩)
  go_ret2
  exact ⟨rfl, rfl⟩
/-- What Func and Lapse make. -/
def MkF (W : World) (RC : List Nat) (RT : List CS) (t : Nat) (E : List On) (m m' n : Nat) (S : List It) (g : Int → Int) (L : List (Nat × CS)) (kd wh p : Int) (w : World) (e : Ending) (w' : World) : Prop :=
  SZ W RC RT t (E ++ [⟨kd, p, none, 1⟩]) m' (n + 1) (ins ⟨(E.length : Int), wh, (n : Int) + 1⟩ (del (E.length : Int) S)) (fput g (E.length : Int) 0) L (.tuple #[.int .i64 (E.length : Int), .int .i64 0]) w e w'
set_option maxHeartbeats 8000000 in
theorem start_fn {now d p : Int} (h : SS W RC RT t E m n S g L w) (hd : DueOk 3 now d) (hp : 0 ≤ p) (hm : m < 64) (hE : E.length < 100000) (hn : n ≤ 1000000) (hl : S.length < 1000) :
    Calls Tryz.prog 45 #[pS t, .int .i64 3, .int .i64 now, .int .i64 d, .int .i64 p] w (MkF W RC RT t E m (m + 1) n S g L 3 (wn now d) p w) := by
  have b0 : ¬ p < 0 := by omega
  have hfit := wn_fit d hd.1
  have hlt := h.lt
  have hla : t ≠ w.heap.size := by omega
  have hsz := h.bel.size
  have F := due_ok w hd
  have hpz : per 3 d = 0 := by unfold per; rw [if_neg (by decide)]
  rw [hpz] at F
  have HN := Lib.hid (And.intro hE (And.intro hn hl))
  have b1 : ((m : Int) == 64) = false := by simp; omega
  have b2 : IntKind.i64.wrap ((m : Int) + 1) = ((m + 1 : Nat) : Int) := by rw [IntKind.wrap_i64]; omega
  have H3 := Lib.hid (h.lim (m + 1))
  have H4 := Lib.hid (H3.out.1.box (.cells #[.int .i64 3, .int .i64 p, .pointer none, .int .i64 0] 101))
  have H5 : Hid (OZ w ((w.setCell ⟨t, 3, none⟩ (.int .i64 (m + 1 : Nat))).alloc (.cells #[.int .i64 3, .int .i64 p, .pointer none, .int .i64 0] 101))) := H3.out.2.trans (OZ.of_below (below_al _ _))
  obtain ⟨P, cc, -, c3, -, f3, -⟩ := h.cells
  clear h hE hn hl hm hpz
  unfold MkF
  generalize wn now d = y at *
  have HF := Lib.hid hfit
  clear hfit
  have hz0 : Fit 0 := by decide
  go_enter Tryz.func45, Tryz.ntmps45
  go_wp2_with (go_at_call 46; (with_reducible refine F.mono ?_); rintro e w' ⟨rfl, rfl⟩)
  refine (add_set ⟨3, p, none, 0⟩ y 0 H4.out (by show (0 : Int) ≤ 0; decide) (by show (0 : Int) ≤ 1000000; decide) HF.out hz0 HN.out.1 HN.out.2.1 HN.out.2.2).mono ?_
  rintro e w5 hz
  have HZ := Lib.hid (SZ.after H5.out hz)
  obtain rfl := hz.1
  clear hz
  go_wp2_with fail
  go_ret2
  exact HZ.out.but
/-! The calls. -/
theorem with_ok {kd now d : Int} (hkd : kd = 1 ∨ kd = 2) (h : SS W RC RT t E m n S g L w) (hd : DueOk kd now d) (hm : m < 64) (hE : E.length < 100000) (hn : n ≤ 1000000) (hl : S.length < 1000) :
    Calls Tryz.prog 41 #[pS t, .int .i64 kd, .int .i64 now, .int .i64 d] w (MkC W RC RT t E m n S g L kd now d (fun c => .tuple #[.int .i64 (E.length : Int), .pointer (some ⟨c, 0, none⟩), .int .i64 0]) w) := by
  have HR := Lib.hid (start_ch hkd h hd hm hE hn hl)
  clear h hd hm hE hn hl hkd
  go_enter Tryz.func41, Tryz.ntmps41
  go_wp2_with fail
  refine HR.out.mono ?_
  rintro e w1 ⟨c, rfl, hs, ho⟩
  have HS := Lib.hid hs
  have HO := Lib.hid ho
  clear hs ho HR
  go_wp2_with fail
  refine (chan_any _ HS.out).mono ?_
  rintro e w2 hz
  rw [eA_at (x := ⟨kd, 0, some c, 1⟩) (by simp)] at hz
  have HZ := Lib.hid (SZ.after HO.out hz)
  obtain rfl := hz.1
  clear hz HS HO
  simp only [Option.map_some]
  go_wp2_with fail
  go_ret3
  exact ⟨c, rfl, HZ.out.2.1, HZ.out.2.2⟩
theorem with_no {kd now d : Int} (q : Option Addr) (w : World) {a : Int} (ha : a ≠ 0) (hs : Calls Tryz.prog 45 #[.pointer q, .int .i64 kd, .int .i64 now, .int .i64 d, .int .i64 0] w fun e w' => e = .returned (.tuple #[.int .i64 0, .int .i64 a]) ∧ w = w') :
    Calls Tryz.prog 41 #[.pointer q, .int .i64 kd, .int .i64 now, .int .i64 d] w fun e w' => e = .returned (.tuple #[.int .i64 0, .pointer none, .int .i64 a]) ∧ w = w' := by
  have ha2 : (a == 0) = false := by simpa using ha
  go_enter Tryz.func41, Tryz.ntmps41
  go_wp2_with fail
  refine hs.mono ?_
  rintro e w1 ⟨rfl, rfl⟩
  go_wp2_with fail
  go_ret3
  exact ⟨rfl, rfl⟩
theorem timer_any {now d : Int} {q : Value} {Q : Ending → World → Prop} (hs : Calls Tryz.prog 41 #[q, .int .i64 1, .int .i64 now, .int .i64 d] w Q) (hQ : ∀ e w', Q e w' → ∃ a b c, e = .returned (.tuple #[a, b, c])) : Calls Tryz.prog 8 #[q, .int .i64 now, .int .i64 d] w Q := by
  have HR := Lib.hid hs
  have HQ := Lib.hid hQ
  clear hs hQ
  go_enter Tryz.func8, Tryz.ntmps8
  go_wp2_with fail
  refine HR.out.mono ?_
  rintro e w1 hq
  have HX := Lib.hid hq
  obtain ⟨a, b, c, rfl⟩ := HQ.out _ _ hq
  clear hq HQ HR
  go_wp2_with fail
  go_ret3
  exact HX.out
theorem ticker_any {now d : Int} {q : Value} {Q : Ending → World → Prop} (hs : Calls Tryz.prog 41 #[q, .int .i64 2, .int .i64 now, .int .i64 d] w Q) (hQ : ∀ e w', Q e w' → ∃ a b c, e = .returned (.tuple #[a, b, c])) : Calls Tryz.prog 11 #[q, .int .i64 now, .int .i64 d] w Q := by
  have HR := Lib.hid hs
  have HQ := Lib.hid hQ
  clear hs hQ
  go_enter Tryz.func11, Tryz.ntmps11
  go_wp2_with fail
  refine HR.out.mono ?_
  rintro e w1 hq
  have HX := Lib.hid hq
  obtain ⟨a, b, c, rfl⟩ := HQ.out _ _ hq
  clear hq HQ HR
  go_wp2_with fail
  go_ret3
  exact HX.out
theorem func_any {now d p : Int} {q : Value} {Q : Ending → World → Prop} (hs : Calls Tryz.prog 45 #[q, .int .i64 3, .int .i64 now, .int .i64 d, .int .i64 p] w Q) (hQ : ∀ e w', Q e w' → ∃ a b, e = .returned (.tuple #[a, b])) : Calls Tryz.prog 12 #[q, .int .i64 now, .int .i64 d, .int .i64 p] w Q := by
  have HR := Lib.hid hs
  have HQ := Lib.hid hQ
  clear hs hQ
  go_enter Tryz.func12, Tryz.ntmps12
  go_wp2_with fail
  refine HR.out.mono ?_
  rintro e w1 hq
  have HX := Lib.hid hq
  obtain ⟨a, b, rfl⟩ := HQ.out _ _ hq
  clear hq HQ HR
  go_wp2_with fail
  exact HX.out
theorem timer_ok {now d : Int} (h : SS W RC RT t E m n S g L w) (hd : Fit now) (hm : m < 64) (hE : E.length < 100000) (hn : n ≤ 1000000) (hl : S.length < 1000) :
    Calls Tryz.prog 8 #[pS t, .int .i64 now, .int .i64 d] w (MkC W RC RT t E m n S g L 1 now d (fun c => .tuple #[.int .i64 (E.length : Int), .pointer (some ⟨c, 0, none⟩), .int .i64 0]) w) :=
  timer_any (with_ok (.inl rfl) h ⟨hd, fun e => absurd e (by decide)⟩ hm hE hn hl) fun e w' ⟨c, h1, _⟩ => ⟨_, _, _, h1⟩
theorem ticker_ok {now d : Int} (h : SS W RC RT t E m n S g L w) (hd : Fit now) (hd1 : 1 ≤ d) (hm : m < 64) (hE : E.length < 100000) (hn : n ≤ 1000000) (hl : S.length < 1000) :
    Calls Tryz.prog 11 #[pS t, .int .i64 now, .int .i64 d] w (MkC W RC RT t E m n S g L 2 now d (fun c => .tuple #[.int .i64 (E.length : Int), .pointer (some ⟨c, 0, none⟩), .int .i64 0]) w) :=
  ticker_any (with_ok (.inr rfl) h ⟨hd, fun _ => hd1⟩ hm hE hn hl) fun e w' ⟨c, h1, _⟩ => ⟨_, _, _, h1⟩
theorem timer_no {now d a : Int} (q : Option Addr) (w : World) (ha : a ≠ 0) (hs : Calls Tryz.prog 45 #[.pointer q, .int .i64 1, .int .i64 now, .int .i64 d, .int .i64 0] w fun e w' => e = .returned (.tuple #[.int .i64 0, .int .i64 a]) ∧ w = w') :
    Calls Tryz.prog 8 #[.pointer q, .int .i64 now, .int .i64 d] w fun e w' => e = .returned (.tuple #[.int .i64 0, .pointer none, .int .i64 a]) ∧ w = w' :=
  timer_any (with_no q w ha hs) fun e w' h => ⟨_, _, _, h.1⟩
theorem ticker_no {now d a : Int} (q : Option Addr) (w : World) (ha : a ≠ 0) (hs : Calls Tryz.prog 45 #[.pointer q, .int .i64 2, .int .i64 now, .int .i64 d, .int .i64 0] w fun e w' => e = .returned (.tuple #[.int .i64 0, .int .i64 a]) ∧ w = w') :
    Calls Tryz.prog 11 #[.pointer q, .int .i64 now, .int .i64 d] w fun e w' => e = .returned (.tuple #[.int .i64 0, .pointer none, .int .i64 a]) ∧ w = w' :=
  ticker_any (with_no q w ha hs) fun e w' h => ⟨_, _, _, h.1⟩
theorem func_ok {now d p : Int} (h : SS W RC RT t E m n S g L w) (hd : Fit now) (hp : 0 ≤ p) (hm : m < 64) (hE : E.length < 100000) (hn : n ≤ 1000000) (hl : S.length < 1000) :
    Calls Tryz.prog 12 #[pS t, .int .i64 now, .int .i64 d, .int .i64 p] w (MkF W RC RT t E m (m + 1) n S g L 3 (wn now d) p w) :=
  func_any (start_fn h ⟨hd, fun e => absurd e (by decide)⟩ hp hm hE hn hl) fun e w' h1 => ⟨_, _, h1.1⟩
theorem func_no {now d p a : Int} (q : Option Addr) (w : World) (hs : Calls Tryz.prog 45 #[.pointer q, .int .i64 3, .int .i64 now, .int .i64 d, .int .i64 p] w fun e w' => e = .returned (.tuple #[.int .i64 0, .int .i64 a]) ∧ w = w') :
    Calls Tryz.prog 12 #[.pointer q, .int .i64 now, .int .i64 d, .int .i64 p] w fun e w' => e = .returned (.tuple #[.int .i64 0, .int .i64 a]) ∧ w = w' :=
  func_any hs fun e w' h => ⟨_, _, h.1⟩
theorem lapse_no {wh p : Int} (q : Option Addr) (w : World) (hp : p < 0) : Calls Tryz.prog 14 #[.pointer q, .int .i64 wh, .int .i64 p] w fun e w' => e = .returned (.tuple #[.int .i64 0, .int .i64 1]) ∧ w = w' := by
  go_enter Tryz.func14, Tryz.ntmps14
  go_wp2_with fail
  go_ret2
  exact ⟨rfl, rfl⟩
theorem lapse_ok {wh p : Int} (h : SS W RC RT t E m n S g L w) (hp : 0 ≤ p) (hE : E.length < 100000) (hn : n ≤ 1000000) (hl : S.length < 1000) :
    Calls Tryz.prog 14 #[pS t, .int .i64 wh, .int .i64 p] w (MkF W RC RT t E m m n S g L 4 (hz wh) p w) := by
  have b0 : ¬ p < 0 := by omega
  have HF := Lib.hid (hz_fit wh)
  have hz0 := Lib.hid (show Fit 0 by decide)
  have HA := Lib.hid h
  have HN := Lib.hid (And.intro hE (And.intro hn hl))
  have F := hold0_any wh w
  clear h hE hn hl
  unfold MkF
  generalize hz wh = y at *
  go_enter Tryz.func14, Tryz.ntmps14
  go_wp2_with (go_at_call 49; (with_reducible refine F.mono ?_); rintro e w' ⟨rfl, rfl⟩)
  refine (add_set ⟨4, p, none, 0⟩ y 0 HA.out (by show (0 : Int) ≤ 0; decide) (by show (0 : Int) ≤ 1000000; decide) HF.out hz0.out HN.out.1 HN.out.2.1 HN.out.2.2).mono ?_
  rintro e w5 hz
  have HZ := Lib.hid hz
  obtain rfl := hz.1
  clear hz
  go_wp2_with fail
  go_ret2
  exact HZ.out.but
end
end Go.Proofs.YtmadcnpkaijllaaGreat
