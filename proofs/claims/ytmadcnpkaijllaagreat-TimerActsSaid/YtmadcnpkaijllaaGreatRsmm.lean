/- What the document's own set answers: late, Add, in, Kind, Gen, Chan, arm. Conditions: each theorem's own premises.
The document's own set: make, with, Timer, Ticker, Func, Lapse. Conditions: each theorem's own premises.
The document's own set: what make refuses, Func's and Lapse's. Conditions: each theorem's own premises. -/
import Derived.Test.YtmadcnpkaijllaaGreatSopm
import Derived.Test.YtmadcnpkaijllaaGreatSmk
namespace Go.Proofs.YtmadcnpkaijllaaGreat
open Go.RowKit Ch
set_option linter.unusedVariables false
set_option maxRecDepth 100000
theorem rheld_any (x : Int) (w : World) : Calls Tryz.prog 67 #[.int .i64 x] w fun e w' => e = .returned (.int .i64 (hd x)) ∧ w = w' := by
  go_enter Tryz.func67, Tryz.ntmps67
  go_wp2
  all_goals (go_ret; exact ⟨ret_int (by unfold hd; omega), rfl⟩)
theorem radd_any (t d : Int) (w : World) : Calls Tryz.prog 30 #[.int .i64 t, .int .i64 d] w fun e w' => e = .returned (.int .i64 (ad t d)) ∧ w = w' := by
  have h1 := hd_lo t
  have h2 := hd_hi t
  have h3 := hd_lo d
  have h4 := hd_hi d
  go_enter Tryz.func30, Tryz.ntmps30
  go_wp2_with (go_at_call 67; refine (rheld_any _ _).mono ?_; rintro e w' ⟨rfl, rfl⟩)
  all_goals (go_ret; exact ⟨ret_int (by rw [ad_eq]; omega), rfl⟩)
theorem rlate_any (x : Int) (w : World) : Calls Tryz.prog 57 #[.int .i64 x] w fun e w' => e = .returned (.int .i64 (hz x)) ∧ w = w' := by
  go_enter Tryz.func57, Tryz.ntmps57
  go_wp2
  all_goals (go_ret; exact ⟨ret_int (by unfold hz; omega), rfl⟩)
abbrev pM (m : Nat) : Value := .pointer (some ⟨m, 0, none⟩)
/-- Nothing but the document's own has turned. -/
def RY (w w' : World) : Prop := w.heap.size ≤ w'.heap.size ∧ ∀ (k : Nat) (o : Obj), w.heap[k]? = some o → (∀ cs fr, o ≠ .cells cs 35 fr ∧ o ≠ .cells cs 94 fr ∧ o ≠ .cells cs 122 fr ∧ o ≠ .cells cs 134 fr) → w'.heap[k]? = some o
theorem RX.ry {w w' : World} (h : RX w w') : RY w w' := ⟨h.1, fun k o e h2 => h.2 k o e fun cs fr => ⟨(h2 cs fr).1, (h2 cs fr).2.1, (h2 cs fr).2.2.1⟩⟩
theorem RY.trans {u v w : World} (h : RY u v) (k : RY v w) : RY u w := ⟨Nat.le_trans h.1 k.1, fun i o h1 h2 => k.2 i o (h.2 i o h1 h2) h2⟩
theorem RY.at {w w' : World} (h : RY w w') {k : Nat} {cs : Array Value} {ty : TypeId} {fr : Nat × Nat} (hk : w.heap[k]? = some (.cells cs ty fr)) (ht : ty ≠ 35 ∧ ty ≠ 94 ∧ ty ≠ 122 ∧ ty ≠ 134) : w'.heap[k]? = some (.cells cs ty fr) :=
  h.2 k _ hk fun cs' fr' => ⟨fun e => (by injection e with _ e _; exact ht.1 e), fun e => (by injection e with _ e _; exact ht.2.1 e), fun e => (by injection e with _ e _; exact ht.2.2.1 e), fun e => (by injection e with _ e _; exact ht.2.2.2 e)⟩
/-- One of the document's own channels has turned. -/
theorem RY.tn {w w' : World} {m : Nat} (h : Tn (fun k => k = m) w w') (hm : ∃ cs, w.heap[m]? = some (.cells cs 134 (0, 0))) : RY w w' :=
  ⟨h.size, fun k o h1 h2 => (h.block k (lt_of_blk h1) (by
    rintro rfl
    obtain ⟨cs, h3⟩ := hm
    rw [h1] at h3; injection h3 with h3
    exact (h2 _ _).2.2.2 h3)).trans h1⟩
section
variable {RC : List Nat} {RT : List CS} {W w w' w'' w1 : World} {t mo m n n' i j c k : Nat} {E E' : List On} {S S' : List It} {g g' : Int → Int} {L L' : List (Nat × CS)} {v : Value} {e : Ending} {x : On} {s s' : CS}
theorem Ch.MS.rx (h : MS W RC RT L w) (k : Go.Proofs.YtmadcnpkaijllaaGreat.RX w w') (hb : Below W.heap.size w w') : MS W RC RT L w' :=
  h.tg ⟨k.1, fun b cs ty fr e1 e2 => k.at e1 (by rcases e2 with rfl | rfl | rfl | rfl | rfl | rfl <;> decide)⟩ (h.bel.trans hb)
/-- What is the program's beside its channels. -/
theorem SS.ry (h : SS W RC RT t E m n S g L w) (k : RY w w') {RC' : List Nat} {RT' : List CS} (hm : MS W RC' RT' L' w') : SS W RC' RT' t E m n S g L' w' := by
  obtain ⟨h0, P, c, h1, h2⟩ := h
  refine ⟨hm, P, c, h1.keep fun j hj hi => ?_, row_keep h2 fun q hq => ?_⟩
  · rcases hi with ⟨cs, ty, fr, e1, e2⟩ | ⟨es, cl, e1⟩
    · rw [e1]; exact k.at e1 (by rcases e2 with rfl | rfl | rfl <;> decide)
    · rw [e1]
      exact k.2 j _ e1 fun cs fr => ⟨fun e => (by cases e), fun e => (by cases e), fun e => (by cases e), fun e => (by cases e)⟩
  · obtain ⟨cs, fr, e1⟩ := row_tag h2 hq
    rw [e1]; exact k.at e1 (by decide)
/-- The document's set stands behind a call of one of its channels. -/
theorem RS.tn (h : RS W mo E m n S g w) (hn : Tn (fun k => k = c) w w') (hc : ∃ cs, w.heap[c]? = some (.cells cs 134 (0, 0))) : RS W mo E m n S g w' := by
  obtain ⟨ds, hc⟩ := hc
  have key : ∀ (k : Nat) (cs : Array Value) (ty : TypeId) (fr : Nat × Nat), w.heap[k]? = some (.cells cs ty fr) → ty ≠ 134 → w'.heap[k]? = some (.cells cs ty fr) := fun k cs ty fr e1 e2 => (hn.block k (lt_of_blk e1) (by
    rintro rfl
    rw [hc] at e1; injection e1 with e1; injection e1 with _ e1 _; exact e2 e1.symm)).trans e1
  obtain ⟨p, P, c', h1, h2⟩ := h
  exact ⟨p, P, c', h1.rf fun k cs ty fr e1 e2 => key k cs ty fr e1 (by rcases e2 with rfl | rfl <;> decide), row_keep h2 fun q hq => by
    obtain ⟨cs, fr, e1⟩ := row_tag h2 hq
    rw [e1]; exact key q cs 122 fr e1 (by decide)⟩
theorem rin_yes (h : RS W mo E m n S g w) (hi : i < E.length) : Calls Tryz.prog 58 #[pM mo, .int .i64 (i : Int)] w fun e w' => e = .returned (.bool true) ∧ w = w' := by
  obtain ⟨P, cc, c3, -, -, -, -⟩ := h.cells
  have b1 : 0 ≤ (i : Int) := by omega
  have b2 : (i : Int) < (E.length : Int) := by omega
  clear h hi
  go_enter Tryz.func58, Tryz.ntmps58
  go_wp2_with fail
  go_ret
  exact ⟨rfl, rfl⟩
theorem rin_no {k : Int} (h : RS W mo E m n S g w) (hi : k < 0 ∨ (E.length : Int) ≤ k) : Calls Tryz.prog 58 #[pM mo, .int .i64 k] w fun e w' => e = .returned (.bool false) ∧ w = w' := by
  obtain ⟨P, cc, c3, -, -, -, -⟩ := h.cells
  by_cases b1 : 0 ≤ k
  · have b2 : ¬ k < (E.length : Int) := by omega
    clear h hi
    go_enter Tryz.func58, Tryz.ntmps58
    go_wp2_with fail
    go_ret
    exact ⟨rfl, rfl⟩
  · clear h hi
    go_enter Tryz.func58, Tryz.ntmps58
    go_wp2_with fail
    go_ret
    exact ⟨rfl, rfl⟩
theorem rkind_any (k : Int) (h : RS W mo E m n S g w) : Calls Tryz.prog 36 #[pM mo, .int .i64 k] w fun e w' => e = .returned (.int .i64 (eA E k).kd) ∧ w = w' := by
  by_cases hk : k < 0 ∨ (E.length : Int) ≤ k
  · rw [eA_no hk]
    have F := rin_no h hk
    simp only [zO]
    clear h hk
    go_enter Tryz.func36, Tryz.ntmps36
    go_wp2_with fail
    refine F.mono ?_
    rintro e w' ⟨rfl, rfl⟩
    go_wp2_with fail
    go_ret
    exact ⟨rfl, rfl⟩
  · obtain ⟨i, rfl⟩ : ∃ i : Nat, k = (i : Int) := ⟨k.toNat, by omega⟩
    have hi : i < E.length := by omega
    have hx : E[i]? = some E[i] := List.getElem?_eq_getElem hi
    rw [eA_at hx]
    generalize E[i] = x at hx
    have F := rin_yes h hi
    obtain ⟨P, cc, c3, -, -, -, hr⟩ := h.cells
    obtain ⟨q, rfl, hq, ⟨x0, x1, x2, x3⟩, -, -⟩ := hr i x hx
    have b1 : 0 ≤ (i : Int) := by omega
    have b2 : (i : Int) < (E.length : Int) := by omega
    clear h hk hr hx x1 x2 x3
    go_enter Tryz.func36, Tryz.ntmps36
    go_wp2_with fail
    refine F.mono ?_
    rintro e w' ⟨rfl, rfl⟩
    go_wp2_with fail
    go_ret
    exact ⟨rfl, rfl⟩
theorem rgen_any (k : Int) (h : RS W mo E m n S g w) : Calls Tryz.prog 37 #[pM mo, .int .i64 k] w fun e w' => e = .returned (.int .i64 (eA E k).gn) ∧ w = w' := by
  by_cases hk : k < 0 ∨ (E.length : Int) ≤ k
  · rw [eA_no hk]
    have F := rin_no h hk
    simp only [zO]
    clear h hk
    go_enter Tryz.func37, Tryz.ntmps37
    go_wp2_with fail
    refine F.mono ?_
    rintro e w' ⟨rfl, rfl⟩
    go_wp2_with fail
    go_ret
    exact ⟨rfl, rfl⟩
  · obtain ⟨i, rfl⟩ : ∃ i : Nat, k = (i : Int) := ⟨k.toNat, by omega⟩
    have hi : i < E.length := by omega
    have hx : E[i]? = some E[i] := List.getElem?_eq_getElem hi
    rw [eA_at hx]
    generalize E[i] = x at hx
    have F := rin_yes h hi
    obtain ⟨P, cc, c3, -, -, -, hr⟩ := h.cells
    obtain ⟨q, rfl, hq, ⟨x0, x1, x2, x3⟩, -, -⟩ := hr i x hx
    have b1 : 0 ≤ (i : Int) := by omega
    have b2 : (i : Int) < (E.length : Int) := by omega
    clear h hk hr hx x1 x2 x0
    go_enter Tryz.func37, Tryz.ntmps37
    go_wp2_with fail
    refine F.mono ?_
    rintro e w' ⟨rfl, rfl⟩
    go_wp2_with fail
    go_ret
    exact ⟨rfl, rfl⟩
theorem rchan_any (k : Int) (h : RS W mo E m n S g w) : Calls Tryz.prog 27 #[pM mo, .int .i64 k] w fun e w' => e = .returned (.pointer (cp (eA E k).ch)) ∧ w = w' := by
  by_cases hk : k < 0 ∨ (E.length : Int) ≤ k
  · rw [eA_no hk]
    have F := rin_no h hk
    simp only [zO, cp, Option.map_none]
    clear h hk
    go_enter Tryz.func27, Tryz.ntmps27
    go_wp2_with fail
    refine F.mono ?_
    rintro e w' ⟨rfl, rfl⟩
    go_wp2_with fail
    go_ret
    exact ⟨rfl, rfl⟩
  · obtain ⟨i, rfl⟩ : ∃ i : Nat, k = (i : Int) := ⟨k.toNat, by omega⟩
    have hi : i < E.length := by omega
    have hx : E[i]? = some E[i] := List.getElem?_eq_getElem hi
    rw [eA_at hx]
    generalize E[i] = x at hx
    have F := rin_yes h hi
    obtain ⟨P, cc, c3, -, -, -, hr⟩ := h.cells
    obtain ⟨q, rfl, hq, ⟨x0, x1, x2, x3⟩, -, -⟩ := hr i x hx
    have b1 : 0 ≤ (i : Int) := by omega
    have b2 : (i : Int) < (E.length : Int) := by omega
    clear h hk hr hx x1 x3 x0
    go_enter Tryz.func27, Tryz.ntmps27
    go_wp2_with fail
    refine F.mono ?_
    rintro e w' ⟨rfl, rfl⟩
    go_wp2_with fail
    go_ret
    exact ⟨rfl, rfl⟩
/-! Its timers. -/
theorem rs_tarm (k y z : Int) (h : RS W mo E m n S g w) (hS : Ok n S) (hy : Fit y) (hz : Fit z) (hn : n ≤ 1000000) (hl : S.length ≤ 999) : Calls Tryz.prog 56 #[pM mo, .int .i64 k, .int .i64 y, .int .i64 z] w (RZ W mo E m (n + 1) (ins ⟨k, y, (n : Int) + 1⟩ (del k S)) (fput g k z) (.int .i64 0) w) :=
  h.tim fun rA rN p hm => rarm_any k y z hm hS hy hz hn hl h.hB
theorem rs_tstop (k : Int) (h : RS W mo E m n S g w) (hS : Ok n S) (hg : k ∉ ids S → g k = 0) (hl : S.length ≤ 1000) : Calls Tryz.prog 59 #[pM mo, .int .i64 k] w (RZ W mo E m n (del k S) (fput g k 0) (.bool (decide (k ∈ ids S))) w) := by
  by_cases hm : k ∈ ids S
  · obtain ⟨q, x, hx, rfl⟩ := ids_mem hm
    rw [decide_eq_true hm]
    exact h.tim fun rA rN p h1 => rstop_yes h1 hS (List.mem_of_getElem? hx) hl h.hB
  · rw [decide_eq_false hm, del_none hm]
    have e : fput g k 0 = g := by
      funext y; unfold fput; split
      · rename_i e; rw [e, hg hm]
      · rfl
    rw [e]
    exact h.tim fun rA rN p h1 => rstop_no h1 hS hm hl
set_option maxHeartbeats 8000000 in
theorem rarm_set (now d : Int) (h : RS W mo E m n S g w) (hx : E[i]? = some x) (hS : Ok n S) (hf : Fit now) (hn : n ≤ 1000000) (hl : S.length ≤ 999) :
    Calls Tryz.prog 61 #[pM mo, .int .i64 (i : Int), .int .i64 now, .int .i64 d] w (RZ W mo E m (n + 1) (ins ⟨i, wn now d, (n : Int) + 1⟩ (del i S)) (fput g i (per x.kd d)) (.tuple #[]) w) := by
  have hlt := (List.getElem?_eq_some_iff.1 hx).1
  have b1 : (0 : Int) ≤ (i : Int) := by omega
  have b2 : (i : Int) < (E.length : Int) := by omega
  obtain ⟨P, cc, c3, -, -, -, hr⟩ := h.cells
  obtain ⟨q, rfl, hq, ⟨x0, x1, x2, x3⟩, -, -⟩ := hr i x hx
  have HC := fun w1 (hh : RS W mo E m n S g w1) z (hz : Fit z) => rs_tarm i (wn now d) z hh hS (wn_fit d hf) hz hn hl
  have HA := Lib.hid h
  have F1 := fun w => rlate_any d w
  have F2 := fun w => radd_any now (hz d) w
  have ew : wn now d = ad now (hz d) := rfl
  rw [← ew] at F2
  have hp1 : x.kd = 2 → per x.kd d = hz d := fun e => by unfold per; rw [if_pos e]
  have hp2 : x.kd ≠ 2 → per x.kd d = 0 := fun e => by unfold per; rw [if_neg e]
  have hfz := hz_fit d
  clear h hx hr x1 x2 x3 ew hlt
  generalize wn now d = y at *
  by_cases hk : x.kd = 2
  · rw [hp1 hk]
    have hk2 : (x.kd == 2) = true := by simp [hk]
    clear hk hp1 hp2
    generalize hz d = z at *
    have HA2 := Lib.hid (HA.out.later ((Below.refl w.heap.size w).drew))
    have HC3 := fun w1 hh => HC w1 hh z hfz
    clear HC
    go_enter Tryz.func61, Tryz.ntmps61
    go_wp2_with (go_at_call 57; (with_reducible refine (F1 _).mono ?_); rintro e w' ⟨rfl, rfl⟩)
    go_region_with (first
      | (go_at_call 57; go_loud ((with_reducible refine (F1 _).mono ?_); rintro e w' ⟨rfl, rfl⟩))
      | (go_at_call 30; go_loud ((with_reducible refine (F2 _).mono ?_); rintro e w' ⟨rfl, rfl⟩))
      | (go_at_call 56; go_loud ((with_reducible refine (HC3 _ HA2.out).mono ?_); rintro e w' hz; have HZ := Lib.hid (RZ.from HA.out.hB ((Below.refl w.heap.size w).drew) hz); obtain rfl := hz.1; clear hz)))
    go_wp2_with fail
    go_end0
    exact HZ.out.but
  · rw [hp2 hk]
    have hk2 : (x.kd == 2) = false := by simpa using hk
    have HA2 := Lib.hid (HA.out.later ((Below.refl w.heap.size w).drew))
    have HC3 := fun w1 hh => HC w1 hh 0 (by decide)
    clear hk hp1 hp2 HC hfz
    generalize hz d = z at *
    go_enter Tryz.func61, Tryz.ntmps61
    go_wp2_with fail
    go_region_with (first
      | (go_at_call 57; go_loud ((with_reducible refine (F1 _).mono ?_); rintro e w' ⟨rfl, rfl⟩))
      | (go_at_call 30; go_loud ((with_reducible refine (F2 _).mono ?_); rintro e w' ⟨rfl, rfl⟩))
      | (go_at_call 56; go_loud ((with_reducible refine (HC3 _ HA2.out).mono ?_); rintro e w' hz; have HZ := Lib.hid (RZ.from HA.out.hB ((Below.refl w.heap.size w).drew) hz); obtain rfl := hz.1; clear hz)))
    go_wp2_with fail
    go_end0
    exact HZ.out.but
end
end Go.Proofs.YtmadcnpkaijllaaGreat
namespace Go.Proofs.YtmadcnpkaijllaaGreat
open Go.RowKit Ch
set_option linter.unusedVariables false
set_option maxRecDepth 100000
theorem RX.set {w : World} {b : Nat} {cs : Array Value} {fr : Nat × Nat} (hb : w.heap[b]? = some (.cells cs 122 fr)) (k : Nat) (u : Value) : Go.Proofs.YtmadcnpkaijllaaGreat.RX w (w.setCell ⟨b, k, none⟩ u) :=
  ⟨by simp [World.setCell], fun q o e1 e2 => (Below.heap_setCell _ _ _ _ (show q ≠ b by
    rintro rfl
    rw [hb] at e1; injection e1 with e1
    exact (e2 cs fr).2.2 e1.symm)).trans e1⟩
theorem below_one {w wx : World} {o1 : Obj} (hh : wx.heap = (w.alloc o1).heap) (h1 : wx.os = w.os) (h2 : wx.tape = w.tape) (h3 : wx.output = w.output) : Below w.heap.size w wx :=
  ⟨h1, h2, h3, by rw [hh]; simp, fun k hk => by rw [hh]; exact Below.heap_alloc _ _ k hk⟩
theorem news_one {w wx : World} {cs : Array Value} {t : TypeId} (hh : wx.heap = (w.alloc (.cells cs t)).heap) : wx.heap[w.heap.size]? = some (.cells cs t (0, 0)) := by
  rw [hh]; exact heap_alloc_new w _
theorem snoc_get (E : List On) (x : On) : (E ++ [x])[E.length]? = some x := by simp
theorem infR : (Tryz.prog.info? 122).map (fun i => (i.zero, i.size, i.bytes)) = some (some (.agg #[.int .i64 0, .int .i64 0, .pointer none, .int .i64 0]), 4, 32) := by kernel_rfl
section
variable {RC : List Nat} {RT : List CS} {W w w' w'' w1 : World} {t mo m n n' i j c k : Nat} {E E' : List On} {S S' : List It} {g g' : Int → Int} {L L' : List (Nat × CS)} {v : Value} {e : Ending} {x : On} {s s' : CS}
/-- A channel's block and a local one of the call's own. -/
abbrev chO : Obj := .cells (mB ⟨1, false, 1, [], [], []⟩ (.slice none 0 0) (.slice none 0 0) (.slice none 0 0)) 134
abbrev onO (kd p : Int) (q : Option Nat) : Obj := .cells #[.int .i64 kd, .int .i64 p, .pointer (cp q), .int .i64 1] 122
theorem rs_new (kd p : Int) (h : RS W mo E m n S g w) (hm : MS W RC RT L w) :
    RS W mo E m n S g ((w.alloc (onO kd p (some (w.heap.size + 1)))).alloc chO) ∧ MS W (RC ++ [w.heap.size + 1]) (RT ++ [cN]) L ((w.alloc (onO kd p (some (w.heap.size + 1)))).alloc chO) ∧ Go.Proofs.YtmadcnpkaijllaaGreat.RX w ((w.alloc (onO kd p (some (w.heap.size + 1)))).alloc chO) ∧
    ((w.alloc (onO kd p (some (w.heap.size + 1)))).alloc chO).heap[w.heap.size]? = some (onO kd p (some (w.heap.size + 1))) ∧
    ((w.alloc (onO kd p none)).alloc chO).cell? ⟨w.heap.size, 2, none⟩ = some (.pointer none) ∧ ((w.alloc (onO kd p none)).alloc chO).frozen? ⟨w.heap.size, 2, none⟩ = false := by
  have hsz : ∀ o, (w.alloc o).heap.size = w.heap.size + 1 := fun o => World.size_alloc _ _
  have hb2 : ∀ q, ((w.alloc (onO kd p q)).alloc chO).heap[w.heap.size]? = some (onO kd p q) := fun q => (Below.heap_alloc _ _ _ (by rw [hsz]; omega)).trans (heap_alloc_new w _)
  have B1 : Below w.heap.size w ((w.alloc (onO kd p (some (w.heap.size + 1)))).alloc chO) := (below_al w _).trans ((below_al _ chO).mono (by rw [hsz]; omega))
  have M1 := (hm.alloc (onO kd p (some (w.heap.size + 1)))).addM (t := cN) (w' := (w.alloc (onO kd p (some (w.heap.size + 1)))).alloc chO) (fun ok hn => md_new _ ok cN rfl rfl rfl hn) (below_al _ _)
  rw [hsz] at M1
  refine ⟨h.later B1, M1, RX.of_below B1, hb2 _, ?_, frozen_of_row _ _ 2 _ _ (hb2 none)⟩
  rw [cell_of_row _ _ 2 _ _ _ (hb2 none)]; rfl
/-- What make answers for a kind with a channel. -/
def RkC (W : World) (RC : List Nat) (RT : List CS) (mo : Nat) (E : List On) (m n : Nat) (S : List It) (g : Int → Int) (L : List (Nat × CS)) (kd now d : Int) (a : Nat → Value) (w : World) (e : Ending) (w' : World) : Prop :=
  ∃ c, e = .returned (a c) ∧ RS W mo (E ++ [⟨kd, 0, some c, 1⟩]) (m + 1) (n + 1) (ins ⟨(E.length : Int), wn now d, (n : Int) + 1⟩ (del (E.length : Int) S)) (fput g (E.length : Int) (per kd d)) w' ∧ MS W (RC ++ [c]) (RT ++ [cN]) L w' ∧ RY w w'
set_option maxHeartbeats 8000000 in
theorem rmake_ch {kd now d : Int} (hkd : kd = 1 ∨ kd = 2) (h : RS W mo E m n S g w) (hms : MS W RC RT L w) (hd : DueOk kd now d) (hS : Ok n S) (hm : m < 64) (hE : E.length < 100000) (hn : n ≤ 1000000) (hl : S.length ≤ 999) :
    Calls Tryz.prog 55 #[pM mo, .int .i64 kd, .int .i64 now, .int .i64 d, .int .i64 0] w (RkC W RC RT mo E m n S g L kd now d (fun _ => .tuple #[.int .i64 (E.length : Int), .int .i64 0]) w) := by
  obtain ⟨i0, hi, hz0, hz1, hz2⟩ := info_parts infR
  have a0 : ¬ now < 0 := by have := hd.1.1; omega
  have a1 : ¬ 4611686018427387904 < now := by have := hd.1.2; omega
  have a2 : kd = 2 → ¬ d < 1 := fun e => by have := hd.2 e; omega
  have hfit := hd.1
  obtain ⟨P0, cc0, -, c4, -, f4, -⟩ := h.cells
  have b1 : ¬ (64 : Int) ≤ (m : Int) := by omega
  have b2 : IntKind.i64.wrap ((m : Int) + 1) = ((m + 1 : Nat) : Int) := by rw [IntKind.wrap_i64]; omega
  have b4 : IntKind.i64.wrap (((E.length + 1 : Nat) : Int) - 1) = (E.length : Int) := by rw [IntKind.wrap_i64]; omega
  have b6 : IntKind.i64.wrap ((E.length : Int) + 1 - 1) = (E.length : Int) := by rw [IntKind.wrap_i64]; omega
  have b3 : (0 : Int) ≤ (E.length : Int) := by omega
  have b5 : (E.length : Int) ≤ 100000 := by omega
  have hlm := h.lim (m + 1)
  have e1 : ((m + 1 : Nat) : Int) = (m : Int) + 1 := by omega
  rw [e1] at hlm b2
  have HN := Lib.hid (And.intro hE (And.intro hn (And.intro hl (And.intro hS hfit))))
  have hB := hlm.1.hB
  have H2 := rs_new kd 0 hlm.1 (hms.rx hlm.2.1 hlm.2.2)
  dsimp only [onO, chO, cp, Option.map_some, Option.map_none] at H2
  have hsw : (w.setCell ⟨mo, 4, none⟩ (.int .i64 ((m : Int) + 1))).heap.size = w.heap.size := by simp [World.setCell]
  rw [hsw] at H2
  replace H2 := Lib.hid H2
  have HX0 := Lib.hid (And.intro hlm.2.1 hlm.2.2)
  clear h hms hE hn hl hm hS hlm hfit hd e1
  unfold RkC
  have hbs := HX0.out.1.1
  rcases hkd with rfl | rfl
  all_goals
    go_enter Tryz.func55, Tryz.ntmps55
    go_wp2_with fail
    generalize w.setCell ⟨mo, 4, none⟩ (.int .i64 ((m : Int) + 1)) = wl at *
    refine (newtimed_any _).mono ?_
    rintro e w2 ⟨rfl, rfl⟩
    obtain ⟨h3, h4, h5, h7, h8, h9⟩ := H2.out
    rw [World.size_alloc, hsw]
    have H3 := Lib.hid h3
    have H4 := Lib.hid h4
    have H5 := Lib.hid (HX0.out.1.trans h5)
    have H7 := Lib.hid h7
    clear h3 h4 h5 h7 H2
    go_upto_region 9 with (fail)
    generalize (World.alloc (World.alloc wl (.cells #[_, _, .pointer (some ⟨w.heap.size + 1, 0, none⟩), _] 122)) _) = w3 at *
    have hb1 := lt_of_blk H7.out
    have hm3 := H3.out.lt
    have hla : mo ≠ w3.heap.size := by omega
    have hlb : w.heap.size ≠ w3.heap.size := by omega
    obtain ⟨P, cc, c3, -, f3, -, -⟩ := H3.out.cells
    have HC := Lib.hid c3
    have r0 := cell_of_row w3 w.heap.size 0 _ _ _ H7.out
    have r1 := cell_of_row w3 w.heap.size 1 _ _ _ H7.out
    have r2 := cell_of_row w3 w.heap.size 2 _ _ _ H7.out
    have r3 := cell_of_row w3 w.heap.size 3 _ _ _ H7.out
    simp only [List.getElem?_toArray, List.getElem?_cons_zero, List.getElem?_cons_succ] at r0 r1 r2 r3
    clear h8 h9 c4 f4
    go_region_law (go_loud (refine step_append_lies _ (by rfl) _ _ _ (by rfl) W.heap.size 122 i0 (.agg #[.int .i64 0, .int .i64 0, .pointer none, .int .i64 0]) 4 32 Tryz.underlying33 hi hz0 hz1 hz2 rfl (by omega) (.slice P E.length cc) E.length (oV E) (by rfl) (row_later (H3.out.own HC.out) (below_one rfl rfl rfl rfl)) ⟨w3.heap.size, 0, none⟩ 1 1 (oE ⟨_, 0, some (w.heap.size + 1), 1⟩) (by rfl) (by rfl) (World.news_of_block (cs := #[.int .i64 _, .int .i64 0, .pointer (some ⟨w.heap.size + 1, 0, none⟩), .int .i64 1]) (t := 122) (fr := (0, 0)) (news_one (w := w3) (by rfl))) (oE_one ⟨_, 0, some (w.heap.size + 1), 1⟩) (by omega) (by unfold maxLen; omega) (by omega) (by simp; omega) (w3.heap.size + 1) (by simp) ?_; intro q cap w1 hown hgrow hat hlt1; have HM := H3.out.mid HC.out (by exact below_one rfl rfl rfl rfl) hgrow; have HE := Lib.hid (H3.out.added HC.out (by exact below_one rfl rfl rfl rfl) hown hgrow (hat.imp id (by omega))); have hc1 := HM.1; have hf1 := HM.2; clear HM hown hgrow hat hlt1 c3 f3))
    all_goals
      clear r0 r1 r2 r3 HC hla hlb hb1 hm3
      go_wp2_with fail
      refine (rarm_set (i := E.length) now d HE.out.1 (snoc_get E _) HN.out.2.2.2.1 HN.out.2.2.2.2 HN.out.2.1 HN.out.2.2.1).mono ?_
      rintro e w6 hz
      have HZ := Lib.hid hz
      obtain rfl := hz.1
      clear hz
      go_wp2_with fail
      go_ret2
      exact ⟨w.heap.size + 1, rfl, HZ.out.2.1, H4.out.rx (HE.out.2.1.trans HZ.out.2.2.1) (HE.out.2.2.trans HZ.out.2.2.2), (H5.out.trans (HE.out.2.1.trans HZ.out.2.2.1)).ry⟩
end
end Go.Proofs.YtmadcnpkaijllaaGreat
namespace Go.Proofs.YtmadcnpkaijllaaGreat
open Go.RowKit Ch
set_option linter.unusedVariables false
set_option maxRecDepth 100000
section
variable {RC : List Nat} {RT : List CS} {W w w' w'' w1 : World} {t mo m n n' i j c k : Nat} {E E' : List On} {S S' : List It} {g g' : Int → Int} {L L' : List (Nat × CS)} {v : Value} {e : Ending} {x : On} {s s' : CS}
theorem rmake_bad {kd now d p : Int} (q : Option Addr) (w : World) (hd : ¬ (DueOk kd now d ∧ 0 ≤ p)) : Calls Tryz.prog 55 #[.pointer q, .int .i64 kd, .int .i64 now, .int .i64 d, .int .i64 p] w fun e w' => e = .returned (.tuple #[.int .i64 0, .int .i64 1]) ∧ w = w' := by
  by_cases b0 : now < 0
  · clear hd
    go_enter Tryz.func55, Tryz.ntmps55
    go_wp2_with fail
    go_ret2
    exact ⟨rfl, rfl⟩
  by_cases b1 : 4611686018427387904 < now
  · clear hd
    go_enter Tryz.func55, Tryz.ntmps55
    go_wp2_with fail
    go_ret2
    exact ⟨rfl, rfl⟩
  by_cases b2 : p < 0
  · clear hd
    go_enter Tryz.func55, Tryz.ntmps55
    go_wp2_with fail
    go_ret2
    exact ⟨rfl, rfl⟩
  have hk : kd = 2 ∧ d < 1 := by
    unfold DueOk Fit at hd
    by_cases hk : kd = 2
    · refine ⟨hk, ?_⟩
      apply Classical.byContradiction
      intro h9
      exact hd ⟨⟨by omega, fun _ => by omega⟩, by omega⟩
    · exact absurd ⟨⟨by omega, fun e => absurd e hk⟩, by omega⟩ hd
  obtain ⟨rfl, b3⟩ := hk
  clear hd
  go_enter Tryz.func55, Tryz.ntmps55
  go_wp2_with fail
  go_ret2
  exact ⟨rfl, rfl⟩
theorem rmake_full {kd now d p : Int} (hkd : kd = 1 ∨ kd = 2 ∨ kd = 3) (h : RS W mo E 64 n S g w) (hd : DueOk kd now d) (hp : 0 ≤ p) : Calls Tryz.prog 55 #[pM mo, .int .i64 kd, .int .i64 now, .int .i64 d, .int .i64 p] w fun e w' => e = .returned (.tuple #[.int .i64 0, .int .i64 3]) ∧ w = w' := by
  have a0 : ¬ now < 0 := by have := hd.1.1; omega
  have a1 : ¬ 4611686018427387904 < now := by have := hd.1.2; omega
  have a2 : kd = 2 → ¬ d < 1 := fun e => by have := hd.2 e; omega
  have a3 : ¬ p < 0 := by omega
  obtain ⟨P0, cc0, -, c4, -, f4, -⟩ := h.cells
  have b1 : ((64 : Nat) : Int) = 64 := rfl
  rw [b1] at c4
  clear h hd b1
  rcases hkd with rfl | rfl | rfl
  · clear a2
    go_enter Tryz.func55, Tryz.ntmps55
    go_wp2_with fail
    go_ret2
    exact ⟨rfl, rfl⟩
  · have a4 := a2 rfl
    clear a2
    go_enter Tryz.func55, Tryz.ntmps55
    go_wp2_with fail
    go_ret2
    exact ⟨rfl, rfl⟩
  · clear a2
    go_enter Tryz.func55, Tryz.ntmps55
    go_wp2_with fail
    go_ret2
    exact ⟨rfl, rfl⟩
/-- What Func and Lapse make. -/
def RkF (W : World) (mo : Nat) (E : List On) (m m' n : Nat) (S : List It) (g : Int → Int) (kd wh p : Int) (w : World) (e : Ending) (w' : World) : Prop :=
  RZ W mo (E ++ [⟨kd, p, none, 1⟩]) m' (n + 1) (ins ⟨(E.length : Int), wh, (n : Int) + 1⟩ (del (E.length : Int) S)) (fput g (E.length : Int) 0) (.tuple #[.int .i64 (E.length : Int), .int .i64 0]) w e w'
set_option maxHeartbeats 8000000 in
theorem rmake_fn {now d p : Int} (h : RS W mo E m n S g w) (hd : Fit now) (hp : 0 ≤ p) (hS : Ok n S) (hm : m < 64) (hE : E.length < 100000) (hn : n ≤ 1000000) (hl : S.length ≤ 999) :
    Calls Tryz.prog 55 #[pM mo, .int .i64 3, .int .i64 now, .int .i64 d, .int .i64 p] w (RkF W mo E m (m + 1) n S g 3 (wn now d) p w) := by
  obtain ⟨i0, hi, hz0, hz1, hz2⟩ := info_parts infR
  have a0 : ¬ now < 0 := by have := hd.1; omega
  have a1 : ¬ 4611686018427387904 < now := by have := hd.2; omega
  have a3 : ¬ p < 0 := by omega
  obtain ⟨P0, cc0, -, c4, -, f4, -⟩ := h.cells
  have b1 : ¬ (64 : Int) ≤ (m : Int) := by omega
  have b2 : IntKind.i64.wrap ((m : Int) + 1) = (m : Int) + 1 := by rw [IntKind.wrap_i64]; omega
  have b4 : IntKind.i64.wrap (((E.length + 1 : Nat) : Int) - 1) = (E.length : Int) := by rw [IntKind.wrap_i64]; omega
  have b6 : IntKind.i64.wrap ((E.length : Int) + 1 - 1) = (E.length : Int) := by rw [IntKind.wrap_i64]; omega
  have b3 : (0 : Int) ≤ (E.length : Int) := by omega
  have b5 : (E.length : Int) ≤ 100000 := by omega
  have hlm := h.lim (m + 1)
  have e1 : ((m + 1 : Nat) : Int) = (m : Int) + 1 := by omega
  rw [e1] at hlm
  have HN := Lib.hid (And.intro hE (And.intro hn (And.intro hl (And.intro hS hd))))
  have hB := hlm.1.hB
  have hB0 := h.hB
  have H3 := Lib.hid (hlm.1.box (onO 3 p none))
  have H5 : Hid (Go.Proofs.YtmadcnpkaijllaaGreat.RX w ((w.setCell ⟨mo, 4, none⟩ (.int .i64 ((m : Int) + 1))).alloc (onO 3 p none))) := hlm.2.1.trans (RX.of_below (below_al _ _))
  have H6 : Hid (Below W.heap.size w ((w.setCell ⟨mo, 4, none⟩ (.int .i64 ((m : Int) + 1))).alloc (onO 3 p none))) := hlm.2.2.trans ((below_al _ _).mono hB)
  have H7 : Hid (((w.setCell ⟨mo, 4, none⟩ (.int .i64 ((m : Int) + 1))).alloc (onO 3 p none)).heap[w.heap.size]? = some (onO 3 p none)) := by
    have := heap_alloc_new (w.setCell ⟨mo, 4, none⟩ (.int .i64 ((m : Int) + 1))) (onO 3 p none)
    rw [show (w.setCell ⟨mo, 4, none⟩ (.int .i64 ((m : Int) + 1))).heap.size = w.heap.size from by simp [World.setCell]] at this
    exact this
  dsimp only [onO, cp, Option.map_none] at H3 H5 H6 H7
  clear h hE hn hl hm hS hlm hd e1 hp
  unfold RkF
  go_enter Tryz.func55, Tryz.ntmps55
  go_upto_region 9 with (fail)
  generalize (World.alloc (w.setCell ⟨mo, 4, none⟩ (.int .i64 ((m : Int) + 1))) (.cells #[_, _, .pointer none, _] 122)) = w3 at *
  have hb1 := lt_of_blk H7.out
  have hm3 := H3.out.lt
  have hla : mo ≠ w3.heap.size := by omega
  have hlb : w.heap.size ≠ w3.heap.size := by omega
  obtain ⟨P, cc, c3, -, f3, -, -⟩ := H3.out.cells
  have HC := Lib.hid c3
  have r0 := cell_of_row w3 w.heap.size 0 _ _ _ H7.out
  have r1 := cell_of_row w3 w.heap.size 1 _ _ _ H7.out
  have r2 := cell_of_row w3 w.heap.size 2 _ _ _ H7.out
  have r3 := cell_of_row w3 w.heap.size 3 _ _ _ H7.out
  simp only [List.getElem?_toArray, List.getElem?_cons_zero, List.getElem?_cons_succ] at r0 r1 r2 r3
  clear c4 f4
  go_region_law (go_loud (refine step_append_lies _ (by rfl) _ _ _ (by rfl) W.heap.size 122 i0 (.agg #[.int .i64 0, .int .i64 0, .pointer none, .int .i64 0]) 4 32 Tryz.underlying33 hi hz0 hz1 hz2 rfl (by omega) (.slice P E.length cc) E.length (oV E) (by rfl) (row_later (H3.out.own HC.out) (below_one rfl rfl rfl rfl)) ⟨w3.heap.size, 0, none⟩ 1 1 (oE ⟨3, p, none, 1⟩) (by rfl) (by rfl) (World.news_of_block (cs := #[.int .i64 3, .int .i64 p, .pointer none, .int .i64 1]) (t := 122) (fr := (0, 0)) (news_one (w := w3) (by rfl))) (oE_one ⟨3, p, none, 1⟩) (by omega) (by unfold maxLen; omega) (by omega) (by simp; omega) (w3.heap.size + 1) (by simp) ?_; intro q cap w1 hown hgrow hat hlt1; have HM := H3.out.mid HC.out (by exact below_one rfl rfl rfl rfl) hgrow; have HE := Lib.hid (H3.out.added (x := ⟨3, p, none, 1⟩) HC.out (by exact below_one rfl rfl rfl rfl) hown hgrow (hat.imp id (by omega))); have hc1 := HM.1; have hf1 := HM.2; clear HM hown hgrow hat hlt1 c3 f3))
  all_goals
    clear r0 r1 r2 r3 HC hla hlb hb1 hm3
    go_wp2_with fail
    refine (rarm_set (i := E.length) now d HE.out.1 (snoc_get E _) HN.out.2.2.2.1 HN.out.2.2.2.2 HN.out.2.1 HN.out.2.2.1).mono ?_
    rintro e w6 hz
    have HZ := Lib.hid hz
    obtain rfl := hz.1
    clear hz
    go_wp2_with fail
    go_ret2
    exact ⟨rfl, HZ.out.2.1, (H5.out.trans (HE.out.2.1.trans HZ.out.2.2.1)), H6.out.trans (HE.out.2.2.trans HZ.out.2.2.2)⟩
/-! The calls. -/
set_option maxHeartbeats 4000000 in
theorem rwith_ok {kd now d : Int} (hkd : kd = 1 ∨ kd = 2) (h : RS W mo E m n S g w) (hms : MS W RC RT L w) (hd : DueOk kd now d) (hS : Ok n S) (hm : m < 64) (hE : E.length < 100000) (hn : n ≤ 1000000) (hl : S.length ≤ 999) :
    Calls Tryz.prog 54 #[pM mo, .int .i64 kd, .int .i64 now, .int .i64 d] w (RkC W RC RT mo E m n S g L kd now d (fun c => .tuple #[.int .i64 (E.length : Int), .pointer (some ⟨c, 0, none⟩), .int .i64 0]) w) := by
  have HR := Lib.hid (rmake_ch hkd h hms hd hS hm hE hn hl)
  have b3 : (0 : Int) ≤ (E.length : Int) := by omega
  clear h hd hm hE hn hl hkd hms
  go_enter Tryz.func54, Tryz.ntmps54
  go_wp2_with fail
  refine HR.out.mono ?_
  rintro e w1 ⟨c, rfl, hs, hm, ho⟩
  have HS := Lib.hid hs
  have HM := Lib.hid hm
  have HO := Lib.hid ho
  obtain ⟨P, cc, c3, -, f3, -, hr⟩ := hs.cells
  obtain ⟨q, rfl, hq, ⟨x0, x1, x2, x3⟩, -, -⟩ := hr E.length _ (snoc_get E _)
  have b4 : (E.length : Int) < ((E ++ [(⟨kd, 0, some c, 1⟩ : On)]).length : Int) := by simp; omega
  generalize (E ++ [(⟨kd, 0, some c, 1⟩ : On)]).length = NN at *
  clear hs ho HR hm hr x0 x1 x3
  simp only [Option.map_some] at x2
  go_wp2_with fail
  go_region_with fail
  go_wp2_with fail
  go_ret3
  exact ⟨c, rfl, (HS.out.later ((Below.refl w1.heap.size w1).drew)), (HM.out.later ((Below.refl w1.heap.size w1).drew)), HO.out.trans (RX.of_below ((Below.refl w1.heap.size w1).drew)).ry⟩
theorem rwith_no {kd now d : Int} (q : Option Addr) (w : World) {a : Int} (ha : a ≠ 0) (hs : Calls Tryz.prog 55 #[.pointer q, .int .i64 kd, .int .i64 now, .int .i64 d, .int .i64 0] w fun e w' => e = .returned (.tuple #[.int .i64 0, .int .i64 a]) ∧ w = w') :
    Calls Tryz.prog 54 #[.pointer q, .int .i64 kd, .int .i64 now, .int .i64 d] w fun e w' => e = .returned (.tuple #[.int .i64 0, .pointer none, .int .i64 a]) ∧ w = w' := by
  have ha2 : (a == 0) = false := by simpa using ha
  go_enter Tryz.func54, Tryz.ntmps54
  go_wp2_with fail
  refine hs.mono ?_
  rintro e w1 ⟨rfl, rfl⟩
  go_wp2_with fail
  go_ret3
  exact ⟨rfl, rfl⟩
theorem rtimer_any {now d : Int} {q : Value} {Q : Ending → World → Prop} (hs : Calls Tryz.prog 54 #[q, .int .i64 1, .int .i64 now, .int .i64 d] w Q) (hQ : ∀ e w', Q e w' → ∃ a b c, e = .returned (.tuple #[a, b, c])) : Calls Tryz.prog 17 #[q, .int .i64 now, .int .i64 d] w Q := by
  have HR := Lib.hid hs
  have HQ := Lib.hid hQ
  clear hs hQ
  go_enter Tryz.func17, Tryz.ntmps17
  go_wp2_with fail
  refine HR.out.mono ?_
  rintro e w1 hq
  have HX := Lib.hid hq
  obtain ⟨a, b, c, rfl⟩ := HQ.out _ _ hq
  clear hq HQ HR
  go_wp2_with fail
  go_ret3
  exact HX.out
theorem rticker_any {now d : Int} {q : Value} {Q : Ending → World → Prop} (hs : Calls Tryz.prog 54 #[q, .int .i64 2, .int .i64 now, .int .i64 d] w Q) (hQ : ∀ e w', Q e w' → ∃ a b c, e = .returned (.tuple #[a, b, c])) : Calls Tryz.prog 18 #[q, .int .i64 now, .int .i64 d] w Q := by
  have HR := Lib.hid hs
  have HQ := Lib.hid hQ
  clear hs hQ
  go_enter Tryz.func18, Tryz.ntmps18
  go_wp2_with fail
  refine HR.out.mono ?_
  rintro e w1 hq
  have HX := Lib.hid hq
  obtain ⟨a, b, c, rfl⟩ := HQ.out _ _ hq
  clear hq HQ HR
  go_wp2_with fail
  go_ret3
  exact HX.out
theorem rfunc_any {now d p : Int} {q : Value} {Q : Ending → World → Prop} (hs : Calls Tryz.prog 55 #[q, .int .i64 3, .int .i64 now, .int .i64 d, .int .i64 p] w Q) (hQ : ∀ e w', Q e w' → ∃ a b, e = .returned (.tuple #[a, b])) : Calls Tryz.prog 19 #[q, .int .i64 now, .int .i64 d, .int .i64 p] w Q := by
  have HR := Lib.hid hs
  have HQ := Lib.hid hQ
  clear hs hQ
  go_enter Tryz.func19, Tryz.ntmps19
  go_wp2_with fail
  refine HR.out.mono ?_
  rintro e w1 hq
  have HX := Lib.hid hq
  obtain ⟨a, b, rfl⟩ := HQ.out _ _ hq
  clear hq HQ HR
  go_wp2_with fail
  first | exact HX.out | (go_ret2; exact HX.out)
theorem rlapse_no {wh p : Int} (q : Option Addr) (w : World) (hp : p < 0) : Calls Tryz.prog 20 #[.pointer q, .int .i64 wh, .int .i64 p] w fun e w' => e = .returned (.tuple #[.int .i64 0, .int .i64 1]) ∧ w = w' := by
  go_enter Tryz.func20, Tryz.ntmps20
  go_wp2_with fail
  go_ret2
  exact ⟨rfl, rfl⟩
set_option maxHeartbeats 8000000 in
theorem rlapse_ok {wh p : Int} (h : RS W mo E m n S g w) (hp : 0 ≤ p) (hS : Ok n S) (hE : E.length < 100000) (hn : n ≤ 1000000) (hl : S.length ≤ 999) :
    Calls Tryz.prog 20 #[pM mo, .int .i64 wh, .int .i64 p] w (RkF W mo E m m n S g 4 (hz wh) p w) := by
  obtain ⟨i0, hi, hz0, hz1, hz2⟩ := info_parts infR
  have a3 : ¬ p < 0 := by omega
  have b4 : IntKind.i64.wrap (((E.length + 1 : Nat) : Int) - 1) = (E.length : Int) := by rw [IntKind.wrap_i64]; omega
  have b6 : IntKind.i64.wrap ((E.length : Int) + 1 - 1) = (E.length : Int) := by rw [IntKind.wrap_i64]; omega
  have b3 : (0 : Int) ≤ (E.length : Int) := by omega
  have b5 : (E.length : Int) ≤ 100000 := by omega
  have HN := Lib.hid (And.intro hE (And.intro hn (And.intro hl hS)))
  have hB := h.hB
  have HF := Lib.hid (hz_fit wh)
  have hlt := h.lt
  have hla : mo ≠ w.heap.size := by omega
  have H3 := Lib.hid h
  obtain ⟨P, cc, c3, -, f3, -, -⟩ := h.cells
  have HC := Lib.hid c3
  have F1 := fun w => rlate_any wh w
  clear h hE hn hl hS hp
  unfold RkF
  generalize hz wh = y at *
  go_enter Tryz.func20, Tryz.ntmps20
  go_wp2_with (at_builtin; go_loud (refine wpList_append_lies _ rfl _ _ _ rfl W.heap.size 122 i0 (.agg #[.int .i64 0, .int .i64 0, .pointer none, .int .i64 0]) 4 32 Tryz.underlying33 hi hz0 hz1 hz2 rfl (by omega) (.slice P E.length cc) E.length (oV E) rfl (row_later (H3.out.own HC.out) (below_al w _)) ⟨w.heap.size, 0, none⟩ 1 1 (oE ⟨4, p, none, 1⟩) rfl rfl (World.news_of_block (cs := #[.int .i64 4, .int .i64 p, .pointer none, .int .i64 1]) (heap_alloc_new w _)) (oE_one ⟨4, p, none, 1⟩) (by omega) (by unfold maxLen; omega) (by omega) (by simp; omega) (w.heap.size + 1) (by simp) ?_; intro q cap w1 hown hgrow hat hlt1; have HM := H3.out.mid HC.out (below_al w _) hgrow; have HE := Lib.hid (H3.out.added (x := ⟨4, p, none, 1⟩) HC.out (below_al w _) hown hgrow (hat.imp id (by omega))); have hc1 := HM.1; have hf1 := HM.2; clear HM hown hgrow hat hlt1 c3 f3))
  generalize (w1.setCell ⟨mo, 3, none⟩ _) = w5 at *
  have HE1 := Lib.hid HE.out.1
  have HE2 := Lib.hid HE.out.2
  have HA2 := Lib.hid (HE1.out.later ((Below.refl w5.heap.size w5).drew))
  have HC3 := Lib.hid (rs_tarm (E.length : Int) y 0 HA2.out HN.out.2.2.2 HF.out (by decide) HN.out.2.1 HN.out.2.2.1)
  clear HE HC hla hlt hB hc1 hf1
  go_region_with (first
    | (go_at_call 57; go_loud ((with_reducible refine (F1 _).mono ?_); rintro e w' ⟨rfl, rfl⟩))
    | (go_at_call 56; go_loud ((with_reducible refine HC3.out.mono ?_); rintro e w' hz; have HZ := Lib.hid (RZ.from HE1.out.hB ((Below.refl w5.heap.size w5).drew) hz); obtain rfl := hz.1; clear hz)))
  go_wp2_with fail
  go_ret2
  exact (RZ.after HE2.out.1 HE2.out.2 HZ.out).but
end
end Go.Proofs.YtmadcnpkaijllaaGreat
