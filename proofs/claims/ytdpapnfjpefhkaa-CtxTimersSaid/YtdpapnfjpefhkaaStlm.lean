/- What settle of package heap does. Conditions: each theorem's own premises.
What Len, Find and Min of package heap answer. Conditions: each theorem's own premises.
What Add and Move of package heap do. Conditions: each theorem's own premises. -/
import Derived.Test.YtdpapnfjpefhkaaFstm
namespace Go.Proofs.Ytdpapnfjpefhkaa
open Go.RowKit
set_option linter.unusedVariables false
set_option maxRecDepth 100000
section
variable {Q Q' : List It → Nat → Prop} {B o b c n s : Nat} {P : Option Addr} {m : List It} {K : List Int} {f : Int → Int} {l0 : List It} {x y : It} {w w' w1 wr : World} {i j : Nat} {e : Ending}
theorem SetR.from (h : SetR B o b P c n l0 w1 e w') (hc : Chg o b (blk P) (blk P) w w1) : SetR B o b P c n l0 w e w' := by
  obtain ⟨h1, m, f, h2, h3, h4, h5, h6⟩ := h
  exact ⟨h1, m, f, h2, h3, h4, h5, hc.trans h6⟩
theorem Way.re (h : Way Q B o b P c n K l0 x w m f i wr) (hq : Q' (m.set i x) i) : Way Q' B o b P c n K l0 x wr m f i wr := ⟨h.hb, h.mid, hq, h.pm, Chg.refl _ _⟩

set_option maxHeartbeats 8000000 in
theorem settle_any (i : Nat) (x : It) (w : World) (h : Way HpAt B o b P c n K l0 x w m f i w) (hx : Wf x.id) (hl : l0.length ≤ 1000) :
    Calls Try.prog 87 #[.pointer (some ⟨o, 0, none⟩), .int .i64 i, .agg #[.int .i64 x.id, .int .i64 x.w, .int .i64 x.s]] w (SetR B o b P c n l0 w) := by
  have hB1 : Below w.heap.size w (w.alloc (.cells #[.int .i64 x.id, .int .i64 x.w, .int .i64 x.s] 150)) := below_al w _
  have HW := Lib.hid (h.later hB1)
  have HX : Hid (Box (w.alloc (.cells #[.int .i64 x.id, .int .i64 x.w, .int .i64 x.s] 150)) w.heap.size x) := Box.new w x
  obtain ⟨q1, q2, q3⟩ := h.klen hl
  have q4 : m.length ≤ 1000 := by omega
  clear h hB1 q1
  by_cases h0 : i = 0
  · subst h0
    have e9 : ((0 : Nat) : Int) = 0 := rfl
    rw [e9]
    go_enter Try.func87, Try.ntmps87
    go_wp2_with fail
    generalize w.alloc (.cells #[.int .i64 x.id, .int .i64 x.w, .int .i64 x.s] 150) = w1 at *
    go_quiet (fail)
    have HW2 := Lib.hid (HW.out.later (below_drewN w1 nq))
    have HX2 := Lib.hid (HX.out.later (below_drewN w1 nq))
    generalize w1.drewN nq = w2 at *
    obtain ⟨xs, x0, x1, x2⟩ := HX2.out
    have HS := Lib.hid (sink_any 0 x w2 (HW2.out.re (dn_first HW2.out.hp)) hx hl)
    clear HW HX
    go_wp2_with fail
    refine HS.out.mono ?_
    rintro e w3 hR
    obtain rfl := hR.1
    have HR := Lib.hid (hR.from HW2.out.ch)
    clear hR HS x0 x1 x2
    go_wp2_with fail
    go_end0
    exact HR.out
  · have hj : (i - 1) / 4 < m.length := by omega
    have hji : (i - 1) / 4 < i := by omega
    obtain ⟨j, hjj⟩ : ∃ j, j = (i - 1) / 4 := ⟨_, rfl⟩
    rw [← hjj] at hj hji
    obtain ⟨y, hy⟩ := ex_at hj
    have HY := Lib.hid hy
    have hA := fun W => above_any i W (by omega) (by omega)
    rw [← hjj] at hA
    have HJ := Lib.hid hjj
    obtain ⟨g, rfl, y0, y1, y2⟩ := HW.out.hb.at hy
    have hpos : (0 : Int) < (i : Int) := by omega
    have hpn : 0 < i := by omega
    have dpos : decide (0 < i) = true := decide_eq_true hpn
    obtain ⟨xs, x0, x1, x2⟩ := HX.out
    have a0 := HW.out.hb.c0
    clear hjj hy
    go_enter Try.func87, Try.ntmps87
    go_wp2_with fail
    generalize w.alloc (.cells #[.int .i64 x.id, .int .i64 x.w, .int .i64 x.s] 150) = wr at *
    have KP : Hid (∀ v, Below wr.heap.size wr v → v.cell? ⟨o, 0, none⟩ = some (.slice (some ⟨g, 0, none⟩) m.length c) ∧ v.cell? ⟨w.heap.size, 0, none⟩ = some (.int .i64 x.id) ∧ v.cell? ⟨w.heap.size, 1, none⟩ = some (.int .i64 x.w) ∧ v.cell? ⟨w.heap.size, 2, none⟩ = some (.int .i64 x.s) ∧ v.cell? ⟨g, j * 3, none⟩ = some (.int .i64 y.id) ∧ v.cell? ⟨g, j * 3 + 1, none⟩ = some (.int .i64 y.w) ∧ v.cell? ⟨g, j * 3 + 2, none⟩ = some (.int .i64 y.s)) := fun v hb => by
      have hs := HX.out.1
      have hg := (row_lt HW.out.hb.own (k := g) rfl).2
      exact ⟨(cell_blk (hb.block _ HW.out.hb.lo) _).trans a0, (cell_blk (hb.block _ hs) _).trans x0, (cell_blk (hb.block _ hs) _).trans x1, (cell_blk (hb.block _ hs) _).trans x2, (cell_blk (hb.block _ hg) _).trans y0, (cell_blk (hb.block _ hg) _).trans y1, (cell_blk (hb.block _ hg) _).trans y2⟩
    go_region_held3 (fun v => v.cell? ⟨o, 0, none⟩ = some (.slice (some ⟨g, 0, none⟩) m.length c) ∧ v.cell? ⟨w.heap.size, 0, none⟩ = some (.int .i64 x.id) ∧ v.cell? ⟨w.heap.size, 1, none⟩ = some (.int .i64 x.w) ∧ v.cell? ⟨w.heap.size, 2, none⟩ = some (.int .i64 x.s) ∧ v.cell? ⟨g, j * 3, none⟩ = some (.int .i64 y.id) ∧ v.cell? ⟨g, j * 3 + 1, none⟩ = some (.int .i64 y.w) ∧ v.cell? ⟨g, j * 3 + 2, none⟩ = some (.int .i64 y.s))
      (first | exact KP.out _ (Below.refl _ _).drew | exact KP.out _ ((Below.refl _ _).drew.trans hb3))
      (first
      | (go_at_call 98; (with_reducible refine (hA _).mono ?_); rintro e w' ⟨rfl, rfl⟩)
      | (go_at_call 97; go_loud ((with_reducible refine (order_bel x y _).mono ?_); rintro e w3 ⟨rfl, hb3⟩)))
    have hb4 : Below wr.heap.size wr w3 := (Below.refl _ _).drew.trans hb3
    obtain ⟨a0', x0', x1', x2', y0', y1', y2'⟩ := KP.out _ hb4
    have HW3 := Lib.hid (HW.out.later hb4)
    clear HW HX KP a0 x0 x1 x2 y0 y1 y2 hb3 hb4
    have ex : (m.set i x)[i]? = some x := by simp [q3]
    have ey : (m.set i x)[(i - 1) / 4]? = some y := by rw [← HJ.out, List.getElem?_set_ne (by omega)]; exact HY.out
    by_cases hxy : x.lt y
    · have hq := (ord_neg x y).2 hxy
      have HS := Lib.hid (rise_any i x w3 (HW3.out.re (up_of_at HW3.out.hp hpn ex ey hxy)) hx hl)
      generalize ordI x y = r at *
      clear ex ey
      go_wp2_with fail
      refine HS.out.mono ?_
      rintro e w4 hR
      obtain rfl := hR.1
      have HR := Lib.hid (hR.from HW3.out.ch)
      clear hR HS a0' x0' x1' x2' y0' y1' y2'
      go_wp2_with fail
      go_end0
      exact HR.out
    · have hq : ¬ ordI x y < 0 := fun e => hxy ((ord_neg x y).1 e)
      have HS := Lib.hid (sink_any i x w3 (HW3.out.re (dn_of_at HW3.out.hp ex ey hxy)) hx hl)
      generalize ordI x y = r at *
      clear ex ey
      go_wp2_with fail
      refine HS.out.mono ?_
      rintro e w4 hR
      obtain rfl := hR.1
      have HR := Lib.hid (hR.from HW3.out.ch)
      clear hR HS a0' x0' x1' x2' y0' y1' y2'
      go_wp2_with fail
      go_end0
      exact HR.out
end
end Go.Proofs.Ytdpapnfjpefhkaa
namespace Go.Proofs.Ytdpapnfjpefhkaa
open Go.RowKit
set_option linter.unusedVariables false
set_option maxRecDepth 100000
def zI : It := ⟨0, 0, 0⟩
/-- An item and a bool. -/
def IbR (x : It) (d : Bool) (w : World) (e : Ending) (w' : World) : Prop := e = .returned (.tuple #[.agg #[.int .i64 x.id, .int .i64 x.w, .int .i64 x.s], .bool d]) ∧ Below w.heap.size w w'
theorem min_nil (w : World) : Calls Try.prog 56 #[.pointer none] w (IbR zI false w) := by
  go_enter Try.func56, Try.ntmps56
  go_wp2_with fail
  refine (len_nil _).mono ?_
  rintro e w' ⟨rfl, rfl⟩
  go_wp2_with fail
  refine bodyPost_ret (v := .tuple #[.agg #[.int .i64 0, .int .i64 0, .int .i64 0], .bool false]) ?_ rfl ⟨rfl, ?_⟩
  · rw [results_cell_tmp rfl]; go_simp; try rfl
  · first | exact below_al _ _ | (repeat' (first | exact below_al _ _ | refine Below.alloc ?_ (by omega) _))
section
variable {B o b n : Nat} {p : Option Nat} {S : List It} {w : World}
theorem glen (h : HG B w o b p n S) : Calls Try.prog 71 #[.pointer (some ⟨o, 0, none⟩)] w fun e w' => e = .returned (.int .i64 (S.length : Int)) ∧ w = w' := by
  obtain ⟨P, c, m, f, _, h1, _, _, h4⟩ := h
  rw [← h4.length_eq]
  exact len_any w h1
theorem gmin_none (h : HG B w o b p n []) : Calls Try.prog 56 #[.pointer (some ⟨o, 0, none⟩)] w (IbR zI false w) := by
  have HA := Lib.hid h
  clear h
  go_enter Try.func56, Try.ntmps56
  go_wp2_with fail
  refine (glen (HA.out.later (below_al _ _))).mono ?_
  rintro e w' ⟨rfl, rfl⟩
  go_wp2_with fail
  refine bodyPost_ret (v := .tuple #[.agg #[.int .i64 0, .int .i64 0, .int .i64 0], .bool false]) ?_ rfl ⟨rfl, ?_⟩
  · rw [results_cell_tmp rfl]; go_simp; try rfl
  · first | exact below_al _ _ | (repeat' (first | exact below_al _ _ | refine Below.alloc ?_ (by omega) _))
theorem gmin_some {x : It} (h : HG B w o b p n (x :: S)) (hs : Srt (x :: S)) (hl : (x :: S).length ≤ 1000) : Calls Try.prog 56 #[.pointer (some ⟨o, 0, none⟩)] w (IbR x true w) := by
  obtain ⟨P, c, m, f, e0, h1, h2, h3, h4⟩ := h
  have hx := srt_head hs h3 h4
  have hm := h4.length_eq
  have hn : (m.length == 0) = false := by have := at_lt hx; simp; intro e; rw [e] at this; simp at this
  have hn2 : ((m.length : Int) == 0) = false := by have := at_lt hx; simp; intro e; rw [e] at this; simp at this
  have hpos := at_lt hx
  obtain ⟨g, rfl, d0, d1, d2⟩ := h1.at hx
  simp only [Nat.zero_mul, Nat.zero_add] at d0 d1 d2
  have c0 := h1.c0
  have ho := h1.lo
  have hg := (row_lt h1.own (k := g) rfl).2
  have HA := Lib.hid h1
  clear h1 hx h4 hm
  go_enter Try.func56, Try.ntmps56
  go_wp2_with fail
  refine (len_any _ (HA.out.later (below_al _ _))).mono ?_
  rintro e w' ⟨rfl, rfl⟩
  go_wp2_with fail
  refine bodyPost_ret (v := .tuple #[.agg #[.int .i64 x.id, .int .i64 x.w, .int .i64 x.s], .bool true]) ?_ rfl ⟨rfl, ?_⟩
  · rw [results_cell_tmp rfl]; go_simp; try rfl
  · first | exact below_al _ _ | (repeat' (first | exact below_al _ _ | refine Below.alloc ?_ (by omega) _))
end
theorem inf36 : (Try.prog.info? 150).map (fun i => (i.zero, i.size, i.bytes)) = some (some (.agg #[.int .i64 0, .int .i64 0, .int .i64 0]), 3, 24) := by kernel_rfl
end Go.Proofs.Ytdpapnfjpefhkaa
namespace Go.Proofs.Ytdpapnfjpefhkaa
open Go.RowKit
set_option linter.unusedVariables false
set_option maxRecDepth 100000
/-- What the call answers, and what the heap has come to hold. -/
def ChR (B o b : Nat) (p : Option Nat) (n : Nat) (S : List It) (v : Value) (w : World) (e : Ending) (w' : World) : Prop :=
  e = .returned v ∧ ∃ p', HG B w' o b p' n S ∧ Chg o b p p' w w'
theorem map_nil (w : World) (b : Nat) : (binOp .eql 95 (.map (some b)) (.map none)).run Try.prog w = .ok (.bool false) w := by kernel_rfl
section
variable {B o b c n : Nat} {p : Option Nat} {P : Option Addr} {S m : List It} {K : List Int} {f : Int → Int} {w w' w1 : World} {e : Ending} {v : Value}
theorem SetR.chr {l0 : List It} (h : SetR B o b P c n l0 w1 e w') (hp : l0.Perm S) (hc : Chg o b p (blk P) w w1) (he : v = .tuple #[]) : ChR B o b p n S v w e w' := by
  obtain ⟨h1, m, f, h2, h3, h4, h5, h6⟩ := h
  exact ⟨by rw [h1, he], blk P, ⟨P, c, m, f, rfl, h2, h3, h4, h5.trans hp⟩, hc.trans h6⟩
theorem rise_c0 {g : Nat} {x : It} (h : SetR B o b (some ⟨g, 0, none⟩) c n (m ++ [x]) w e w') : w'.cell? ⟨o, 0, none⟩ = some (.slice (some ⟨g, 0, none⟩) (m.length + 1) c) := by
  obtain ⟨h1, m', f, h2, h3, h4, h5, h6⟩ := h
  have := h2.c0
  rwa [h5.length_eq, List.length_append] at this
theorem ChR.but {u : Value} (h : ChR B o b p n S v w e w') : ChR B o b p n S u w (.returned u) w' := ⟨rfl, h.2⟩
theorem add_old (k t : Int) (h : HG B w o b p n S) (hk : Wf k) (hm : k ∈ ids S) : Calls Try.prog 95 #[.pointer (some ⟨o, 0, none⟩), .int .i64 k, .int .i64 t] w fun e w' => e = .returned (.int .i64 1) ∧ w = w' := by
  obtain ⟨P, c, m, f, e0, h1, h2, h3, h4⟩ := h
  have d := decide_eq_true ((ids_perm h4).mem_iff.2 hm)
  have HA := Lib.hid h1
  clear h1 h2 h3 h4
  go_enter Try.func95, Try.ntmps95
  go_wp2_with fail
  refine (place_any k _ HA.out hk).mono ?_
  rintro e w' ⟨⟨v, rfl, _⟩, rfl⟩
  rw [d]
  go_wp2_with fail
  go_ret
  exact ⟨rfl, rfl⟩
theorem move_no (k t : Int) (h : HG B w o b p n S) (hk : Wf k) (hm : k ∉ ids S) : Calls Try.prog 74 #[.pointer (some ⟨o, 0, none⟩), .int .i64 k, .int .i64 t] w fun e w' => e = .returned (.int .i64 4) ∧ w = w' := by
  obtain ⟨P, c, m, f, e0, h1, h2, h3, h4⟩ := h
  have d := decide_eq_false (fun e => hm ((ids_perm h4).mem_iff.1 e) : k ∉ ids m)
  have HA := Lib.hid h1
  clear h1 h2 h3 h4
  go_enter Try.func74, Try.ntmps74
  go_wp2_with fail
  refine (place_any k _ HA.out hk).mono ?_
  rintro e w' ⟨⟨v, rfl, _⟩, rfl⟩
  rw [d]
  go_wp2_with fail
  go_ret
  exact ⟨rfl, rfl⟩
set_option maxHeartbeats 4000000 in
theorem move_yes (k t : Int) (h : HG B w o b p n S) (hS : Ok n S) (hk : Wf k) (hm : k ∈ ids S) (hn : n ≤ 1000000) (hl : S.length ≤ 1000) :
    Calls Try.prog 74 #[.pointer (some ⟨o, 0, none⟩), .int .i64 k, .int .i64 t] w (ChR B o b p (n + 1) (ins ⟨k, t, (n : Int) + 1⟩ (del k S)) (.int .i64 0) w) := by
  obtain ⟨P, c, m, f, e0, h1, h2, h3, h4⟩ := h
  subst e0
  have hmm := (ids_perm h4).mem_iff.2 hm
  have d := decide_eq_true hmm
  have hnd : (ids m).Nodup := (ids_perm h4).nodup_iff.2 hS.ids
  obtain ⟨i, y, hi, hy⟩ := ids_mem hmm
  have hfi := h2 i y hi
  rw [hy] at hfi
  have hil := at_lt hi
  have hlen := h4.length_eq
  let x : It := ⟨k, t, (n : Int) + 1⟩
  have hset : ids (m.set i x) = ids m := by
    apply List.ext_getElem?
    intro j
    by_cases ej : j = i
    · subst ej; rw [ids_at hi, ids_at (x := x) (by simp [hil]), hy]
    · simp [ids, List.getElem?_set_ne (Ne.symm ej)]
  have HW : Hid (∀ w2, HB B w2 o b P c (n + 1) m (ids m) f → Way HpAt B o b P c (n + 1) (ids m) (m.set i x) x w2 m f i w2) := fun w2 hb =>
    ⟨hb, ⟨hil, List.Perm.refl _, by rw [hset]; exact hnd, .inl (by rw [hset]), fun q z _ hz => h2 q z hz⟩, at_set (at_of_hp h3 i hil) x, List.Perm.refl _, Chg.refl _ _⟩
  have HP : Hid ((m.set i x).Perm (ins x (del k S))) := by
    have e1 : (m.set i x).Perm (x :: m.eraseIdx i) := by
      have e2 := List.set_eq_take_append_cons_drop (l := m) (i := i) (a := x)
      rw [if_pos hil] at e2
      rw [e2, List.eraseIdx_eq_take_drop_succ]
      exact List.perm_middle
    refine e1.trans (List.Perm.trans ?_ (ins_perm x _).symm)
    rw [← del_at hnd hi hy]
    exact (del_perm h4).cons x
  have hlen2 : (m.set i x).length ≤ 1000 := by rw [List.length_set]; omega
  have HA := Lib.hid h1
  have HM := Lib.hid hmm
  clear h1 h2 h3 h4 hi hy hset hnd hmm hlen
  go_enter Try.func74, Try.ntmps74
  go_wp2_with fail
  refine (place_any k _ HA.out hk).mono ?_
  rintro e w' ⟨⟨v, rfl, hv⟩, rfl⟩
  rw [d]
  have hv2 := hv HM.out
  rw [hfi] at hv2
  subst hv2
  clear hv hfi d
  go_wp2_with fail
  refine (anew_any k t w HA.out hn).mono ?_
  rintro e w2 ⟨rfl, r1, r2⟩
  have HS := Lib.hid (settle_any i x w2 (HW.out w2 r1) hk hlen2)
  have HC := Lib.hid r2
  clear r1 r2 HW
  go_wp2_with fail
  refine HS.out.mono ?_
  rintro e w3 hR
  obtain rfl := hR.1
  have HR : Hid (ChR B o b (blk P) (n + 1) (ins x (del k S)) (.tuple #[]) w (.returned (.tuple #[])) w3) := hR.chr HP.out HC.out rfl
  clear hR HS HC HP
  go_wp2_with fail
  go_ret
  exact HR.out.but

set_option maxHeartbeats 8000000 in
theorem add_new (k t : Int) (h : HG B w o b p n S) (hS : Ok n S) (hk : Wf k) (hm : k ∉ ids S) (hn : n ≤ 1000000) (hl : S.length < 1000) (hB : B ≤ w.heap.size) :
    Calls Try.prog 95 #[.pointer (some ⟨o, 0, none⟩), .int .i64 k, .int .i64 t] w (ChR B o b p (n + 1) (ins ⟨k, t, (n : Int) + 1⟩ S) (.int .i64 0) w) := by
  obtain ⟨i0, hi, hz0, hz1, hz2⟩ := info_parts inf36
  obtain ⟨P, c, m, f, e0, h1, h2, h3, h4⟩ := h
  subst e0
  have hmm : k ∉ ids m := fun e => hm ((ids_perm h4).mem_iff.1 e)
  have d := decide_eq_false hmm
  have hnd : (ids m).Nodup := (ids_perm h4).nodup_iff.2 hS.ids
  have hlen := h4.length_eq
  have hml : m.length < 1000 := by omega
  let x : It := ⟨k, t, (n : Int) + 1⟩
  have hset : (m ++ [zI]).set m.length x = m ++ [x] := by simp
  have HW : Hid (∀ P c w2, HB B w2 o b P c (n + 1) (m ++ [zI]) (ids m) f → Way HpUp B o b P c (n + 1) (ids m) (m ++ [x]) x w2 (m ++ [zI]) f m.length w2) := fun P c w2 hb =>
    ⟨hb, ⟨by simp, by rw [hset], by
      unfold ids at *
      rw [List.map_append, List.nodup_append]
      refine ⟨hnd, by simp, fun a ha b hb e => hmm ?_⟩
      simp at hb
      have e2 : b = k := hb
      rw [← e2, ← e]; exact ha, .inr (by unfold ids; rw [List.map_append]; exact List.Perm.refl _), fun q z hq hz => by
        have := at_lt hz
        simp at this
        rw [List.getElem?_append_left (by omega)] at hz
        exact h2 q z hz⟩, by rw [hset]; exact up_add h3 x, by rw [hset], Chg.refl _ _⟩
  have HP : Hid ((m ++ [x]).Perm (ins x S)) := (List.perm_append_comm.trans (h4.cons x)).trans (ins_perm x S).symm
  have hlen2 : (m ++ [x]).length ≤ 1000 := by simp; omega
  have q59 := map_nil w b
  have HA := Lib.hid h1
  have HO : Hid (w.ownsRow B 150 3 (.slice P m.length c) m.length (iV m)) := h1.own
  have HX := Lib.hid (below_al w (.cells #[.int .i64 0, .int .i64 0, .int .i64 0] 150))
  have c0 := h1.c0
  have c1 := h1.c1
  have f0 := h1.fo 0
  have ho := h1.lo
  have b1 : (m.length : Int) ≤ 1000 := by omega
  clear h1 h2 h3 h4 hset hnd hmm hlen
  go_enter Try.func95, Try.ntmps95
  go_wp2_with fail
  refine (place_any k _ HA.out hk).mono ?_
  rintro e w' ⟨⟨v, rfl, _⟩, rfl⟩
  rw [d]
  clear d
  go_wp2_with (at_builtin; go_loud (refine wpList_append_lies _ rfl (.tmp 33) (.tmp 35) 177 rfl B 150 i0 _ 3 24 Try.underlying177 hi hz0 hz1 hz2 rfl (by omega) (.slice P m.length c) m.length (iV m) rfl (row_later HO.out HX.out) ⟨w.heap.size, 0, none⟩ 1 1 (eI zI) rfl rfl (World.news_of_block (cs := #[.int .i64 0, .int .i64 0, .int .i64 0]) (heap_alloc_new w _)) (eI_one zI) (by omega) (by unfold maxLen; omega) (by omega) (by have := HX.out.size; omega) (w.heap.size + 1) (by first | (simp; done) | (simp; rfl)) ?_; intro g cap w2 hown hgrow hat hlt1; have HE := Lib.hid (HB.added (x := zI) HA.out (wf_of (by decide) (by decide)) HX.out hown hgrow (hat.imp id (by omega))); have hc2 : w2.cell? ⟨o, 0, none⟩ = some (.slice P m.length c) := (cell_blk ((hgrow.block o (by have := HX.out.size; omega) (by rw [own_blk]; exact fun e => HA.out.npo e.symm)).trans (HX.out.block o ho)) 0).trans c0; have hf2 : w2.frozen? ⟨o, 0, none⟩ = false := (frozen_blk ((hgrow.block o (by have := HX.out.size; omega) (by rw [own_blk]; exact fun e => HA.out.npo e.symm)).trans (HX.out.block o ho)) 0).trans f0; clear hown hgrow hat hlt1 HX c0 f0))
  have HK : Hid (w2.setCell ⟨o, 0, none⟩ (.slice (some ⟨g, 0, none⟩) (m.length + 1) cap) = w2.setCell ⟨o, 0, none⟩ (.slice (some ⟨g, 0, none⟩) (m.length + 1) cap)) := rfl
  generalize w2.setCell ⟨o, 0, none⟩ (.slice (some ⟨g, 0, none⟩) (m.length + 1) cap) = w3 at *
  have a0 : w3.cell? ⟨o, 0, none⟩ = some (.slice (some ⟨g, 0, none⟩) (m.length + 1) cap) := by
    have := HE.out.1.c0; rwa [List.length_append] at this
  clear hc2 hf2 c1 q59 HO hi hz0 hz1 hz2
  have b2 : IntKind.i64.wrap ((m.length : Int) + 1 - 1) = (m.length : Int) := by rw [IntKind.wrap_i64]; omega
  have b3 : IntKind.i64.wrap (m.length : Int) = (m.length : Int) := by rw [IntKind.wrap_i64]; omega
  have HY := Lib.hid (HE.out.1.later (Below.refl _ _).drew)
  have hR := fun W hb => rise_any (B := B) (o := o) (b := b) (P := some ⟨g, 0, none⟩) (c := cap) (n := n + 1) (l0 := m ++ [x]) m.length x W (HW.out (some ⟨g, 0, none⟩) cap W hb) hk hlen2
  go_region_held3 (fun v => v.cell? ⟨o, 0, none⟩ = some (.slice (some ⟨g, 0, none⟩) (m.length + 1) cap))
    (first | exact a0 | exact HZ4.out | exact HZ5.out)
    (first
    | (go_at_call 88; go_loud ((with_reducible refine (anew_any k t _ HY.out hn).mono ?_); rintro e w4 ⟨rfl, r1, r2⟩; have HZ4 : Hid (w4.cell? ⟨o, 0, none⟩ = some (.slice (some ⟨g, 0, none⟩) (m.length + 1) cap)) := (by have := r1.c0; rwa [List.length_append] at this)))
    | (go_at_call 99; go_loud ((with_reducible refine (hR _ r1).mono ?_); rintro e w5 hq; have HZ5 : Hid (w5.cell? ⟨o, 0, none⟩ = some (.slice (some ⟨g, 0, none⟩) (m.length + 1) cap)) := (rise_c0 hq); obtain rfl := hq.1)))
  have HR : Hid (ChR B o b (blk P) (n + 1) (ins x S) (.tuple #[]) w (.returned (.tuple #[])) w5) := hq.chr HP.out ((HE.out.2.trans (Chg.of_below _ (Below.refl _ _).drew)).trans r2) rfl
  clear r1 r2 hq HZ4 HZ5 HE HY hR HW HP HA HK a0
  go_wp2_with fail
  go_ret
  exact HR.out.but
end
end Go.Proofs.Ytdpapnfjpefhkaa
