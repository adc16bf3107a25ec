/- What Add, Remove and All of package ready do to a list in memory. Conditions: each theorem's own premises. -/
import Derived.Test.YthiifnbgdajgaaaDoorROps
import Derived.Test.YthiifnbgdajgaaaDoorShl
namespace Go.Proofs.YthiifnbgdajgaaaDoor
open Go.RowKit
set_option linter.unusedVariables false
set_option maxRecDepth 100000
theorem inf : (Tryd.prog.info? 3).map (fun i => (i.zero, i.size, i.bytes)) = some (some (.int .i64 0), 1, 8) := by kernel_rfl

theorem map_nil (w : World) (b : Nat) : (binOp .eql 77 (.map (some b)) (.map none)).run Tryd.prog w = .ok (.bool false) w := by kernel_rfl
section
variable {B o b c : Nat} {P : Option Addr} {l : List Int} {f : Int → Int}
theorem add_low (x : Int) (w : World) (hx : x < 0) : Calls Tryd.prog 25 #[.pointer (some ⟨o, 0, none⟩), .int .i64 x] w fun e w' => e = .returned (.int .i64 1) ∧ w = w' := by
  go_enter Tryd.func25, Tryd.ntmps25
  go_wp2_with fail
  go_ret
  exact ⟨rfl, rfl⟩
theorem add_old (x : Int) (w : World) (h : RS B w o b P c l f) (hx : Wf x) (hm : x ∈ l) : Calls Tryd.prog 25 #[.pointer (some ⟨o, 0, none⟩), .int .i64 x] w fun e w' => e = .returned (.int .i64 1) ∧ w = w' := by
  have h0 : ¬ x < 0 := by have := (h.wf x hm).1; omega
  have e1 := decide_eq_true hm
  go_enter Tryd.func25, Tryd.ntmps25
  go_wp2_with fail
  refine (has_any x w h hx).mono ?_
  rintro e w' ⟨rfl, rfl⟩
  rw [e1]
  go_wp2_with fail
  go_ret
  exact ⟨rfl, rfl⟩
theorem remove_no (x : Int) (w : World) (h : RS B w o b P c l f) (hx : Wf x) (hm : x ∉ l) : Calls Tryd.prog 31 #[.pointer (some ⟨o, 0, none⟩), .int .i64 x] w fun e w' => e = .returned (.bool false) ∧ w = w' := by
  have e1 := decide_eq_false hm
  go_enter Tryd.func31, Tryd.ntmps31
  go_wp2_with fail
  refine (has_any x w h hx).mono ?_
  rintro e w' ⟨rfl, rfl⟩
  rw [e1]
  go_wp2_with fail
  go_ret
  exact ⟨rfl, rfl⟩

/-- One more stands there, behind all. -/
def AddR (B o b : Nat) (P : Option Addr) (l : List Int) (w : World) (e : Ending) (w' : World) : Prop :=
  e = .returned (.int .i64 0) ∧ ∃ g c', RG B w' o b (some ⟨g, 0, none⟩) c' l ∧ Chg o b (blk P) (some g) w w'
theorem pl_snoc {x : Int} (hm : x ∉ l) (h : Pl l f) : Pl (l ++ [x]) (fun y => if y = x then (l.length : Int) else f y) := by
  intro p y hp
  by_cases hl : p < l.length
  · rw [List.getElem?_append_left hl] at hp
    have hne : y ≠ x := fun e => hm (e ▸ at_mem hp)
    show (if y = x then _ else _) = _
    rw [if_neg hne]; exact h p y hp
  · have h2 := at_lt hp
    simp at h2
    obtain rfl : p = l.length := by omega
    simp at hp
    show (if y = x then _ else _) = _
    rw [if_pos hp.symm]

set_option maxHeartbeats 2000000 in
theorem add_new (x : Int) (w : World) (h : RS B w o b P c l f) (hp : Pl l f) (hx : 0 ≤ x ∧ Wf x) (hm : x ∉ l) (hl : l.length ≤ 1000) (hB : B ≤ w.heap.size) : Calls Tryd.prog 25 #[.pointer (some ⟨o, 0, none⟩), .int .i64 x] w (AddR B o b P (l ++ [x]) w) := by
  obtain ⟨i0, hi, hz0, hz1, hz2⟩ := info_parts inf
  have h0 : ¬ x < 0 := by omega
  have b1 : (l.length : Int) ≤ 1000 := by omega
  have e1 := decide_eq_false hm
  have q41 := map_nil w b
  have HA := Lib.hid h
  obtain ⟨w1, hrun, ht, tm⟩ := (h.tm.keep (w' := w.drew) rfl).store hx.2 (v := (l.length : Int)) (wf_of (by omega) (by omega)) (by unfold maxLen; omega)
  rw [if_neg hm] at tm
  have hc0 := h.c0
  have hc1 := h.c1
  have e2 : w1.cell? ⟨o, 0, none⟩ = some (.slice P l.length c) := (cell_blk (ht.2.2.2.2 o h.ne) 0).trans hc0
  have e3 : w1.frozen? ⟨o, 0, none⟩ = false := (frozen_blk (ht.2.2.2.2 o h.ne) 0).trans (h.fo 0)
  have HS : Hid (w1.heap.size = w.heap.size) := ht.2.2.2.1
  have HR : Hid (w1.ownsRow B 3 1 (.slice P l.length c) l.length (iV l)) := row_keep h.own fun k hk => ht.2.2.2.2 k fun e => h.npb (by rw [← e]; exact hk)
  have HX := Lib.hid (below_al w1 (.cells #[.int .i64 x] 3))
  have HT : Hid (Trn w w1 b) := Lib.hid ht
  have HM := Lib.hid tm
  have HP := Lib.hid (pl_snoc hm hp)
  clear h ht tm hp
  go_enter Tryd.func25, Tryd.ntmps25
  go_wp2_with fail
  refine (has_any x w HA.out hx.2).mono ?_
  rintro e w' ⟨rfl, rfl⟩
  rw [e1]
  go_wp2_with fail
  go_region
  go_wp2_with (at_builtin; go_loud (refine wpList_append_lies _ rfl (.tmp 39) (.tmp 41) 22 rfl B 3 i0 _ 1 8 Tryd.underlying22 hi hz0 hz1 hz2 rfl (by omega) (.slice P l.length c) l.length (iV l) rfl (row_later HR.out HX.out) ⟨w1.heap.size, 0, none⟩ 1 1 [.int .i64 x] rfl rfl (World.news_of_block (cs := #[.int .i64 x]) (heap_alloc_new w1 _)) one_int (by omega) (by unfold maxLen; omega) (by omega) (by have := HX.out.size; have := HS.out; omega) (w1.heap.size + 1) (by first | (simp; done) | (simp; rfl)) ?_; intro g cap w2 hown hgrow hat hlt1; have HE := Lib.hid (RS.added HA.out hx hm HT.out HM.out HX.out hown hgrow (hat.imp id (by omega))); have hc2 : w2.cell? ⟨o, 0, none⟩ = some (.slice P l.length c) := (cell_blk ((hgrow.block o (by have := HX.out.size; have := HS.out; have := HA.out.lo; omega) (by rw [own_blk]; exact fun e => HA.out.npo e.symm)).trans (HX.out.block o (by have := HS.out; have := HA.out.lo; omega))) 0).trans e2; have hf2 : w2.frozen? ⟨o, 0, none⟩ = false := (frozen_blk ((hgrow.block o (by have := HX.out.size; have := HS.out; have := HA.out.lo; omega) (by rw [own_blk]; exact fun e => HA.out.npo e.symm)).trans (HX.out.block o (by have := HS.out; have := HA.out.lo; omega))) 0).trans e3; clear hown hgrow hat hlt1 HX e2 e3))
  go_wp2_with fail
  go_ret
  exact ⟨rfl, g, cap, ⟨_, HE.out.1, HP.out⟩, HE.out.2⟩
/-- All of them, in a slice of its own. -/
def AllR (l : List Int) (w : World) (e : Ending) (w' : World) : Prop := ∃ A c, e = .returned (.slice A l.length c) ∧ Rn w' A l.length l ∧ Below w.heap.size w w'
theorem own_all {w w' : World} {v : Value} (h : w'.ownsRow w.heap.size 3 1 v l.length (iV l)) (hb : Below w.heap.size w w') : AllR l w (.returned v) w' := by
  rcases h.2 with ⟨h1, h2⟩ | ⟨g, cap, cur, h1, _⟩
  · subst h1
    exact ⟨none, 0, by rw [h2], by rw [h2] at h ⊢; exact Rn.of_own h, hb⟩
  · subst h1
    exact ⟨_, _, rfl, Rn.of_own h, hb⟩
theorem clone_any (w : World) (h : w.ownsRow B 3 1 (.slice P l.length c) l.length (iV l)) (hl : l.length ≤ 1000) : Calls Tryd.prog 43 #[.slice P l.length c] w (AllR l w) := by
  rcases h.2 with ⟨h1, h2⟩ | ⟨g, cap, cur, h1, _⟩
  · injection h1 with h1 h3 h4
    subst h1
    refine (Tryd.slices_Clone_int_nil _ _ w).mono ?_
    rintro e w' ⟨rfl, rfl⟩
    have h9 : l = [] := List.eq_nil_of_length_eq_zero h2
    subst h9
    exact ⟨none, 0, rfl, Rn.nil _ _, Below.refl _ _⟩
  · injection h1 with h1 h3 h4
    subst h1
    refine (Tryd.slices_Clone_int g 0 l.length c l w (Nat.le_refl _) (by omega) (fun j hj => ?_)).mono ?_
    · rw [Nat.zero_add, h.cellAt j (by omega)]
      simp [iV, hj]
    · rintro e w' ⟨v, rfl, hown, _, hb⟩
      rw [List.take_length] at hown
      exact own_all hown hb
theorem all_any (w : World) (h : RS B w o b P c l f) (hl : l.length ≤ 1000) : Calls Tryd.prog 33 #[.pointer (some ⟨o, 0, none⟩)] w (AllR l w) := by
  have h0 := h.c0
  have HA := Lib.hid h
  clear h
  go_enter Tryd.func33, Tryd.ntmps33
  go_wp2_with fail
  refine (clone_any w HA.out.own hl).mono ?_
  rintro e w' ⟨A, c', rfl, r1, r2⟩
  go_wp2_with fail
  go_ret
  exact ⟨A, c', rfl, r1, r2⟩

/-! One leaves. -/
theorem del_any {g p : Nat} {x : Int} {l' : List Int} (w : World) (h : w.ownsRow B 3 1 (.slice (some ⟨g, 0, none⟩) l.length c) l.length (iV l)) (hp : l[p]? = some x) (hl : l' = l.eraseIdx p) :
    Calls Tryd.prog 41 #[.slice (some ⟨g, 0, none⟩) l.length c, .int .i64 (p : Int), .int .i64 ((p : Int) + 1)] w fun e w' => e = .returned (.slice (some ⟨g, 0, none⟩) l'.length c) ∧ ∃ q, w' = (w.drewN q).setCells g 0 (iV (l' ++ [0])) := by
  have h1 := row_cap h
  have h2 := at_lt hp
  refine (show Calls Tryd.prog 41 #[.slice (some ⟨g, 0, none⟩) l.length c, .int .i64 (p : Int), .int .i64 ((p + 1 : Nat) : Int)] w _ from Tryd.slices_Delete_int_cells g 0 l.length c p (p + 1) l w (Nat.le_refl _) h1.1 (by have := h1.2; unfold maxLen at this; omega) (by omega) (by omega) (fun j hj => ?_) (fun j hj => ?_)).mono ?_
  · rw [Nat.zero_add, h.cellAt j (by omega)]
    simp [iV, hj]
  · rw [Nat.zero_add]; exact h.frozenAt j
  · rintro e w' ⟨rfl, q, rfl⟩
    have e0 := cut_len hp
    rw [← hl] at e0
    refine ⟨by rw [show l.length - (p + 1 - p) = l'.length by omega], q, ?_⟩
    rw [List.take_length, show p + 1 - p = 1 by omega, ← List.eraseIdx_eq_take_drop_succ, ← hl]
    rfl
section
variable {ops : Array Oper} {rest : List Oper} {op : Oper} {a : Act} {w : World} {Q : Exit → Act → World → Prop} {x v : Int} {p : Nat}
theorem wp_delete (hg : op.guard = none) (m y : Operand) (hop : op.op = Op.call { callee := Callee.builtin Builtin.delete, args := #[m, y], argTypes := #[77, 3] })
    (h : Tm w b l f) (hd : l.Nodup) (hx : Wf x) (hp : l[p]? = some x) (hm : a.eval m = .map (some b)) (hy : a.eval y = .int .i64 x)
    (hK : ∀ w', Trn w w' b → Tm w' b (l.eraseIdx p) f → wpList Tryd.prog ops Q rest (a.put op.dst (.tuple #[])) w') : wpList Tryd.prog ops Q (op :: rest) a w := by
  refine wpList_plain hg fun K' hK' => ?_
  obtain ⟨w', hrun, r1, r2⟩ := h.drop hd hx hp op.type
  unfold Oper.wp
  simp [execOp, hop, resolve, invoke, builtin, hm, hy, hrun, Result.andThen]
  exact hK' _ _ (hK w' r1 r2)
theorem wp_store (hg : op.guard = none) (m y z : Operand) (hop : op.op = Op.mapUpdate 77 m y z)
    (h : Tm w b l f) (hx : Wf x) (hv : Wf v) (hn : l.length < maxLen) (hmem : x ∈ l) (hm : a.eval m = .map (some b)) (hy : a.eval y = .int .i64 x) (hz : a.eval z = .int .i64 v)
    (hK : ∀ w', Trn w w' b → Tm w' b l (fun y => if y = x then v else f y) → wpList Tryd.prog ops Q rest (a.put op.dst undef) w') : wpList Tryd.prog ops Q (op :: rest) a w := by
  refine wpList_plain hg fun K' hK' => ?_
  obtain ⟨w', hrun, r1, r2⟩ := h.store hx hv hn
  rw [if_pos hmem] at r2
  unfold Oper.wp
  simp [execOp, hop, hm, hy, hz, hrun, Result.andThen]
  exact hK' _ _ (hK w' r1 r2)
end
/-- Those behind are set right one by one: k of them are. -/
def LP (w : World) (B o b g c p : Nat) (l' : List Int) (k : Nat) (wr : World) : Prop :=
  ∃ f', RS B wr o b (some ⟨g, 0, none⟩) c l' f' ∧ Chg o b (some g) (some g) w wr ∧ ∀ (i : Nat) (x : Int), l'[i]? = some x → f' x = if i < p + k then (i : Int) else (i : Int) + 1
theorem LP.start {w wr : World} {g p : Nat} {x : Int} {l' : List Int} (hl : l' = l.eraseIdx p) (hp : Pl l f) (h : RS B wr o b (some ⟨g, 0, none⟩) c l' f ∧ Chg o b (some g) (some g) w wr) : LP w B o b g c p l' 0 wr := by
  refine ⟨f, h.1, h.2, fun i y hy => ?_⟩
  rw [hl, List.getElem?_eraseIdx] at hy
  split at hy
  · rw [if_pos (by omega)]; exact hp i y hy
  · rw [if_neg (by omega)]; exact hp (i + 1) y hy
theorem LP.step {w wr w1 : World} {g p k : Nat} {x : Int} {l' : List Int} {f' : Int → Int} (h1 : RS B wr o b (some ⟨g, 0, none⟩) c l' f') (h2 : Chg o b (some g) (some g) w wr) (h3 : ∀ (i : Nat) (x : Int), l'[i]? = some x → f' x = if i < p + k then (i : Int) else (i : Int) + 1)
    (hx : l'[p + k]? = some x) (ht : Trn wr w1 b) (tm : Tm w1 b l' (fun y => if y = x then ((p + k : Nat) : Int) else f' y)) : LP w B o b g c p l' (k + 1) w1 := by
  obtain ⟨r1, r2⟩ := h1.mapped ht tm
  refine ⟨_, r1, h2.trans r2, fun i y hy => ?_⟩
  by_cases e : y = x
  · subst e
    have := nd_inj h1.nd hy hx
    show (if y = y then _ else _) = _
    rw [if_pos rfl, if_pos (by omega), this]
  · show (if y = x then _ else _) = _
    rw [if_neg e, h3 i y hy]
    have hne : i ≠ p + k := fun e2 => e (by subst e2; rw [hy] at hx; injection hx)
    by_cases c1 : i < p + k
    · rw [if_pos c1, if_pos (by omega)]
    · rw [if_neg c1, if_neg (by omega)]
theorem LP.done {w wr : World} {g p k : Nat} {l' : List Int} (h : LP w B o b g c p l' k wr) (hk : l'.length ≤ p + k) : RG B wr o b (some ⟨g, 0, none⟩) c l' ∧ Chg o b (some g) (some g) w wr := by
  obtain ⟨f', h1, h2, h3⟩ := h
  refine ⟨⟨f', h1, fun i x hx => ?_⟩, h2⟩
  have := at_lt hx
  rw [h3 i x hx, if_pos (by omega)]

/-- One is gone. -/
def RemR (B o b : Nat) (P : Option Addr) (c : Nat) (l : List Int) (w : World) (e : Ending) (w' : World) : Prop :=
  e = .returned (.bool true) ∧ RG B w' o b P c l ∧ Chg o b (blk P) (blk P) w w'
set_option maxHeartbeats 4000000 in
theorem remove_yes {p : Nat} (x : Int) (w : World) (h : RS B w o b P c l f) (hpl : Pl l f) (hp : l[p]? = some x) (hl : l.length ≤ 1000) : Calls Tryd.prog 31 #[.pointer (some ⟨o, 0, none⟩), .int .i64 x] w (RemR B o b P c (l.eraseIdx p) w) := by
  obtain ⟨g, rfl, hcg⟩ := h.at hp
  have hm := at_mem hp
  have hx := h.wf x hm
  have e1 := decide_eq_true hm
  have hrun := h.tm.get hx.2 hm
  rw [hpl p x hp] at hrun
  have hlt := at_lt hp
  have hcap := row_cap h.own
  have hcl := cut_len hp
  obtain ⟨l', hl'⟩ : ∃ l', l' = l.eraseIdx p := ⟨_, rfl⟩
  rw [← hl'] at hcl ⊢
  have b1 : IntKind.i64.wrap ((p : Int) + 1) = (p : Int) + 1 := by rw [IntKind.wrap_i64]; omega
  have b2 : p ≤ l'.length := by omega
  have b3 : ¬ c = p := by omega
  have b4 : ((l'.length - p : Nat) : Int) ≤ 1000 := by omega
  have b5 : p ≤ c := by omega
  have b6 : l'.length ≤ c := by omega
  have hc0 := h.c0
  have hc1 := h.c1
  have HA := Lib.hid h
  have HL := Lib.hid hl'
  have HP := Lib.hid hpl
  have HX := Lib.hid hx
  have HI := Lib.hid hp
  clear h hpl hx hp hcg hm hl'
  go_enter Tryd.func31, Tryd.ntmps31
  go_wp2_with fail
  refine (has_any x w HA.out HX.out.2).mono ?_
  rintro e w' ⟨rfl, rfl⟩
  rw [e1]
  go_wp2_with (at_delete; go_loud (refine wp_delete rfl (.tmp 25) (.tmp 26) rfl HA.out.tm HA.out.nd HX.out.2 HI.out rfl rfl ?_; intro w1 ht tm; have e2 : w1.cell? ⟨o, 0, none⟩ = some (.slice (some ⟨g, 0, none⟩) l.length c) := (cell_blk (ht.2.2.2.2 o HA.out.ne) 0).trans hc0; have HT := Lib.hid ht; have HM := Lib.hid tm; clear ht tm))
  have HR : Hid (w1.ownsRow B 3 1 (.slice (some ⟨g, 0, none⟩) l.length c) l.length (iV l)) := row_keep HA.out.own fun k hk => HT.out.2.2.2.2 k fun e => HA.out.npb (by rw [← e]; exact hk)
  refine (del_any w1 HR.out HI.out HL.out).mono ?_
  rintro e w2 ⟨rfl, q, hw2⟩
  have HE : Hid (LP w B o b g c p l' 0 (w2.setCell ⟨o, 0, none⟩ (.slice (some ⟨g, 0, none⟩) l'.length c))) := by
    have := HA.out.cut (q := q) HI.out HT.out HM.out
    rw [← HL.out, ← hw2] at this
    exact LP.start (x := x) HL.out HP.out this
  have hc2 : w2.cell? ⟨o, 0, none⟩ = some (.slice (some ⟨g, 0, none⟩) l.length c) := by
    rw [hw2, cell_blk ((set_os _ 0 (w1.drewN q)).2.2.2.2 o (fun e => HA.out.npo (by rw [e]; rfl)))]; exact e2
  have hf2 : w2.frozen? ⟨o, 0, none⟩ = false := by
    rw [hw2, frozen_blk ((set_os _ 0 (w1.drewN q)).2.2.2.2 o (fun e => HA.out.npo (by rw [e]; rfl)))]; exact (frozen_blk (HT.out.2.2.2.2 o HA.out.ne) 0).trans (HA.out.fo 0)
  clear hw2 hc0 hc1 hrun e2 HR HT HM HI HP HL
  go_wp2_with fail
  go_loopw [45] (fun i wr => ∃ k : Nat, k ≤ l'.length - p ∧ i = .int .i64 k ∧ Hid (LP w B o b g c p l' k wr)) (fun i _ => l'.length - p - (intOf i).toNat)
  case atStart => exact ⟨0, by omega, rfl, HE⟩
  case round =>
    clear HE hc2 hf2
    obtain ⟨k, hk, rfl, HK⟩ := hrel
    by_cases hlt2 : k < l'.length - p
    · obtain ⟨f', r1, r2, r3⟩ := HK.out
      have hxx : l'[p + k]? = some (l'[p + k]'(by omega)) := List.getElem?_eq_getElem (by omega)
      generalize l'[p + k]'(by omega) = y at hxx
      have hy := r1.wf y (at_mem hxx)
      have hrun := r1.tm.get hy.2 (at_mem hxx)
      rw [r3 _ y hxx, if_neg (by omega)] at hrun
      have d1 := r1.c1
      have d2 := by have := r1.own.cellAt (p + k) (by omega); rw [iV_at hxx] at this; exact this
      have HS := Lib.hid (And.intro r1 (And.intro r2 r3))
      have HY := Lib.hid (And.intro hxx hy)
      have hlc : (k : Int) < ((l'.length - p : Nat) : Int) := by omega
      have b7 : IntKind.i64.wrap (((p + k : Nat) : Int) + 1 - 1) = ((p + k : Nat) : Int) := by rw [IntKind.wrap_i64]; omega
      clear HK r1 r2 r3 hxx hy
      generalize hj : p + k = j at *
      go_wp2_with (at_mapUpdate; go_loud (refine wp_store rfl (.tmp 52) (.tmp 53) (.tmp 55) rfl HS.out.1.tm HY.out.2.2 (v := (j : Int)) (wf_of (by omega) (by omega)) (by unfold maxLen; omega) (at_mem HY.out.1) rfl rfl (by first | rfl | (simp; done)) ?_; intro w3 ht tm; have HQ : Hid (LP w B o b g c p l' (k + 1) w3) := (by subst hj; exact LP.step HS.out.1 HS.out.2.1 HS.out.2.2 HY.out.1 ht tm); clear ht tm))
      go_wp2_with fail
      go_roundw
      case rel => exact ⟨k + 1, by omega, by go_num, HQ⟩
      case measure => simp [intOf]; omega
    · have hd := LP.done HK.out (by omega)
      have hlc : ¬ (k : Int) < ((l'.length - p : Nat) : Int) := by omega
      have HD := Lib.hid hd
      clear HK hd
      go_wp2_with fail
      go_ret
      exact ⟨rfl, HD.out⟩
end
end Go.Proofs.YthiifnbgdajgaaaDoor
