/- What Remove and Pop of package heap do. Conditions: each theorem's own premises.
Slices of numbers that came in; the one at n of so many. No condition.
Slices that read as a row of items; append onto a row of the call's own. No condition. -/
import Derived.Test.YtmadcnpkaijllaaGreatStlm
import Derived.Outline
import Derived.Deep.Cut
import Derived.Deep.CutRange
import Derived.Deep.DeepCutAuto
import Derived.Deep.CutBlock
import Derived.Maps.AppendAt
import Derived.Deep.RegionHeld3
namespace Go.Proofs.YtmadcnpkaijllaaGreat
open Go.RowKit
set_option linter.unusedVariables false
set_option maxRecDepth 100000
/-- An item. -/
abbrev vI (x : It) : Value := .agg #[.int .i64 x.id, .int .i64 x.w, .int .i64 x.s]
section
variable {B o b c n : Nat} {p : Option Nat} {P : Option Addr} {S m : List It} {K : List Int} {f : Int → Int} {w w' w1 : World} {e : Ending} {v : Value}
theorem remove_no {k : Int} (h : HG B w o b p n S) (hk : Wf k) (hm : k ∉ ids S) : Calls Tryz.prog 95 #[.pointer (some ⟨o, 0, none⟩), .int .i64 k] w (IbR zI false w) := by
  obtain ⟨P, c, m, f, e0, h1, h2, h3, h4⟩ := h
  have d := decide_eq_false (fun e => hm ((ids_perm h4).mem_iff.1 e) : k ∉ ids m)
  have HA := Lib.hid h1
  clear h1 h2 h3 h4
  go_enter Tryz.func95, Tryz.ntmps95
  go_wp2_with fail
  refine (place_any k _ (HA.out.later (below_al _ _)) hk).mono ?_
  rintro e w' ⟨⟨v, rfl, _⟩, rfl⟩
  rw [d]
  go_wp2_with fail
  refine bodyPost_ret (v := .tuple #[.agg #[.int .i64 0, .int .i64 0, .int .i64 0], .bool false]) ?_ rfl ⟨rfl, ?_⟩
  · rw [results_cell_tmp rfl]; go_simp; try rfl
  · first | exact below_al _ _ | (repeat' (first | exact below_al _ _ | refine Below.alloc ?_ (by omega) _))
section
variable {ops : Array Oper} {rest : List Oper} {op : Oper} {a : Act} {Q : Exit → Act → World → Prop} {x : Int} {q : Nat}
theorem wp_delete (hg : op.guard = none) (u y : Operand) (hop : op.op = Op.call { callee := Callee.builtin Builtin.delete, args := #[u, y], argTypes := #[62, 3] })
    (h : Tm w b K f) (hd : K.Nodup) (hx : Wf x) (hp : K[q]? = some x) (hm : a.eval u = .map (some b)) (hy : a.eval y = .int .i64 x)
    (hK : ∀ w', Trn w w' b → Tm w' b (K.eraseIdx q) f → wpList Tryz.prog ops Q rest (a.put op.dst (.tuple #[])) w') : wpList Tryz.prog ops Q (op :: rest) a w := by
  refine wpList_plain hg fun K' hK' => ?_
  obtain ⟨w', hrun, r1, r2⟩ := h.drop hd hx hp op.type
  unfold Oper.wp
  simp [execOp, hop, resolve, invoke, builtin, hm, hy, hrun, Result.andThen]
  exact hK' _ _ (hK w' r1 r2)
end
/-- A block of an item of its own. -/
def Blk (w : World) (s : Nat) (x : It) : Prop := w.heap[s]? = some (.cells #[.int .i64 x.id, .int .i64 x.w, .int .i64 x.s] 139 (0, 0))
theorem Blk.new (w : World) (x : It) : Blk (w.alloc (.cells #[.int .i64 x.id, .int .i64 x.w, .int .i64 x.s] 139)) w.heap.size x := heap_alloc_new w _
theorem Blk.later {s : Nat} {x : It} (h : Blk w s x) (hb : Below w.heap.size w w') : Blk w' s x := (hb.block s (lt_of_blk h)).trans h
theorem Blk.chg {p p' : Option Nat} {s : Nat} {x : It} (h : Blk w s x) (hc : Chg o b p p' w w') (hn : o ≠ s ∧ b ≠ s ∧ p ≠ some s) : Blk w' s x := (hc.block s (lt_of_blk h) (fun e => hn.1 e.symm) (fun e => hn.2.1 e.symm) hn.2.2).trans h
theorem Blk.cells {s : Nat} {x : It} (h : Blk w s x) : w.cell? ⟨s, 0, none⟩ = some (.int .i64 x.id) ∧ w.cell? ⟨s, 1, none⟩ = some (.int .i64 x.w) ∧ w.cell? ⟨s, 2, none⟩ = some (.int .i64 x.s) ∧ w.frozen? ⟨s, 0, none⟩ = false ∧ w.frozen? ⟨s, 1, none⟩ = false ∧ w.frozen? ⟨s, 2, none⟩ = false :=
  ⟨by rw [cell_of_row w s 0 _ _ _ h]; rfl, by rw [cell_of_row w s 1 _ _ _ h]; rfl, by rw [cell_of_row w s 2 _ _ _ h]; rfl, frozen_of_row w s 0 _ _ h, frozen_of_row w s 1 _ _ h, frozen_of_row w s 2 _ _ h⟩
theorem Blk.set3 {s : Nat} {x : It} (h : Blk w s x) (y : It) : Blk (((w.setCell ⟨s, 0, none⟩ (.int .i64 y.id)).setCell ⟨s, 1, none⟩ (.int .i64 y.w)).setCell ⟨s, 2, none⟩ (.int .i64 y.s)) s y := by
  have h1 := heap_setCell_same w s 0 _ _ (.int .i64 y.id) h
  have h2 := heap_setCell_same _ s 1 _ _ (.int .i64 y.w) h1
  have h3 := heap_setCell_same _ s 2 _ _ (.int .i64 y.s) h2
  exact h3
theorem Chg.set {p' : Option Nat} {s : Nat} (h : Chg o b p p' w w') (hs : w.heap.size ≤ s) (j : Nat) (v : Value) : Chg o b p p' w (w'.setCell ⟨s, j, none⟩ v) :=
  ⟨h.os, h.tape, h.output, by have := h.size; simpa [World.setCell] using this, fun k hk a1 a2 a3 => (Below.heap_setCell _ _ _ _ (show k ≠ s by omega)).trans (h.block k hk a1 a2 a3), h.new⟩
theorem HG.set {s : Nat} (h : HG B w o b p n S) (ne : o ≠ s ∧ b ≠ s ∧ p ≠ some s) (j : Nat) (v : Value) : HG B (w.setCell ⟨s, j, none⟩ v) o b p n S :=
  h.keep (Below.heap_setCell _ _ _ _ (by exact ne.1)) (Below.heap_setCell _ _ _ _ (by exact ne.2.1)) fun k hk => Below.heap_setCell _ _ _ _ (show k ≠ s from fun e => ne.2.2 (by rw [← e]; exact hk))
/-- .. its slice lies where it lay. -/
def ChS (B o b : Nat) (p : Option Nat) (n : Nat) (S : List It) (v : Value) (w : World) (e : Ending) (w' : World) : Prop := e = .returned v ∧ HG B w' o b p n S ∧ Chg o b p p w w'
theorem ChS.chr (h : ChS B o b p n S v w e w') : ChR B o b p n S v w e w' := ⟨h.1, p, h.2.1, h.2.2⟩
theorem SetR.chs {l0 : List It} (h : SetR B o b P c n l0 w1 e w') (hp : l0.Perm S) (hc : Chg o b (blk P) (blk P) w w1) (he : v = .tuple #[]) : ChS B o b (blk P) n S v w e w' := by
  obtain ⟨h1, m, f, h2, h3, h4, h5, h6⟩ := h
  exact ⟨by rw [h1, he], ⟨P, c, m, f, rfl, h2, h3, h4, h5.trans hp⟩, hc.trans h6⟩
theorem end_set {u : Value} {x : It} (h : ChS B o b p n S v w e w') (ne : o ≠ w.heap.size ∧ b ≠ w.heap.size ∧ p ≠ some w.heap.size) : ChS B o b p n S u w (.returned u) (((w'.setCell ⟨w.heap.size, 0, none⟩ (.int .i64 x.id)).setCell ⟨w.heap.size, 1, none⟩ (.int .i64 x.w)).setCell ⟨w.heap.size, 2, none⟩ (.int .i64 x.s)) :=
  ⟨rfl, ((h.2.1.set ne 0 _).set ne 1 _).set ne 2 _, ((h.2.2.set (Nat.le_refl _) 0 _).set (Nat.le_refl _) 1 _).set (Nat.le_refl _) 2 _⟩
/-- What is left when the one at i goes. -/
theorem left_perm {i k : Nat} {x z : It} (hk : m.length = k + 1) (hi : m[i]? = some x) (hz : m[k]? = some z) (hn : (ids m).Nodup) : (i < k → ((m.take k).set i z).Perm (del x.id m)) ∧ (i = k → m.take k = del x.id m) := by
  have e1 : m = m.take k ++ [z] := by
    have := List.take_append_drop k m
    rw [List.drop_eq_getElem_cons (by omega), List.drop_eq_nil_of_le (by omega)] at this
    rw [List.getElem?_eq_some_iff] at hz
    obtain ⟨h1, h2⟩ := hz
    rw [h2] at this
    exact this.symm
  have e2 := del_at hn hi rfl
  constructor
  · intro h
    have := set_perm (l := m.take k) z (i := i) (by simp; omega)
    rw [← e1] at this
    rw [e2]; exact this
  · rintro rfl
    rw [e2, List.eraseIdx_eq_take_drop_succ, List.drop_eq_nil_of_le (by omega), List.append_nil]
/-- The one that goes away is the last one. -/
theorem left_last {i k : Nat} {x : It} (hk : m.length = k + 1) (h : HB B w' o b P c n (m.take k) ((ids m).eraseIdx i) f) (hi : i = k) (hpl : Pl m f) (hh : Hp m) (hp : m.take k = del x.id m) (h4 : m.Perm S) : HG B w' o b (blk P) n (del x.id S) := by
  subst hi
  have e1 : (ids m).eraseIdx i = ids (m.take i) := by
    rw [List.eraseIdx_eq_take_drop_succ, List.drop_eq_nil_of_le (by rw [ids_len]; omega), List.append_nil]
    simp [ids]
  rw [e1] at h
  refine ⟨P, c, m.take i, f, rfl, h, fun q z hz => ?_, hp_take hh i, ?_⟩
  · have := at_lt hz
    simp at this
    rw [List.getElem?_take_of_lt (by omega)] at hz
    exact hpl q z hz
  · rw [hp]; exact del_perm h4
theorem left_way {i k : Nat} {x z : It} (hk : m.length = k + 1) (h : HB B w' o b P c n (m.take k) ((ids m).eraseIdx i) f) (hik : i < k) (hi : m[i]? = some x) (hz : m[k]? = some z) (hn : (ids m).Nodup) (hpl : Pl m f) (hh : Hp m) :
    Way HpAt B o b P c n ((ids m).eraseIdx i) ((m.take k).set i z) z w' (m.take k) f i w' := by
  have hil : i < (m.take k).length := by simp; omega
  have e2 := del_at hn hi rfl
  have e3 := (left_perm hk hi hz hn).1 hik
  have e4 : ids (del x.id m) = (ids m).eraseIdx i := by rw [e2]; simp [ids, List.eraseIdx_eq_take_drop_succ, List.map_take, List.map_drop]
  refine ⟨h, ⟨hil, List.Perm.refl _, (ids_perm e3).nodup_iff.2 (nd_del hn), .inl ?_, fun q y _ hy => ?_⟩, at_set (at_of_hp (hp_take hh k) i hil) z, List.Perm.refl _, Chg.refl _ _⟩
  · rw [← e4]; exact (ids_perm e3).symm
  · have := at_lt hy
    simp at this
    rw [List.getElem?_take_of_lt (by omega)] at hy
    exact hpl q y hy
set_option maxHeartbeats 8000000 in
theorem remove_yes {x : It} (h : HG B w o b p n S) (hS : Ok n S) (hx : x ∈ S) (hl : S.length ≤ 1000) :
    Calls Tryz.prog 95 #[.pointer (some ⟨o, 0, none⟩), .int .i64 x.id] w (ChS B o b p n (del x.id S) (.tuple #[vI x, .bool true]) w) := by
  obtain ⟨P, c, m, f, e0, h1, h2, h3, h4⟩ := h
  subst e0
  have hxm := h4.mem_iff.2 hx
  obtain ⟨i, hi, hil⟩ := mem_at hxm
  have hmm := mem_ids hxm
  have d := decide_eq_true hmm
  have hfi := h2 i x hi
  have hk := h1.wf x hxm
  have hnd : (ids m).Nodup := (ids_perm h4).nodup_iff.2 hS.ids
  have hlen := h4.length_eq
  obtain ⟨g, rfl, d0, d1, d2⟩ := h1.at hi
  obtain ⟨z, hz⟩ := ex_at (l := m) (p := m.length - 1) (by omega)
  obtain ⟨k, hkk⟩ : ∃ k, m.length = k + 1 := ⟨m.length - 1, by omega⟩
  rw [show m.length - 1 = k by omega] at hz
  obtain ⟨g', e', y0, y1, y2⟩ := h1.at hz
  obtain rfl : g' = g := by injection e' with e'; injection e' with e'; exact e'.symm
  have c0 := h1.c0
  have c1 := h1.c1
  have f0 := h1.fo 0
  have ho := h1.lo
  have hg := (row_lt h1.own (k := g') rfl).2
  have hcap := row_cap h1.own
  have hil2 : i < k + 1 := by omega
  have HA := Lib.hid h1
  have HM := Lib.hid hmm
  have HI := Lib.hid (And.intro hi (And.intro hz hnd))
  have HQ := Lib.hid (And.intro h2 (And.intro h3 h4))
  have HL := Lib.hid hkk
  have b1 : IntKind.i64.wrap (((k + 1 : Nat) : Int) - 1) = (k : Int) := by rw [IntKind.wrap_i64]; omega
  have b2 : IntKind.i64.wrap ((k : Int) + 1 - 1) = (k : Int) := by rw [IntKind.wrap_i64]; omega
  have b3 : k ≤ c := by omega
  have b4 : (k : Int) ≤ 1000 := by omega
  rw [hkk] at c0
  clear h1 h2 h3 h4 hi hz hnd hmm hlen e' hx hxm
  go_enter Tryz.func95, Tryz.ntmps95
  go_wp2_with fail
  refine (place_any x.id _ (HA.out.later (below_al _ _)) hk).mono ?_
  rintro e w' ⟨⟨v, rfl, hv⟩, rfl⟩
  rw [d]
  have hv2 := hv HM.out
  rw [hfi] at hv2
  subst hv2
  clear hv hfi d
  go_wp2_with fail
  clear hkk hil
  go_region
  go_upto_region 6 with (fail)
  have hb2 : Below w.heap.size w (((w.alloc (.cells #[.int .i64 0, .int .i64 0, .int .i64 0] 139)).alloc (.cells #[.int .i64 x.id, .int .i64 x.w, .int .i64 x.s] 139)).alloc (.cells #[.int .i64 z.id, .int .i64 z.w, .int .i64 z.s] 139)).drew := ((((Below.refl _ _).alloc (Nat.le_refl _) _).alloc (by simp) _).alloc (by simp; omega) _).drew
  have HA2 := Lib.hid (HA.out.later hb2)
  have X0 : Hid (Blk (((w.alloc (.cells #[.int .i64 0, .int .i64 0, .int .i64 0] 139)).alloc (.cells #[.int .i64 x.id, .int .i64 x.w, .int .i64 x.s] 139)).alloc (.cells #[.int .i64 z.id, .int .i64 z.w, .int .i64 z.s] 139)).drew w.heap.size zI) := (((Blk.new w zI).later (below_al _ _)).later (below_al _ _)).later (Below.refl _ _).drew
  have X1 : Hid (Box (((w.alloc (.cells #[.int .i64 0, .int .i64 0, .int .i64 0] 139)).alloc (.cells #[.int .i64 x.id, .int .i64 x.w, .int .i64 x.s] 139)).alloc (.cells #[.int .i64 z.id, .int .i64 z.w, .int .i64 z.s] 139)).drew (w.heap.size + 1) x) := by
    have := ((Box.new (w.alloc (.cells #[.int .i64 0, .int .i64 0, .int .i64 0] 139)) x).later (below_al _ (.cells #[.int .i64 z.id, .int .i64 z.w, .int .i64 z.s] 139))).later (Below.refl _ _).drew
    rwa [World.size_alloc] at this
  have X2 : Hid (Box (((w.alloc (.cells #[.int .i64 0, .int .i64 0, .int .i64 0] 139)).alloc (.cells #[.int .i64 x.id, .int .i64 x.w, .int .i64 x.s] 139)).alloc (.cells #[.int .i64 z.id, .int .i64 z.w, .int .i64 z.s] 139)).drew (w.heap.size + 1 + 1) z) := by
    have := (Box.new ((w.alloc (.cells #[.int .i64 0, .int .i64 0, .int .i64 0] 139)).alloc (.cells #[.int .i64 x.id, .int .i64 x.w, .int .i64 x.s] 139)) z).later (Below.refl _ _).drew
    rwa [World.size_alloc, World.size_alloc] at this
  have C2 := Lib.hid (Chg.of_below (o := o) (b := b) (some g') hb2)
  generalize (((w.alloc (.cells #[.int .i64 0, .int .i64 0, .int .i64 0] 139)).alloc (.cells #[.int .i64 x.id, .int .i64 x.w, .int .i64 x.s] 139)).alloc (.cells #[.int .i64 z.id, .int .i64 z.w, .int .i64 z.s] 139)).drew = w2 at *
  clear hb2 y0 y1 y2 d0 d1 d2 c0 c1 f0
  have c0 := HA2.out.c0
  rw [HL.out] at c0
  have c1 := HA2.out.c1
  have f0 := HA2.out.fo 0
  go_upto_region 7 with (fail)
  have HS : Hid (HB B (w2.setCell ⟨o, 0, none⟩ (.slice (some ⟨g', 0, none⟩) k c)) o b (some ⟨g', 0, none⟩) c n (m.take k) (ids m) f ∧ Chg o b (some g') (some g') w2 (w2.setCell ⟨o, 0, none⟩ (.slice (some ⟨g', 0, none⟩) k c))) := HA2.out.short (by have := HL.out; omega)
  have nb := HA.out.tm.lt
  have N0 : Hid (o ≠ w.heap.size ∧ b ≠ w.heap.size ∧ some g' ≠ some w.heap.size) := ⟨by omega, by omega, by simp; omega⟩
  have N1 : Hid (o ≠ w.heap.size + 1 ∧ b ≠ w.heap.size + 1 ∧ some g' ≠ some (w.heap.size + 1)) := ⟨by omega, by omega, by simp; omega⟩
  have N2 : Hid (o ≠ w.heap.size + 1 + 1 ∧ b ≠ w.heap.size + 1 + 1 ∧ some g' ≠ some (w.heap.size + 1 + 1)) := ⟨by omega, by omega, by simp; omega⟩
  have Y0 := Lib.hid (X0.out.chg HS.out.2 N0.out)
  have Y1 := Lib.hid (X1.out.chg HS.out.2 N1.out)
  have Y2 := Lib.hid (X2.out.chg HS.out.2 N2.out)
  have C3 := Lib.hid (C2.out.trans HS.out.2)
  generalize w2.setCell ⟨o, 0, none⟩ (.slice (some ⟨g', 0, none⟩) k c) = w3 at *
  have c1' := HS.out.1.c1
  clear X0 X1 X2 C2 c0 c1 f0
  go_upto_region 8 with (at_delete; go_loud (refine wp_delete rfl (.tmp 52) (.tmp 53) rfl HS.out.1.tm HI.out.2.2 hk (ids_at HI.out.1) rfl rfl ?_; intro w4 ht tm; have HM4 := Lib.hid (HS.out.1.mapped ht tm); clear ht tm))
  have Z0 := Lib.hid (Y0.out.chg HM4.out.2 N0.out)
  have Z1 := Lib.hid (Y1.out.chg HM4.out.2 N1.out)
  have Z2 := Lib.hid (Y2.out.chg HM4.out.2 N2.out)
  have C4 := Lib.hid (C3.out.trans HM4.out.2)
  clear Y0 Y1 Y2 C3 HS HA2 c1'
  by_cases hik : i < k
  · have hi2 : (i : Int) < (k : Int) := by omega
    have HT := Lib.hid (settle_any i z w4 (left_way HL.out HM4.out.1 hik HI.out.1 HI.out.2.1 HI.out.2.2 HQ.out.1 HQ.out.2.1) (HA.out.wf z (at_mem HI.out.2.1)) (by have := HL.out; simp; omega))
    obtain ⟨zs, z0, z1, z2⟩ := Z2.out
    go_wp2_with fail
    refine HT.out.mono ?_
    rintro e w5 hR
    have Hc : Hid (Chg o b (some g') (some g') w4 w5) := by obtain ⟨_, _, _, _, _, _, _, h6⟩ := hR; exact h6
    obtain rfl := hR.1
    have HR : Hid (ChS B o b (some g') n (del x.id S) (.tuple #[]) w (.returned (.tuple #[])) w5) := hR.chs (((left_perm HL.out HI.out.1 HI.out.2.1 HI.out.2.2).1 hik).trans (del_perm HQ.out.2.2)) C4.out rfl
    have V0 := Lib.hid (Z0.out.chg Hc.out N0.out)
    have V1 := Lib.hid (Z1.out.chg Hc.out N1.out)
    clear Z0 Z1 Z2 C4 HT HM4 hR z0 z1 z2 zs
    obtain ⟨v0, v1, v2, v3, v4, v5⟩ := V0.out.cells
    obtain ⟨s1, x0, x1, x2⟩ := V1.out
    have HF : Hid (ChS B o b (some g') n (del x.id S) (.tuple #[vI x, .bool true]) w (.returned (.tuple #[vI x, .bool true])) (((w5.setCell ⟨w.heap.size, 0, none⟩ (.int .i64 x.id)).setCell ⟨w.heap.size, 1, none⟩ (.int .i64 x.w)).setCell ⟨w.heap.size, 2, none⟩ (.int .i64 x.s))) := end_set HR.out N0.out
    have HV := Lib.hid (V0.out.set3 x)
    clear HR V0 V1 Hc
    go_wp2_with fail
    refine bodyPost_ret (v := .tuple #[vI x, .bool true]) ?_ rfl HF.out
    rw [results_cell_tmp rfl]
    go_simp
  · obtain rfl : i = k := by omega
    have hi2 : ¬ (i : Int) < (i : Int) := by omega
    have HR : Hid (ChS B o b (some g') n (del x.id S) (.tuple #[]) w (.returned (.tuple #[])) w4) := ⟨rfl, left_last HL.out HM4.out.1 rfl HQ.out.1 HQ.out.2.1 ((left_perm HL.out HI.out.1 HI.out.2.1 HI.out.2.2).2 rfl) HQ.out.2.2, C4.out⟩
    obtain ⟨v0, v1, v2, v3, v4, v5⟩ := Z0.out.cells
    obtain ⟨s1, x0, x1, x2⟩ := Z1.out
    have HF : Hid (ChS B o b (some g') n (del x.id S) (.tuple #[vI x, .bool true]) w (.returned (.tuple #[vI x, .bool true])) (((w4.setCell ⟨w.heap.size, 0, none⟩ (.int .i64 x.id)).setCell ⟨w.heap.size, 1, none⟩ (.int .i64 x.w)).setCell ⟨w.heap.size, 2, none⟩ (.int .i64 x.s))) := end_set HR.out N0.out
    clear HR Z0 Z1 Z2 HM4 C4
    go_wp2_with fail
    refine bodyPost_ret (v := .tuple #[vI x, .bool true]) ?_ rfl HF.out
    rw [results_cell_tmp rfl]
    go_simp
end
end Go.Proofs.YtmadcnpkaijllaaGreat
namespace Go.Proofs.YtmadcnpkaijllaaGreat
open Go.RowKit
set_option linter.unusedVariables false
set_option maxRecDepth 100000
theorem rn_nil (w : World) (A : Option Addr) : Rn w A 0 [] := ⟨rfl, fun h => absurd h (by omega)⟩
/-! Slices that came in. -/
theorem row_at {k : IntKind} {w : World} {x : Addr} {zs : List Int} (hcell : ∀ i, i < zs.length → w.cell? (x.add i) = some (.int k (zs.getD i 0))) (h0 : 0 < zs.length) :
    ∃ b off, x = ⟨b, off, none⟩ ∧ b < w.heap.size ∧ ∀ i, i < zs.length → w.cell? ⟨b, off + i, none⟩ = some (.int k (zs.getD i 0)) := by
  have hc := hcell 0 h0
  obtain ⟨b, off, spot⟩ := x
  have hspot : spot = none := by simpa [Addr.add] using World.cell?_spot hc
  subst hspot
  have e : ∀ i, (⟨b, off, none⟩ : Addr).add i = ⟨b, off + i, none⟩ := by
    intro i; unfold Addr.add
    by_cases h : i = 0
    · subst h; simp
    · simp [h]
  exact ⟨b, off, rfl, by simpa [e] using World.block_lt_of_cell? _ _ hc, fun i hi => by rw [← e]; exact hcell i hi⟩
theorem rn_of {w : World} {a : Option Addr} {len cap : Nat} {zs : List Int}
    (h : (a = none ∧ len = 0 ∧ cap = 0 ∧ zs = []) ∨ ∃ x, a = some x ∧ len ≤ cap ∧ cap ≤ maxLen ∧ zs.length = cap ∧ (∀ i, i < zs.length → w.cell? (x.add i) = some (.int .i64 (zs.getD i 0))) ∧ ∀ n ∈ zs, (Lit.int .i64 n).wf = true) : Rn w a len (zs.take len) := by
  rcases h with ⟨rfl, rfl, rfl, rfl⟩ | ⟨x, rfl, h1, h2, h3, h4, _⟩
  · exact rn_nil _ _
  · refine ⟨by rw [List.length_take]; omega, fun h0 => ?_⟩
    obtain ⟨b, off, rfl, hb, hc⟩ := row_at h4 (by omega)
    refine ⟨b, off, rfl, hb, fun j y hy => ?_⟩
    have hj : j < (zs.take len).length := (List.getElem?_eq_some_iff.1 hy).1
    rw [List.length_take] at hj
    rw [hc j (by omega)]
    rw [List.getElem?_take, if_pos (by omega)] at hy
    simp [List.getD_eq_getElem?_getD, hy]
/-- Its element k, later on. -/
theorem Rn.cell {W w : World} {A : Option Addr} {n k : Nat} {l : List Int} (h : Rn W A n l) (hb : Below W.heap.size W w) (hk : k < n) : ∃ b off x, A = some ⟨b, off, none⟩ ∧ b < W.heap.size ∧ l[k]? = some x ∧ w.cell? ⟨b, off + k, none⟩ = some (.int .i64 x) := by
  obtain ⟨b, off, e, h1, h2⟩ := h.2 (by omega)
  have hx : l[k]? = some (l[k]'(by rw [h.1]; exact hk)) := List.getElem?_eq_getElem _
  exact ⟨b, off, _, e, h1, hx, (cell_blk (hb.block b h1) _).trans (h2 k _ hx)⟩

/-- The one at n of so many, going round. -/
def pk (n : Int) (m : Nat) : Nat := (n % (m : Int)).toNat
theorem pk_lt (n : Int) {m : Nat} (h : 0 < m) : pk n m < m := by
  unfold pk
  have := Int.emod_lt_of_pos n (show (0 : Int) < (m : Int) by omega)
  have := Int.emod_nonneg n (show (m : Int) ≠ 0 by omega)
  omega
theorem drop_cons {S : List It} {i : Nat} (h : i < S.length) : ∃ x, S.drop i = x :: S.drop (i + 1) := ⟨_, List.drop_eq_getElem_cons h⟩
end Go.Proofs.YtmadcnpkaijllaaGreat
namespace Go.Proofs.YtmadcnpkaijllaaGreat
open Go.RowKit
set_option linter.unusedVariables false
set_option maxRecDepth 100000

/-- A slice of n elements, s cells each, reads as the row xs, below block B. -/
def Rd (w : World) (B : Nat) (A : Option Addr) (n s : Nat) (xs : List Value) : Prop :=
  xs.length = n * s ∧ (0 < n → ∃ b off, A = some ⟨b, off, none⟩ ∧ b < B ∧ ∀ j u, xs[j]? = some u → w.cell? ⟨b, off + j, none⟩ = some u)

theorem Rd.keep {w w' : World} {B B' : Nat} {A : Option Addr} {n s : Nat} {xs : List Value} (h : Rd w B A n s xs) (hB : B ≤ B') (hb : ∀ b, b < B → w'.heap[b]? = w.heap[b]?) : Rd w' B' A n s xs :=
  ⟨h.1, fun h0 => by
    obtain ⟨b, off, e, hl, hc⟩ := h.2 h0
    exact ⟨b, off, e, by omega, fun j u hu => (cell_blk (hb b hl) _).trans (hc j u hu)⟩⟩
theorem Rd.later {w w' : World} {A : Option Addr} {n s : Nat} {xs : List Value} (h : Rd w w.heap.size A n s xs) (hb : Below w.heap.size w w') : Rd w' w'.heap.size A n s xs :=
  h.keep hb.size fun b hl => hb.block b hl
theorem Rd.nil (w : World) (B s : Nat) (A : Option Addr) : Rd w B A 0 s [] := ⟨by simp, fun h => absurd h (by omega)⟩
theorem Rd.of_own {w : World} {base e s n c : Nat} {A : Option Addr} {xs : List Value} (h : w.ownsRow base e s (.slice A n c) n xs) : Rd w w.heap.size A n s xs := by
  refine ⟨h.1, fun hn => ?_⟩
  obtain ⟨g, cap, hv, _, hlt⟩ := h.form hn
  have hA : A = some ⟨g, 0, none⟩ := by injection hv
  subst hA
  exact ⟨g, 0, rfl, hlt, fun j u hu => by rw [Nat.zero_add, h.cellAt j (by rw [← h.1]; exact (List.getElem?_eq_some_iff.1 hu).1)]; exact hu⟩
/-- A row in a new block. -/
theorem Rd.new (w : World) (cs : Array Value) (n s : Nat) (t : TypeId) (h : cs.size = n * s) : Rd (w.alloc (.cells cs t)) (w.alloc (.cells cs t)).heap.size (some ⟨w.heap.size, 0, none⟩) n s cs.toList := by
  refine ⟨by simpa using h, fun _ => ⟨w.heap.size, 0, rfl, by simp, fun j u hu => ?_⟩⟩
  rw [Nat.zero_add, World.cell?_alloc_at _ _ _ _ rfl]
  simpa using hu

/-- A slice whose elements lie where they say. -/
theorem Rd.mk {α : Type} {f : α → List Value} {w : World} {b off n s : Nat} {l : List α} (hs : ∀ x, (f x).length = s) (h0 : 0 < s) (hn : l.length = n) (hb : b < w.heap.size)
    (h : ∀ i x, l[i]? = some x → ∀ k u, (f x)[k]? = some u → w.cell? ⟨b, off + i * s + k, none⟩ = some u) : Rd w w.heap.size (some ⟨b, off, none⟩) n s (l.flatMap f) := by
  refine ⟨by rw [flat_len f s hs, hn], fun _ => ⟨b, off, rfl, hb, fun j u hu => ?_⟩⟩
  obtain ⟨i, k, x, rfl, _, hx, hk⟩ := flat_mem f s hs h0 l j u hu
  rw [← Nat.add_assoc]
  exact h i x hx k u hk
theorem Rd.at {α : Type} {f : α → List Value} {w : World} {B n s : Nat} {A : Option Addr} {l : List α} (hs : ∀ x, (f x).length = s) (h : Rd w B A n s (l.flatMap f)) (h0 : 0 < n) :
    ∃ b off, A = some ⟨b, off, none⟩ ∧ b < B ∧ ∀ i x, l[i]? = some x → ∀ j, j < s → ∀ u, (f x)[j]? = some u → w.cell? ⟨b, off + i * s + j, none⟩ = some u := by
  obtain ⟨b, off, e, hl, hc⟩ := h.2 h0
  refine ⟨b, off, e, hl, fun i x hx j hj u hu => ?_⟩
  rw [Nat.add_assoc]
  exact hc _ _ ((flat_at f s hs l i x hx j hj).trans hu)


theorem own_cap {w : World} {base : Nat} {e : TypeId} {size n : Nat} {v : Value} {xs : List Value} (h : w.ownsRow base e size v n xs) : ∃ a c, v = .slice a n c ∧ n ≤ c ∧ c ≤ 9223372036854775807 := by
  rcases h.2 with ⟨rfl, rfl⟩ | ⟨g, cap, cur, rfl, _, _, h1, h2, _⟩
  · exact ⟨none, 0, rfl, by omega, by omega⟩
  · exact ⟨_, _, rfl, h1, h2⟩
section
variable {P : Program} {w : World}
theorem app_nil {base t ty e size n c : Nat} {i : TypeInfo} {v : Value} {xs : List Value} (ht : P.underlying t = some (.slice e)) (hi : P.info? e = some i) (ho : w.ownsRow base e size v n xs) : (Builtin.append_ #[t, t] ty #[v, .slice none 0 c]).run P w = .ok v w := by
  rcases ho.2 with ⟨rfl, rfl⟩ | ⟨g, cap, cur, rfl, _, _, hc, _⟩ <;> simp [Builtin.append_, run_underlying ht, sizeOf, typeInfo, Builtin.lenOf, Builtin.firstCells, storeCells, *]
theorem app_run {base t ty e size bytes n m c B : Nat} {i : TypeInfo} {z v : Value} {xs news : List Value} {A : Option Addr} (ht : P.underlying t = some (.slice e)) (hi : P.info? e = some i) (hz : i.zero = some z) (hs : i.size = size) (hby : i.bytes = bytes)
    (hzs : z.cells.size = size) (hp : 0 < size) (ho : w.ownsRow base e size v n xs) (hr : Rd w B A m size news) (h1 : ∀ u ∈ news, u.oneCell' = true) (h63 : n + m ≤ maxLen) (hb : (n + m) * bytes ≤ 140737488355328) (hbase : base ≤ w.heap.size) :
    ∃ v' w', (Builtin.append_ #[t, t] ty #[v, .slice A m c]).run P w = .ok v' w' ∧ w'.ownsRow base e size v' (n + m) (xs ++ news) ∧ w.grownBy w' v.ownBlock := by
  rcases Nat.eq_zero_or_pos m with h0 | h0
  · subst h0
    have hn : news = [] := List.eq_nil_of_length_eq_zero (by rw [hr.1, Nat.zero_mul])
    subst hn
    cases A with
    | none => exact ⟨v, w, app_nil ht hi ho, by rw [Nat.add_zero, List.append_nil]; exact ho, World.grownBy.refl _ _⟩
    | some a =>
      obtain ⟨v', w', r1, r2, r3, _⟩ := run_append_own_at (P := P) w base t ty e i z size bytes ht hi hz hs hby hzs hp v n xs ho a 0 c [] (by simp) (fun j u hu => by simp at hu) h1 h63 hb hbase
      exact ⟨v', w', r1, r2, r3⟩
  · obtain ⟨b, off, rfl, _, hc⟩ := hr.2 h0
    have hc' : ∀ j u, news[j]? = some u → w.cell? ((⟨b, off, none⟩ : Addr).add j) = some u := fun j u hu => by
      have h9 : (⟨b, off, none⟩ : Addr).add j = ⟨b, off + j, none⟩ := by unfold Addr.add; split <;> simp_all
      rw [h9]; exact hc j u hu
    obtain ⟨v', w', r1, r2, r3, _⟩ := run_append_own_at (P := P) w base t ty e i z size bytes ht hi hz hs hby hzs hp v n xs ho _ m c news hr.1 hc' h1 h63 hb hbase
    exact ⟨v', w', r1, r2, r3⟩
theorem app_wp {ops : Array Oper} {rest : List Oper} {o : Oper} {a : Act} {Q : Exit → Act → World → Prop} (hgd : o.guard = none) (s x : Operand) (t : TypeId) (hop : o.op = .call { callee := .builtin .append, args := #[s, x], argTypes := #[t, t] })
    (base e size bytes : Nat) (i : TypeInfo) (z : Value) (ht : P.underlying t = some (.slice e)) (hi : P.info? e = some i) (hz : i.zero = some z) (hs : i.size = size) (hby : i.bytes = bytes) (hzs : z.cells.size = size) (hp : 0 < size)
    (v : Value) (n : Nat) (xs : List Value) (hv : a.eval s = v) (ho : w.ownsRow base e size v n xs) (B : Nat) (A : Option Addr) (m c : Nat) (news : List Value) (hx : a.eval x = .slice A m c) (hr : Rd w B A m size news)
    (h1 : ∀ u ∈ news, u.oneCell' = true) (h63 : n + m ≤ maxLen) (hb : (n + m) * bytes ≤ 140737488355328) (hbase : base ≤ w.heap.size)
    (hK : ∀ v' w', w'.ownsRow base e size v' (n + m) (xs ++ news) → w.grownBy w' v.ownBlock → wpList P ops Q rest (a.put o.dst v') w') : wpList P ops Q (o :: rest) a w := by
  refine wpList_plain hgd fun K hK' => ?_
  obtain ⟨v', w', r1, r2, r3⟩ := app_run (P := P) (w := w) (ty := o.type) (c := c) ht hi hz hs hby hzs hp ho hr h1 h63 hb hbase
  unfold Oper.wp execOp
  simp only [hop, resolve, invoke, builtin, Sem.run_bind, Sem.run_pure, Result.andThen_ok, List.map_toArray, List.map_cons, List.map_nil, hv, hx, r1]
  exact hK' _ _ (hK v' w' r2 r3)
end
theorem app_want {P : Program} {w : World} {ops : Array Oper} {rest : List Oper} {o : Oper} {a : Act} {Q : Exit → Act → World → Prop} (hw : Region.wanted o (yielded ops a.tmps) = true) (s x : Operand) (t : TypeId) (hop : o.op = .call { callee := .builtin .append, args := #[s, x], argTypes := #[t, t] })
    (base e size bytes : Nat) (i : TypeInfo) (z : Value) (ht : P.underlying t = some (.slice e)) (hi : P.info? e = some i) (hz : i.zero = some z) (hs : i.size = size) (hby : i.bytes = bytes) (hzs : z.cells.size = size) (hp : 0 < size)
    (v : Value) (n : Nat) (xs : List Value) (hv : a.eval s = v) (ho : w.ownsRow base e size v n xs) (B : Nat) (A : Option Addr) (m c : Nat) (news : List Value) (hx : a.eval x = .slice A m c) (hr : Rd w B A m size news)
    (h1 : ∀ u ∈ news, u.oneCell' = true) (h63 : n + m ≤ maxLen) (hb : (n + m) * bytes ≤ 140737488355328) (hbase : base ≤ w.heap.size)
    (hK : ∀ v' w', w'.ownsRow base e size v' (n + m) (xs ++ news) → w.grownBy w' v.ownBlock → wpList P ops Q rest (a.put o.dst v') w') : wpList P ops Q (o :: rest) a w := by
  refine BigFrame.wpList_want hw fun K hK' => ?_
  obtain ⟨v', w', r1, r2, r3⟩ := app_run (P := P) (w := w) (ty := o.type) (c := c) ht hi hz hs hby hzs hp ho hr h1 h63 hb hbase
  unfold Oper.wp execOp
  simp only [hop, resolve, invoke, builtin, Sem.run_bind, Sem.run_pure, Result.andThen_ok, List.map_toArray, List.map_cons, List.map_nil, hv, hx, r1]
  exact hK' _ _ (hK v' w' r2 r3)

/-- An empty row that the call made. -/
theorem own_empty (w : World) (e size base N : Nat) (hN : N = w.heap.size) (hb : base ≤ w.heap.size) : (w.alloc (.cells #[] e)).ownsRow base e size (.slice (some ⟨N, 0, none⟩) 0 0) 0 [] := by
  subst hN
  exact World.ownsRow_lit w #[] 0 hb (by unfold maxLen; omega) (by simp)
theorem below_app {B : Nat} {W w w' : World} {base e size n : Nat} {v : Value} {xs : List Value} (hb : Below B W w) (hB : B ≤ base) (hs : B ≤ w.heap.size) (ho : w.ownsRow base e size v n xs) (hg : w.grownBy w' v.ownBlock) : Below B W w' :=
  hb.grown hg hs (fun k hk => Nat.le_trans hB (ho.lt k hk).1)


/-- append as one step of a region that draws. -/
theorem step_app {P : Program} {w : World} {ops : Array Oper} {o : Oper} {a : Act} {K : Act → World → Prop} {Q : Exit → Act → World → Prop} {E : Prop} (hgd : o.guard = none) (s x : Operand) (t : TypeId) (hop : o.op = .call { callee := .builtin .append, args := #[s, x], argTypes := #[t, t] })
    (base e size bytes : Nat) (i : TypeInfo) (z : Value) (ht : P.underlying t = some (.slice e)) (hi : P.info? e = some i) (hz : i.zero = some z) (hs : i.size = size) (hby : i.bytes = bytes) (hzs : z.cells.size = size) (hp : 0 < size)
    (v : Value) (n : Nat) (xs : List Value) (hv : a.eval s = v) (ho : w.ownsRow base e size v n xs) (B : Nat) (A : Option Addr) (m c : Nat) (news : List Value) (hx : a.eval x = .slice A m c) (hr : Rd w B A m size news)
    (h1 : ∀ u ∈ news, u.oneCell' = true) (h63 : n + m ≤ maxLen) (hb : (n + m) * bytes ≤ 140737488355328) (hbase : base ≤ w.heap.size)
    (hK : ∀ v' w', w'.ownsRow base e size v' (n + m) (xs ++ news) → w.grownBy w' v.ownBlock → K (a.put o.dst v') w') :
    if Region.wanted o (yielded ops a.tmps) = true then Oper.wp P o a w K Q else E := by
  have hw : Region.wanted o (yielded ops a.tmps) = true := by simp [Region.wanted, hgd]
  rw [if_pos hw]
  obtain ⟨v', w', r1, r2, r3⟩ := app_run (P := P) (w := w) (ty := o.type) (c := c) ht hi hz hs hby hzs hp ho hr h1 h63 hb hbase
  unfold Oper.wp execOp
  simp only [hop, resolve, invoke, builtin, Sem.run_bind, Sem.run_pure, Result.andThen_ok, List.map_toArray, List.map_cons, List.map_nil, hv, hx, r1]
  exact hK v' w' r2 r3

theorem inf39 : (Tryz.prog.info? 94).map (fun i => (i.zero, i.size, i.bytes)) = some (some (.agg #[.int .i64 0, .int .i64 0, .int .i64 0]), 3, 24) := by kernel_rfl
def RdI (w : World) (A : Option Addr) (n : Nat) (l : List It) : Prop := l.length = n ∧ Rd w w.heap.size A n 3 (iV l)
theorem RdI.later {w w' : World} {A : Option Addr} {n : Nat} {l : List It} (h : RdI w A n l) (hb : Below w.heap.size w w') : RdI w' A n l := ⟨h.1, h.2.later hb⟩
theorem RdI.nil (w : World) (A : Option Addr) : RdI w A 0 [] := ⟨rfl, Rd.nil _ _ _ _⟩
theorem RdI.cells {w : World} {A : Option Addr} {n : Nat} {l : List It} (h : RdI w A n l) (h0 : 0 < n) : ∃ b off, A = some ⟨b, off, none⟩ ∧ b < w.heap.size ∧
    ∀ i x, l[i]? = some x → w.cell? ⟨b, off + i * 3, none⟩ = some (.int .i64 x.id) ∧ w.cell? ⟨b, off + i * 3 + 1, none⟩ = some (.int .i64 x.w) ∧ w.cell? ⟨b, off + i * 3 + 2, none⟩ = some (.int .i64 x.s) := by
  obtain ⟨b, off, e, hl, hc⟩ := Rd.at eI_len h.2 h0
  exact ⟨b, off, e, hl, fun i x hx => ⟨hc i x hx 0 (by omega) _ rfl, hc i x hx 1 (by omega) _ rfl, hc i x hx 2 (by omega) _ rfl⟩⟩
/-- One item in a new block. -/
theorem Rd.one (w : World) (x : It) (N : Nat) (h : N = w.heap.size) : Rd (w.alloc (.cells #[.int .i64 x.id, .int .i64 x.w, .int .i64 x.s] 94)) (w.alloc (.cells #[.int .i64 x.id, .int .i64 x.w, .int .i64 x.s] 94)).heap.size (some ⟨N, 0, none⟩) 1 3 (iV [x]) := by
  subst h
  exact Rd.new w #[.int .i64 x.id, .int .i64 x.w, .int .i64 x.s] 1 3 94 rfl
theorem heap_e1 (w : World) : (w.alloc (.cells #[] 94)).heap[w.heap.size]? = some (.cells #[] 94 (0, 0)) := heap_alloc_new _ _
theorem heap_e2 (w : World) (o : Obj) : ((w.alloc (.cells #[] 94)).alloc o).heap[w.heap.size]? = some (.cells #[] 94 (0, 0)) := (Below.heap_alloc _ _ _ (by simp)).trans (heap_alloc_new _ _)
theorem heap_e3 (w : World) (o : Obj) : ((w.alloc o).alloc (.cells #[] 94)).heap[w.heap.size + 1]? = some (.cells #[] 94 (0, 0)) := by
  have := heap_alloc_new (w.alloc o) (.cells #[] 94)
  rw [World.size_alloc] at this
  exact this
theorem own_e {wx : World} {base N : Nat} (hN : wx.heap[N]? = some (.cells #[] 94 (0, 0))) (h : base ≤ N) : wx.ownsRow base 94 3 (.slice (some ⟨N, 0, none⟩) 0 0) 0 [] :=
  ⟨rfl, .inr ⟨N, 0, #[], rfl, h, hN, Nat.le_refl _, by unfold maxLen; omega, rfl, rfl⟩⟩
theorem own_heap {w w' : World} {base e s n : Nat} {v : Value} {xs : List Value} (h : w.ownsRow base e s v n xs) (hh : ∀ (k : Nat) (o : Obj), w.heap[k]? = some o → w'.heap[k]? = some o) : w'.ownsRow base e s v n xs :=
  ⟨h.1, h.2.imp id fun ⟨g, cap, cur, q1, q2, q3, q4⟩ => ⟨g, cap, cur, q1, q2, hh _ _ q3, q4⟩⟩

section
variable {w2 wx : World} {ops : Array Oper} {o : Oper} {a : Act} {K : Act → World → Prop} {Q : Exit → Act → World → Prop} {E : Prop}
/-- The copy. -/
theorem step_copy (hgd : o.guard = none) (s x : Operand) (hop : o.op = .call { callee := .builtin .append, args := #[s, x], argTypes := #[28, 28] })
    (N : Nat) (A : Option Addr) (m c : Nat) (l : List It) (hv : a.eval s = .slice (some ⟨N, 0, none⟩) 0 0) (hx : a.eval x = .slice A m c)
    (hN : wx.heap[N]? = some (.cells #[] 94 (0, 0))) (hle : w2.heap.size ≤ N) (hb : Below w2.heap.size w2 wx) (hr : RdI w2 A m l) (hm : m ≤ 1000)
    (hK : ∀ v' w', w'.ownsRow w2.heap.size 94 3 v' m (iV l) → Below w2.heap.size w2 w' → wx.grownBy w' (some N) → K (a.put o.dst v') w') :
    if Region.wanted o (yielded ops a.tmps) = true then Oper.wp Tryz.prog o a wx K Q else E := by
  obtain ⟨i0, hi, hz0, hz1, hz2⟩ := info_parts inf39
  have hE := own_e hN hle
  refine step_app hgd s x 28 hop w2.heap.size 94 3 24 i0 _ Tryz.underlying28 hi hz0 hz1 hz2 rfl (by decide) _ 0 [] hv hE _ A m c (iV l) hx (hr.later hb).2 (iV_one _) (by unfold maxLen; omega) (by omega) hb.size fun v' w' ho hg => ?_
  rw [Nat.zero_add, List.nil_append] at ho
  exact hK v' w' ho (below_app hb (Nat.le_refl _) hb.size hE hg) hg
/-- More behind it. -/
theorem step_more (hgd : o.guard = none) (s x : Operand) (hop : o.op = .call { callee := .builtin .append, args := #[s, x], argTypes := #[28, 28] })
    (v : Value) (A : Option Addr) (n m c : Nat) (l l' : List It) (hv : a.eval s = v) (hx : a.eval x = .slice A m c)
    (ho : wx.ownsRow w2.heap.size 94 3 v n (iV l)) (hb : Below w2.heap.size w2 wx) (hr : RdI wx A m l') (hn : n ≤ 1000) (hm : m ≤ 1000)
    (hK : ∀ v' w', w'.ownsRow w2.heap.size 94 3 v' (n + m) (iV (l ++ l')) → Below w2.heap.size w2 w' → K (a.put o.dst v') w') :
    if Region.wanted o (yielded ops a.tmps) = true then Oper.wp Tryz.prog o a wx K Q else E := by
  obtain ⟨i0, hi, hz0, hz1, hz2⟩ := info_parts inf39
  refine step_app hgd s x 28 hop w2.heap.size 94 3 24 i0 _ Tryz.underlying28 hi hz0 hz1 hz2 rfl (by decide) _ n (iV l) hv ho _ A m c (iV l') hx hr.2 (iV_one _) (by unfold maxLen; omega) (by omega) hb.size fun v' w' ho' hg => ?_
  rw [iV_app] at ho'
  exact hK v' w' ho' (below_app hb (Nat.le_refl _) hb.size ho hg)
end
/-- One wait in a new block. -/
theorem rd_one (w : World) (x : It) : RdI (w.alloc (.cells #[.int .i64 x.id, .int .i64 x.w, .int .i64 x.s] 94)) (some ⟨w.heap.size, 0, none⟩) 1 [x] := ⟨rfl, Rd.one w x _ rfl⟩
theorem rd_blk {w : World} {N : Nat} {x : It} (h : w.heap[N]? = some (.cells #[.int .i64 x.id, .int .i64 x.w, .int .i64 x.s] 94 (0, 0))) : RdI w (some ⟨N, 0, none⟩) 1 [x] := by
  refine ⟨rfl, rfl, fun _ => ⟨N, 0, rfl, lt_of_blk h, fun j u hu => ?_⟩⟩
  rw [Nat.zero_add, cell_of_row w N j _ _ _ h]
  simpa [iV, eI] using hu
theorem heap_w1 (w : World) (o : Obj) : (w.alloc o).heap[w.heap.size]? = some o := heap_alloc_new _ _
theorem heap_w2 (w : World) (o o2 : Obj) : ((w.alloc o).alloc o2).heap[w.heap.size]? = some o := (Below.heap_alloc _ _ _ (by simp)).trans (heap_alloc_new _ _)
theorem heap_w3 (w : World) (o o2 : Obj) : ((w.alloc o).alloc o2).heap[w.heap.size + 1]? = some o2 := by
  have := heap_alloc_new (w.alloc o) o2
  rw [World.size_alloc] at this
  exact this
theorem kept {w w' : World} {N k : Nat} {o : Obj} (hg : w.grownBy w' (some N)) (hk : w.heap[k]? = some o) (hne : k ≠ N) : w'.heap[k]? = some o := (hg.block k (lt_of_blk hk) (fun e => hne (by cases e; rfl))).trans hk
end Go.Proofs.YtmadcnpkaijllaaGreat
