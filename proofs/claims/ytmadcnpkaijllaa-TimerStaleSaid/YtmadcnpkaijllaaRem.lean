/- What Remove and Pop of package heap do. Conditions: each theorem's own premises. -/
import Derived.Test.YtmadcnpkaijllaaAdd
import Derived.Outline
import Derived.Deep.Cut
import Derived.Deep.CutRange
import Derived.Deep.DeepCutAuto
import Derived.Deep.CutBlock
namespace Go.Proofs.Ytmadcnpkaijllaa
open Go.RowKit
set_option linter.unusedVariables false
set_option maxRecDepth 100000
/-- An item. -/
abbrev vI (x : It) : Value := .agg #[.int .i64 x.id, .int .i64 x.w, .int .i64 x.s]
section
variable {B o b c n : Nat} {p : Option Nat} {P : Option Addr} {S m : List It} {K : List Int} {f : Int → Int} {w w' w1 : World} {e : Ending} {v : Value}
theorem remove_no {k : Int} (h : HG B w o b p n S) (hk : Wf k) (hm : k ∉ ids S) : Calls Try.prog 67 #[.pointer (some ⟨o, 0, none⟩), .int .i64 k] w (IbR zI false w) := by
  obtain ⟨P, c, m, f, e0, h1, h2, h3, h4⟩ := h
  have d := decide_eq_false (fun e => hm ((ids_perm h4).mem_iff.1 e) : k ∉ ids m)
  have HA := Lib.hid h1
  clear h1 h2 h3 h4
  go_enter Try.func67, Try.ntmps67
  go_wp2_with fail
  refine (place_any k _ (HA.out.later (below_al _ _)) hk).mono ?_
  rintro e w' ⟨⟨v, rfl, _⟩, rfl⟩
  rw [d]
  go_wp2_with fail
  refine bodyPost_ret (v := .tuple #[.agg #[.int .i64 0, .int .i64 0, .int .i64 0], .bool false]) ?_ rfl ⟨rfl, ?_⟩
  · rw [results_cell_tmp rfl]; go_simp; try rfl
  · first | exact below_al _ _ | (repeat' (first | exact below_al _ _ | refine Below.alloc ?_ (by omega) _))
section
variable {ops : Array Oper} {rest : List Oper} {op : Oper} {a : Act} {Q : Exit → Act → World → Prop} {x : Int} {q : Nat}
theorem wp_delete (hg : op.guard = none) (u y : Operand) (hop : op.op = Op.call { callee := Callee.builtin Builtin.delete, args := #[u, y], argTypes := #[69, 3] })
    (h : Tm w b K f) (hd : K.Nodup) (hx : Wf x) (hp : K[q]? = some x) (hm : a.eval u = .map (some b)) (hy : a.eval y = .int .i64 x)
    (hK : ∀ w', Trn w w' b → Tm w' b (K.eraseIdx q) f → wpList Try.prog ops Q rest (a.put op.dst (.tuple #[])) w') : wpList Try.prog ops Q (op :: rest) a w := by
  refine wpList_plain hg fun K' hK' => ?_
  obtain ⟨w', hrun, r1, r2⟩ := h.drop hd hx hp op.type
  unfold Oper.wp
  simp [execOp, hop, resolve, invoke, builtin, hm, hy, hrun, Result.andThen]
  exact hK' _ _ (hK w' r1 r2)
end
/-- A block of an item of its own. -/
def Blk (w : World) (s : Nat) (x : It) : Prop := w.heap[s]? = some (.cells #[.int .i64 x.id, .int .i64 x.w, .int .i64 x.s] 106 (0, 0))
theorem Blk.new (w : World) (x : It) : Blk (w.alloc (.cells #[.int .i64 x.id, .int .i64 x.w, .int .i64 x.s] 106)) w.heap.size x := heap_alloc_new w _
theorem Blk.later {s : Nat} {x : It} (h : Blk w s x) (hb : Below w.heap.size w w') : Blk w' s x := (hb.block s (lt_of_blk h)).trans h
theorem Blk.chg {p p' : Option Nat} {s : Nat} {x : It} (h : Blk w s x) (hc : Chg o b p p' w w') (hn : o ≠ s ∧ b ≠ s ∧ p ≠ some s) : Blk w' s x := (hc.block s (lt_of_blk h) (fun e => hn.1 e.symm) (fun e => hn.2.1 e.symm) hn.2.2).trans h
theorem Blk.cells {s : Nat} {x : It} (h : Blk w s x) : w.cell? ⟨s, 0, none⟩ = some (.int .i64 x.id) ∧ w.cell? ⟨s, 1, none⟩ = some (.int .i64 x.w) ∧ w.cell? ⟨s, 2, none⟩ = some (.int .i64 x.s) ∧ w.frozen? ⟨s, 0, none⟩ = false ∧ w.frozen? ⟨s, 1, none⟩ = false ∧ w.frozen? ⟨s, 2, none⟩ = false :=
  ⟨by rw [cell_of_row w s 0 _ _ _ h]; rfl, by rw [cell_of_row w s 1 _ _ _ h]; rfl, by rw [cell_of_row w s 2 _ _ _ h]; rfl, frozen_of_row w s 0 _ _ h, frozen_of_row w s 1 _ _ h, frozen_of_row w s 2 _ _ h⟩
theorem Blk.set3 {s : Nat} {x : It} (h : Blk w s x) (y : It) : Blk (((w.setCell ⟨s, 0, none⟩ (.int .i64 y.id)).setCell ⟨s, 1, none⟩ (.int .i64 y.w)).setCell ⟨s, 2, none⟩ (.int .i64 y.s)) s y := by
  have h1 := heap_setCell_same w s 0 _ _ (.int .i64 y.id) h
  have h2 := heap_setCell_same _ s 1 _ _ (.int .i64 y.w) h1
  have h3 := heap_setCell_same _ s 2 _ _ (.int .i64 y.s) h2
  exact h3
theorem Chg.set {p' : Option Nat} {s : Nat} (h : Chg o b p p' w w') (hs : w.heap.size ≤ s) (j : Nat) (v : Value) : Chg o b p p' w (w'.setCell ⟨s, j, none⟩ v) :=
  ⟨h.os, h.tape, h.output, by have := h.size; simpa [World.setCell] using this, fun k hk a1 a2 a3 => (Below.heap_setCell _ _ _ _ (show k ≠ s by omega)).trans (h.block k hk a1 a2 a3), h.new⟩
theorem HG.set {s : Nat} (h : HG B w o b p n S) (ne : o ≠ s ∧ b ≠ s ∧ p ≠ some s) (j : Nat) (v : Value) : HG B (w.setCell ⟨s, j, none⟩ v) o b p n S :=
  h.keep (Below.heap_setCell _ _ _ _ (by exact ne.1)) (Below.heap_setCell _ _ _ _ (by exact ne.2.1)) fun k hk => Below.heap_setCell _ _ _ _ (show k ≠ s from fun e => ne.2.2 (by rw [← e]; exact hk))
/-- .. its slice lies where it lay. -/
def ChS (B o b : Nat) (p : Option Nat) (n : Nat) (S : List It) (v : Value) (w : World) (e : Ending) (w' : World) : Prop := e = .returned v ∧ HG B w' o b p n S ∧ Chg o b p p w w'
theorem ChS.chr (h : ChS B o b p n S v w e w') : ChR B o b p n S v w e w' := ⟨h.1, p, h.2.1, h.2.2⟩
theorem SetR.chs {l0 : List It} (h : SetR B o b P c n l0 w1 e w') (hp : l0.Perm S) (hc : Chg o b (blk P) (blk P) w w1) (he : v = .tuple #[]) : ChS B o b (blk P) n S v w e w' := by
  obtain ⟨h1, m, f, h2, h3, h4, h5, h6⟩ := h
  exact ⟨by rw [h1, he], ⟨P, c, m, f, rfl, h2, h3, h4, h5.trans hp⟩, hc.trans h6⟩
theorem end_set {u : Value} {x : It} (h : ChS B o b p n S v w e w') (ne : o ≠ w.heap.size ∧ b ≠ w.heap.size ∧ p ≠ some w.heap.size) : ChS B o b p n S u w (.returned u) (((w'.setCell ⟨w.heap.size, 0, none⟩ (.int .i64 x.id)).setCell ⟨w.heap.size, 1, none⟩ (.int .i64 x.w)).setCell ⟨w.heap.size, 2, none⟩ (.int .i64 x.s)) :=
  ⟨rfl, ((h.2.1.set ne 0 _).set ne 1 _).set ne 2 _, ((h.2.2.set (Nat.le_refl _) 0 _).set (Nat.le_refl _) 1 _).set (Nat.le_refl _) 2 _⟩
/-- What is left when the one at i goes. -/
theorem left_perm {i k : Nat} {x z : It} (hk : m.length = k + 1) (hi : m[i]? = some x) (hz : m[k]? = some z) (hn : (ids m).Nodup) : (i < k → ((m.take k).set i z).Perm (del x.id m)) ∧ (i = k → m.take k = del x.id m) := by
  have e1 : m = m.take k ++ [z] := by
    have := List.take_append_drop k m
    rw [List.drop_eq_getElem_cons (by omega), List.drop_eq_nil_of_le (by omega)] at this
    rw [List.getElem?_eq_some_iff] at hz
    obtain ⟨h1, h2⟩ := hz
    rw [h2] at this
    exact this.symm
  have e2 := del_at hn hi rfl
  constructor
  · intro h
    have := set_perm (l := m.take k) z (i := i) (by simp; omega)
    rw [← e1] at this
    rw [e2]; exact this
  · rintro rfl
    rw [e2, List.eraseIdx_eq_take_drop_succ, List.drop_eq_nil_of_le (by omega), List.append_nil]
/-- The one that goes away is the last one. -/
theorem left_last {i k : Nat} {x : It} (hk : m.length = k + 1) (h : HB B w' o b P c n (m.take k) ((ids m).eraseIdx i) f) (hi : i = k) (hpl : Pl m f) (hh : Hp m) (hp : m.take k = del x.id m) (h4 : m.Perm S) : HG B w' o b (blk P) n (del x.id S) := by
  subst hi
  have e1 : (ids m).eraseIdx i = ids (m.take i) := by
    rw [List.eraseIdx_eq_take_drop_succ, List.drop_eq_nil_of_le (by rw [ids_len]; omega), List.append_nil]
    simp [ids]
  rw [e1] at h
  refine ⟨P, c, m.take i, f, rfl, h, fun q z hz => ?_, hp_take hh i, ?_⟩
  · have := at_lt hz
    simp at this
    rw [List.getElem?_take_of_lt (by omega)] at hz
    exact hpl q z hz
  · rw [hp]; exact del_perm h4
theorem left_way {i k : Nat} {x z : It} (hk : m.length = k + 1) (h : HB B w' o b P c n (m.take k) ((ids m).eraseIdx i) f) (hik : i < k) (hi : m[i]? = some x) (hz : m[k]? = some z) (hn : (ids m).Nodup) (hpl : Pl m f) (hh : Hp m) :
    Way HpAt B o b P c n ((ids m).eraseIdx i) ((m.take k).set i z) z w' (m.take k) f i w' := by
  have hil : i < (m.take k).length := by simp; omega
  have e2 := del_at hn hi rfl
  have e3 := (left_perm hk hi hz hn).1 hik
  have e4 : ids (del x.id m) = (ids m).eraseIdx i := by rw [e2]; simp [ids, List.eraseIdx_eq_take_drop_succ, List.map_take, List.map_drop]
  refine ⟨h, ⟨hil, List.Perm.refl _, (ids_perm e3).nodup_iff.2 (nd_del hn), .inl ?_, fun q y _ hy => ?_⟩, at_set (at_of_hp (hp_take hh k) i hil) z, List.Perm.refl _, Chg.refl _ _⟩
  · rw [← e4]; exact (ids_perm e3).symm
  · have := at_lt hy
    simp at this
    rw [List.getElem?_take_of_lt (by omega)] at hy
    exact hpl q y hy
set_option maxHeartbeats 8000000 in
theorem remove_yes {x : It} (h : HG B w o b p n S) (hS : Ok n S) (hx : x ∈ S) (hl : S.length ≤ 1000) :
    Calls Try.prog 67 #[.pointer (some ⟨o, 0, none⟩), .int .i64 x.id] w (ChS B o b p n (del x.id S) (.tuple #[vI x, .bool true]) w) := by
  obtain ⟨P, c, m, f, e0, h1, h2, h3, h4⟩ := h
  subst e0
  have hxm := h4.mem_iff.2 hx
  obtain ⟨i, hi, hil⟩ := mem_at hxm
  have hmm := mem_ids hxm
  have d := decide_eq_true hmm
  have hfi := h2 i x hi
  have hk := h1.wf x hxm
  have hnd : (ids m).Nodup := (ids_perm h4).nodup_iff.2 hS.ids
  have hlen := h4.length_eq
  obtain ⟨g, rfl, d0, d1, d2⟩ := h1.at hi
  obtain ⟨z, hz⟩ := ex_at (l := m) (p := m.length - 1) (by omega)
  obtain ⟨k, hkk⟩ : ∃ k, m.length = k + 1 := ⟨m.length - 1, by omega⟩
  rw [show m.length - 1 = k by omega] at hz
  obtain ⟨g', e', y0, y1, y2⟩ := h1.at hz
  obtain rfl : g' = g := by injection e' with e'; injection e' with e'; exact e'.symm
  have c0 := h1.c0
  have c1 := h1.c1
  have f0 := h1.fo 0
  have ho := h1.lo
  have hg := (row_lt h1.own (k := g') rfl).2
  have hcap := row_cap h1.own
  have hil2 : i < k + 1 := by omega
  have HA := Lib.hid h1
  have HM := Lib.hid hmm
  have HI := Lib.hid (And.intro hi (And.intro hz hnd))
  have HQ := Lib.hid (And.intro h2 (And.intro h3 h4))
  have HL := Lib.hid hkk
  have b1 : IntKind.i64.wrap (((k + 1 : Nat) : Int) - 1) = (k : Int) := by rw [IntKind.wrap_i64]; omega
  have b2 : IntKind.i64.wrap ((k : Int) + 1 - 1) = (k : Int) := by rw [IntKind.wrap_i64]; omega
  have b3 : k ≤ c := by omega
  have b4 : (k : Int) ≤ 1000 := by omega
  rw [hkk] at c0
  clear h1 h2 h3 h4 hi hz hnd hmm hlen e' hx hxm
  go_enter Try.func67, Try.ntmps67
  go_wp2_with fail
  refine (place_any x.id _ (HA.out.later (below_al _ _)) hk).mono ?_
  rintro e w' ⟨⟨v, rfl, hv⟩, rfl⟩
  rw [d]
  have hv2 := hv HM.out
  rw [hfi] at hv2
  subst hv2
  clear hv hfi d
  go_wp2_with fail
  clear hkk hil
  go_region
  go_upto_region 6 with (fail)
  have hb2 : Below w.heap.size w (((w.alloc (.cells #[.int .i64 0, .int .i64 0, .int .i64 0] 106)).alloc (.cells #[.int .i64 x.id, .int .i64 x.w, .int .i64 x.s] 106)).alloc (.cells #[.int .i64 z.id, .int .i64 z.w, .int .i64 z.s] 106)).drew := ((((Below.refl _ _).alloc (Nat.le_refl _) _).alloc (by simp) _).alloc (by simp; omega) _).drew
  have HA2 := Lib.hid (HA.out.later hb2)
  have X0 : Hid (Blk (((w.alloc (.cells #[.int .i64 0, .int .i64 0, .int .i64 0] 106)).alloc (.cells #[.int .i64 x.id, .int .i64 x.w, .int .i64 x.s] 106)).alloc (.cells #[.int .i64 z.id, .int .i64 z.w, .int .i64 z.s] 106)).drew w.heap.size zI) := (((Blk.new w zI).later (below_al _ _)).later (below_al _ _)).later (Below.refl _ _).drew
  have X1 : Hid (Box (((w.alloc (.cells #[.int .i64 0, .int .i64 0, .int .i64 0] 106)).alloc (.cells #[.int .i64 x.id, .int .i64 x.w, .int .i64 x.s] 106)).alloc (.cells #[.int .i64 z.id, .int .i64 z.w, .int .i64 z.s] 106)).drew (w.heap.size + 1) x) := by
    have := ((Box.new (w.alloc (.cells #[.int .i64 0, .int .i64 0, .int .i64 0] 106)) x).later (below_al _ (.cells #[.int .i64 z.id, .int .i64 z.w, .int .i64 z.s] 106))).later (Below.refl _ _).drew
    rwa [World.size_alloc] at this
  have X2 : Hid (Box (((w.alloc (.cells #[.int .i64 0, .int .i64 0, .int .i64 0] 106)).alloc (.cells #[.int .i64 x.id, .int .i64 x.w, .int .i64 x.s] 106)).alloc (.cells #[.int .i64 z.id, .int .i64 z.w, .int .i64 z.s] 106)).drew (w.heap.size + 1 + 1) z) := by
    have := (Box.new ((w.alloc (.cells #[.int .i64 0, .int .i64 0, .int .i64 0] 106)).alloc (.cells #[.int .i64 x.id, .int .i64 x.w, .int .i64 x.s] 106)) z).later (Below.refl _ _).drew
    rwa [World.size_alloc, World.size_alloc] at this
  have C2 := Lib.hid (Chg.of_below (o := o) (b := b) (some g') hb2)
  generalize (((w.alloc (.cells #[.int .i64 0, .int .i64 0, .int .i64 0] 106)).alloc (.cells #[.int .i64 x.id, .int .i64 x.w, .int .i64 x.s] 106)).alloc (.cells #[.int .i64 z.id, .int .i64 z.w, .int .i64 z.s] 106)).drew = w2 at *
  clear hb2 y0 y1 y2 d0 d1 d2 c0 c1 f0
  have c0 := HA2.out.c0
  rw [HL.out] at c0
  have c1 := HA2.out.c1
  have f0 := HA2.out.fo 0
  go_upto_region 7 with (fail)
  have HS : Hid (HB B (w2.setCell ⟨o, 0, none⟩ (.slice (some ⟨g', 0, none⟩) k c)) o b (some ⟨g', 0, none⟩) c n (m.take k) (ids m) f ∧ Chg o b (some g') (some g') w2 (w2.setCell ⟨o, 0, none⟩ (.slice (some ⟨g', 0, none⟩) k c))) := HA2.out.short (by have := HL.out; omega)
  have nb := HA.out.tm.lt
  have N0 : Hid (o ≠ w.heap.size ∧ b ≠ w.heap.size ∧ some g' ≠ some w.heap.size) := ⟨by omega, by omega, by simp; omega⟩
  have N1 : Hid (o ≠ w.heap.size + 1 ∧ b ≠ w.heap.size + 1 ∧ some g' ≠ some (w.heap.size + 1)) := ⟨by omega, by omega, by simp; omega⟩
  have N2 : Hid (o ≠ w.heap.size + 1 + 1 ∧ b ≠ w.heap.size + 1 + 1 ∧ some g' ≠ some (w.heap.size + 1 + 1)) := ⟨by omega, by omega, by simp; omega⟩
  have Y0 := Lib.hid (X0.out.chg HS.out.2 N0.out)
  have Y1 := Lib.hid (X1.out.chg HS.out.2 N1.out)
  have Y2 := Lib.hid (X2.out.chg HS.out.2 N2.out)
  have C3 := Lib.hid (C2.out.trans HS.out.2)
  generalize w2.setCell ⟨o, 0, none⟩ (.slice (some ⟨g', 0, none⟩) k c) = w3 at *
  have c1' := HS.out.1.c1
  clear X0 X1 X2 C2 c0 c1 f0
  go_upto_region 8 with (at_delete; go_loud (refine wp_delete rfl (.tmp 52) (.tmp 53) rfl HS.out.1.tm HI.out.2.2 hk (ids_at HI.out.1) rfl rfl ?_; intro w4 ht tm; have HM4 := Lib.hid (HS.out.1.mapped ht tm); clear ht tm))
  have Z0 := Lib.hid (Y0.out.chg HM4.out.2 N0.out)
  have Z1 := Lib.hid (Y1.out.chg HM4.out.2 N1.out)
  have Z2 := Lib.hid (Y2.out.chg HM4.out.2 N2.out)
  have C4 := Lib.hid (C3.out.trans HM4.out.2)
  clear Y0 Y1 Y2 C3 HS HA2 c1'
  by_cases hik : i < k
  · have hi2 : (i : Int) < (k : Int) := by omega
    have HT := Lib.hid (settle_any i z w4 (left_way HL.out HM4.out.1 hik HI.out.1 HI.out.2.1 HI.out.2.2 HQ.out.1 HQ.out.2.1) (HA.out.wf z (at_mem HI.out.2.1)) (by have := HL.out; simp; omega))
    obtain ⟨zs, z0, z1, z2⟩ := Z2.out
    go_wp2_with fail
    refine HT.out.mono ?_
    rintro e w5 hR
    have Hc : Hid (Chg o b (some g') (some g') w4 w5) := by obtain ⟨_, _, _, _, _, _, _, h6⟩ := hR; exact h6
    obtain rfl := hR.1
    have HR : Hid (ChS B o b (some g') n (del x.id S) (.tuple #[]) w (.returned (.tuple #[])) w5) := hR.chs (((left_perm HL.out HI.out.1 HI.out.2.1 HI.out.2.2).1 hik).trans (del_perm HQ.out.2.2)) C4.out rfl
    have V0 := Lib.hid (Z0.out.chg Hc.out N0.out)
    have V1 := Lib.hid (Z1.out.chg Hc.out N1.out)
    clear Z0 Z1 Z2 C4 HT HM4 hR z0 z1 z2 zs
    obtain ⟨v0, v1, v2, v3, v4, v5⟩ := V0.out.cells
    obtain ⟨s1, x0, x1, x2⟩ := V1.out
    have HF : Hid (ChS B o b (some g') n (del x.id S) (.tuple #[vI x, .bool true]) w (.returned (.tuple #[vI x, .bool true])) (((w5.setCell ⟨w.heap.size, 0, none⟩ (.int .i64 x.id)).setCell ⟨w.heap.size, 1, none⟩ (.int .i64 x.w)).setCell ⟨w.heap.size, 2, none⟩ (.int .i64 x.s))) := end_set HR.out N0.out
    have HV := Lib.hid (V0.out.set3 x)
    clear HR V0 V1 Hc
    go_wp2_with fail
    refine bodyPost_ret (v := .tuple #[vI x, .bool true]) ?_ rfl HF.out
    rw [results_cell_tmp rfl]
    go_simp
  · obtain rfl : i = k := by omega
    have hi2 : ¬ (i : Int) < (i : Int) := by omega
    have HR : Hid (ChS B o b (some g') n (del x.id S) (.tuple #[]) w (.returned (.tuple #[])) w4) := ⟨rfl, left_last HL.out HM4.out.1 rfl HQ.out.1 HQ.out.2.1 ((left_perm HL.out HI.out.1 HI.out.2.1 HI.out.2.2).2 rfl) HQ.out.2.2, C4.out⟩
    obtain ⟨v0, v1, v2, v3, v4, v5⟩ := Z0.out.cells
    obtain ⟨s1, x0, x1, x2⟩ := Z1.out
    have HF : Hid (ChS B o b (some g') n (del x.id S) (.tuple #[vI x, .bool true]) w (.returned (.tuple #[vI x, .bool true])) (((w4.setCell ⟨w.heap.size, 0, none⟩ (.int .i64 x.id)).setCell ⟨w.heap.size, 1, none⟩ (.int .i64 x.w)).setCell ⟨w.heap.size, 2, none⟩ (.int .i64 x.s))) := end_set HR.out N0.out
    clear HR Z0 Z1 Z2 HM4 C4
    go_wp2_with fail
    refine bodyPost_ret (v := .tuple #[vI x, .bool true]) ?_ rfl HF.out
    rw [results_cell_tmp rfl]
    go_simp
end
end Go.Proofs.Ytmadcnpkaijllaa
