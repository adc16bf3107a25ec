/- What Remove and Pop of package heap do. Conditions: each theorem's own premises.
What package clock's Next, and the reference's, give. Conditions: each theorem's own premises.
Timers in memory: a heap, and periods by numbers; how they carry. No condition. -/
import Derived.Test.YtdpapnfjpefhkaaStlm
import Derived.Outline
import Derived.Deep.Cut
import Derived.Deep.CutRange
import Derived.Deep.DeepCutAuto
import Derived.Deep.CutBlock
import Derived.Test.YtdpapnfjpefhkaaMemm
namespace Go.Proofs.Ytdpapnfjpefhkaa
open Go.RowKit
set_option linter.unusedVariables false
set_option maxRecDepth 100000
/-- An item. -/
abbrev vI (x : It) : Value := .agg #[.int .i64 x.id, .int .i64 x.w, .int .i64 x.s]
section
variable {B o b c n : Nat} {p : Option Nat} {P : Option Addr} {S m : List It} {K : List Int} {f : Int → Int} {w w' w1 : World} {e : Ending} {v : Value}
theorem remove_no {k : Int} (h : HG B w o b p n S) (hk : Wf k) (hm : k ∉ ids S) : Calls Try.prog 85 #[.pointer (some ⟨o, 0, none⟩), .int .i64 k] w (IbR zI false w) := by
  obtain ⟨P, c, m, f, e0, h1, h2, h3, h4⟩ := h
  have d := decide_eq_false (fun e => hm ((ids_perm h4).mem_iff.1 e) : k ∉ ids m)
  have HA := Lib.hid h1
  clear h1 h2 h3 h4
  go_enter Try.func85, Try.ntmps85
  go_wp2_with fail
  refine (place_any k _ (HA.out.later (below_al _ _)) hk).mono ?_
  rintro e w' ⟨⟨v, rfl, _⟩, rfl⟩
  rw [d]
  go_wp2_with fail
  refine bodyPost_ret (v := .tuple #[.agg #[.int .i64 0, .int .i64 0, .int .i64 0], .bool false]) ?_ rfl ⟨rfl, ?_⟩
  · rw [results_cell_tmp rfl]; go_simp; try rfl
  · first | exact below_al _ _ | (repeat' (first | exact below_al _ _ | refine Below.alloc ?_ (by omega) _))
section
variable {ops : Array Oper} {rest : List Oper} {op : Oper} {a : Act} {Q : Exit → Act → World → Prop} {x : Int} {q : Nat}
theorem wp_delete (hg : op.guard = none) (u y : Operand) (hop : op.op = Op.call { callee := Callee.builtin Builtin.delete, args := #[u, y], argTypes := #[95, 3] })
    (h : Tm w b K f) (hd : K.Nodup) (hx : Wf x) (hp : K[q]? = some x) (hm : a.eval u = .map (some b)) (hy : a.eval y = .int .i64 x)
    (hK : ∀ w', Trn w w' b → Tm w' b (K.eraseIdx q) f → wpList Try.prog ops Q rest (a.put op.dst (.tuple #[])) w') : wpList Try.prog ops Q (op :: rest) a w := by
  refine wpList_plain hg fun K' hK' => ?_
  obtain ⟨w', hrun, r1, r2⟩ := h.drop hd hx hp op.type
  unfold Oper.wp
  simp [execOp, hop, resolve, invoke, builtin, hm, hy, hrun, Result.andThen]
  exact hK' _ _ (hK w' r1 r2)
end
/-- A block of an item of its own. -/
def Blk (w : World) (s : Nat) (x : It) : Prop := w.heap[s]? = some (.cells #[.int .i64 x.id, .int .i64 x.w, .int .i64 x.s] 150 (0, 0))
theorem Blk.new (w : World) (x : It) : Blk (w.alloc (.cells #[.int .i64 x.id, .int .i64 x.w, .int .i64 x.s] 150)) w.heap.size x := heap_alloc_new w _
theorem Blk.later {s : Nat} {x : It} (h : Blk w s x) (hb : Below w.heap.size w w') : Blk w' s x := (hb.block s (lt_of_blk h)).trans h
theorem Blk.chg {p p' : Option Nat} {s : Nat} {x : It} (h : Blk w s x) (hc : Chg o b p p' w w') (hn : o ≠ s ∧ b ≠ s ∧ p ≠ some s) : Blk w' s x := (hc.block s (lt_of_blk h) (fun e => hn.1 e.symm) (fun e => hn.2.1 e.symm) hn.2.2).trans h
theorem Blk.cells {s : Nat} {x : It} (h : Blk w s x) : w.cell? ⟨s, 0, none⟩ = some (.int .i64 x.id) ∧ w.cell? ⟨s, 1, none⟩ = some (.int .i64 x.w) ∧ w.cell? ⟨s, 2, none⟩ = some (.int .i64 x.s) ∧ w.frozen? ⟨s, 0, none⟩ = false ∧ w.frozen? ⟨s, 1, none⟩ = false ∧ w.frozen? ⟨s, 2, none⟩ = false :=
  ⟨by rw [cell_of_row w s 0 _ _ _ h]; rfl, by rw [cell_of_row w s 1 _ _ _ h]; rfl, by rw [cell_of_row w s 2 _ _ _ h]; rfl, frozen_of_row w s 0 _ _ h, frozen_of_row w s 1 _ _ h, frozen_of_row w s 2 _ _ h⟩
theorem Blk.set3 {s : Nat} {x : It} (h : Blk w s x) (y : It) : Blk (((w.setCell ⟨s, 0, none⟩ (.int .i64 y.id)).setCell ⟨s, 1, none⟩ (.int .i64 y.w)).setCell ⟨s, 2, none⟩ (.int .i64 y.s)) s y := by
  have h1 := heap_setCell_same w s 0 _ _ (.int .i64 y.id) h
  have h2 := heap_setCell_same _ s 1 _ _ (.int .i64 y.w) h1
  have h3 := heap_setCell_same _ s 2 _ _ (.int .i64 y.s) h2
  exact h3
theorem Chg.set {p' : Option Nat} {s : Nat} (h : Chg o b p p' w w') (hs : w.heap.size ≤ s) (j : Nat) (v : Value) : Chg o b p p' w (w'.setCell ⟨s, j, none⟩ v) :=
  ⟨h.os, h.tape, h.output, by have := h.size; simpa [World.setCell] using this, fun k hk a1 a2 a3 => (Below.heap_setCell _ _ _ _ (show k ≠ s by omega)).trans (h.block k hk a1 a2 a3), h.new⟩
theorem HG.set {s : Nat} (h : HG B w o b p n S) (ne : o ≠ s ∧ b ≠ s ∧ p ≠ some s) (j : Nat) (v : Value) : HG B (w.setCell ⟨s, j, none⟩ v) o b p n S :=
  h.keep (Below.heap_setCell _ _ _ _ (by exact ne.1)) (Below.heap_setCell _ _ _ _ (by exact ne.2.1)) fun k hk => Below.heap_setCell _ _ _ _ (show k ≠ s from fun e => ne.2.2 (by rw [← e]; exact hk))
/-- .. its slice lies where it lay. -/
def ChS (B o b : Nat) (p : Option Nat) (n : Nat) (S : List It) (v : Value) (w : World) (e : Ending) (w' : World) : Prop := e = .returned v ∧ HG B w' o b p n S ∧ Chg o b p p w w'
theorem ChS.chr (h : ChS B o b p n S v w e w') : ChR B o b p n S v w e w' := ⟨h.1, p, h.2.1, h.2.2⟩
theorem SetR.chs {l0 : List It} (h : SetR B o b P c n l0 w1 e w') (hp : l0.Perm S) (hc : Chg o b (blk P) (blk P) w w1) (he : v = .tuple #[]) : ChS B o b (blk P) n S v w e w' := by
  obtain ⟨h1, m, f, h2, h3, h4, h5, h6⟩ := h
  exact ⟨by rw [h1, he], ⟨P, c, m, f, rfl, h2, h3, h4, h5.trans hp⟩, hc.trans h6⟩
theorem end_set {u : Value} {x : It} (h : ChS B o b p n S v w e w') (ne : o ≠ w.heap.size ∧ b ≠ w.heap.size ∧ p ≠ some w.heap.size) : ChS B o b p n S u w (.returned u) (((w'.setCell ⟨w.heap.size, 0, none⟩ (.int .i64 x.id)).setCell ⟨w.heap.size, 1, none⟩ (.int .i64 x.w)).setCell ⟨w.heap.size, 2, none⟩ (.int .i64 x.s)) :=
  ⟨rfl, ((h.2.1.set ne 0 _).set ne 1 _).set ne 2 _, ((h.2.2.set (Nat.le_refl _) 0 _).set (Nat.le_refl _) 1 _).set (Nat.le_refl _) 2 _⟩
/-- What is left when the one at i goes. -/
theorem left_perm {i k : Nat} {x z : It} (hk : m.length = k + 1) (hi : m[i]? = some x) (hz : m[k]? = some z) (hn : (ids m).Nodup) : (i < k → ((m.take k).set i z).Perm (del x.id m)) ∧ (i = k → m.take k = del x.id m) := by
  have e1 : m = m.take k ++ [z] := by
    have := List.take_append_drop k m
    rw [List.drop_eq_getElem_cons (by omega), List.drop_eq_nil_of_le (by omega)] at this
    rw [List.getElem?_eq_some_iff] at hz
    obtain ⟨h1, h2⟩ := hz
    rw [h2] at this
    exact this.symm
  have e2 := del_at hn hi rfl
  constructor
  · intro h
    have := set_perm (l := m.take k) z (i := i) (by simp; omega)
    rw [← e1] at this
    rw [e2]; exact this
  · rintro rfl
    rw [e2, List.eraseIdx_eq_take_drop_succ, List.drop_eq_nil_of_le (by omega), List.append_nil]
/-- The one that goes away is the last one. -/
theorem left_last {i k : Nat} {x : It} (hk : m.length = k + 1) (h : HB B w' o b P c n (m.take k) ((ids m).eraseIdx i) f) (hi : i = k) (hpl : Pl m f) (hh : Hp m) (hp : m.take k = del x.id m) (h4 : m.Perm S) : HG B w' o b (blk P) n (del x.id S) := by
  subst hi
  have e1 : (ids m).eraseIdx i = ids (m.take i) := by
    rw [List.eraseIdx_eq_take_drop_succ, List.drop_eq_nil_of_le (by rw [ids_len]; omega), List.append_nil]
    simp [ids]
  rw [e1] at h
  refine ⟨P, c, m.take i, f, rfl, h, fun q z hz => ?_, hp_take hh i, ?_⟩
  · have := at_lt hz
    simp at this
    rw [List.getElem?_take_of_lt (by omega)] at hz
    exact hpl q z hz
  · rw [hp]; exact del_perm h4
theorem left_way {i k : Nat} {x z : It} (hk : m.length = k + 1) (h : HB B w' o b P c n (m.take k) ((ids m).eraseIdx i) f) (hik : i < k) (hi : m[i]? = some x) (hz : m[k]? = some z) (hn : (ids m).Nodup) (hpl : Pl m f) (hh : Hp m) :
    Way HpAt B o b P c n ((ids m).eraseIdx i) ((m.take k).set i z) z w' (m.take k) f i w' := by
  have hil : i < (m.take k).length := by simp; omega
  have e2 := del_at hn hi rfl
  have e3 := (left_perm hk hi hz hn).1 hik
  have e4 : ids (del x.id m) = (ids m).eraseIdx i := by rw [e2]; simp [ids, List.eraseIdx_eq_take_drop_succ, List.map_take, List.map_drop]
  refine ⟨h, ⟨hil, List.Perm.refl _, (ids_perm e3).nodup_iff.2 (nd_del hn), .inl ?_, fun q y _ hy => ?_⟩, at_set (at_of_hp (hp_take hh k) i hil) z, List.Perm.refl _, Chg.refl _ _⟩
  · rw [← e4]; exact (ids_perm e3).symm
  · have := at_lt hy
    simp at this
    rw [List.getElem?_take_of_lt (by omega)] at hy
    exact hpl q y hy
set_option maxHeartbeats 8000000 in
theorem remove_yes {x : It} (h : HG B w o b p n S) (hS : Ok n S) (hx : x ∈ S) (hl : S.length ≤ 1000) :
    Calls Try.prog 85 #[.pointer (some ⟨o, 0, none⟩), .int .i64 x.id] w (ChS B o b p n (del x.id S) (.tuple #[vI x, .bool true]) w) := by
  obtain ⟨P, c, m, f, e0, h1, h2, h3, h4⟩ := h
  subst e0
  have hxm := h4.mem_iff.2 hx
  obtain ⟨i, hi, hil⟩ := mem_at hxm
  have hmm := mem_ids hxm
  have d := decide_eq_true hmm
  have hfi := h2 i x hi
  have hk := h1.wf x hxm
  have hnd : (ids m).Nodup := (ids_perm h4).nodup_iff.2 hS.ids
  have hlen := h4.length_eq
  obtain ⟨g, rfl, d0, d1, d2⟩ := h1.at hi
  obtain ⟨z, hz⟩ := ex_at (l := m) (p := m.length - 1) (by omega)
  obtain ⟨k, hkk⟩ : ∃ k, m.length = k + 1 := ⟨m.length - 1, by omega⟩
  rw [show m.length - 1 = k by omega] at hz
  obtain ⟨g', e', y0, y1, y2⟩ := h1.at hz
  obtain rfl : g' = g := by injection e' with e'; injection e' with e'; exact e'.symm
  have c0 := h1.c0
  have c1 := h1.c1
  have f0 := h1.fo 0
  have ho := h1.lo
  have hg := (row_lt h1.own (k := g') rfl).2
  have hcap := row_cap h1.own
  have hil2 : i < k + 1 := by omega
  have HA := Lib.hid h1
  have HM := Lib.hid hmm
  have HI := Lib.hid (And.intro hi (And.intro hz hnd))
  have HQ := Lib.hid (And.intro h2 (And.intro h3 h4))
  have HL := Lib.hid hkk
  have b1 : IntKind.i64.wrap (((k + 1 : Nat) : Int) - 1) = (k : Int) := by rw [IntKind.wrap_i64]; omega
  have b2 : IntKind.i64.wrap ((k : Int) + 1 - 1) = (k : Int) := by rw [IntKind.wrap_i64]; omega
  have b3 : k ≤ c := by omega
  have b4 : (k : Int) ≤ 1000 := by omega
  rw [hkk] at c0
  clear h1 h2 h3 h4 hi hz hnd hmm hlen e' hx hxm
  go_enter Try.func85, Try.ntmps85
  go_wp2_with fail
  refine (place_any x.id _ (HA.out.later (below_al _ _)) hk).mono ?_
  rintro e w' ⟨⟨v, rfl, hv⟩, rfl⟩
  rw [d]
  have hv2 := hv HM.out
  rw [hfi] at hv2
  subst hv2
  clear hv hfi d
  go_wp2_with fail
  clear hkk hil
  go_region
  go_upto_region 6 with (fail)
  have hb2 : Below w.heap.size w (((w.alloc (.cells #[.int .i64 0, .int .i64 0, .int .i64 0] 150)).alloc (.cells #[.int .i64 x.id, .int .i64 x.w, .int .i64 x.s] 150)).alloc (.cells #[.int .i64 z.id, .int .i64 z.w, .int .i64 z.s] 150)).drew := ((((Below.refl _ _).alloc (Nat.le_refl _) _).alloc (by simp) _).alloc (by simp; omega) _).drew
  have HA2 := Lib.hid (HA.out.later hb2)
  have X0 : Hid (Blk (((w.alloc (.cells #[.int .i64 0, .int .i64 0, .int .i64 0] 150)).alloc (.cells #[.int .i64 x.id, .int .i64 x.w, .int .i64 x.s] 150)).alloc (.cells #[.int .i64 z.id, .int .i64 z.w, .int .i64 z.s] 150)).drew w.heap.size zI) := (((Blk.new w zI).later (below_al _ _)).later (below_al _ _)).later (Below.refl _ _).drew
  have X1 : Hid (Box (((w.alloc (.cells #[.int .i64 0, .int .i64 0, .int .i64 0] 150)).alloc (.cells #[.int .i64 x.id, .int .i64 x.w, .int .i64 x.s] 150)).alloc (.cells #[.int .i64 z.id, .int .i64 z.w, .int .i64 z.s] 150)).drew (w.heap.size + 1) x) := by
    have := ((Box.new (w.alloc (.cells #[.int .i64 0, .int .i64 0, .int .i64 0] 150)) x).later (below_al _ (.cells #[.int .i64 z.id, .int .i64 z.w, .int .i64 z.s] 150))).later (Below.refl _ _).drew
    rwa [World.size_alloc] at this
  have X2 : Hid (Box (((w.alloc (.cells #[.int .i64 0, .int .i64 0, .int .i64 0] 150)).alloc (.cells #[.int .i64 x.id, .int .i64 x.w, .int .i64 x.s] 150)).alloc (.cells #[.int .i64 z.id, .int .i64 z.w, .int .i64 z.s] 150)).drew (w.heap.size + 1 + 1) z) := by
    have := (Box.new ((w.alloc (.cells #[.int .i64 0, .int .i64 0, .int .i64 0] 150)).alloc (.cells #[.int .i64 x.id, .int .i64 x.w, .int .i64 x.s] 150)) z).later (Below.refl _ _).drew
    rwa [World.size_alloc, World.size_alloc] at this
  have C2 := Lib.hid (Chg.of_below (o := o) (b := b) (some g') hb2)
  generalize (((w.alloc (.cells #[.int .i64 0, .int .i64 0, .int .i64 0] 150)).alloc (.cells #[.int .i64 x.id, .int .i64 x.w, .int .i64 x.s] 150)).alloc (.cells #[.int .i64 z.id, .int .i64 z.w, .int .i64 z.s] 150)).drew = w2 at *
  clear hb2 y0 y1 y2 d0 d1 d2 c0 c1 f0
  have c0 := HA2.out.c0
  rw [HL.out] at c0
  have c1 := HA2.out.c1
  have f0 := HA2.out.fo 0
  go_upto_region 7 with (fail)
  have HS : Hid (HB B (w2.setCell ⟨o, 0, none⟩ (.slice (some ⟨g', 0, none⟩) k c)) o b (some ⟨g', 0, none⟩) c n (m.take k) (ids m) f ∧ Chg o b (some g') (some g') w2 (w2.setCell ⟨o, 0, none⟩ (.slice (some ⟨g', 0, none⟩) k c))) := HA2.out.short (by have := HL.out; omega)
  have nb := HA.out.tm.lt
  have N0 : Hid (o ≠ w.heap.size ∧ b ≠ w.heap.size ∧ some g' ≠ some w.heap.size) := ⟨by omega, by omega, by simp; omega⟩
  have N1 : Hid (o ≠ w.heap.size + 1 ∧ b ≠ w.heap.size + 1 ∧ some g' ≠ some (w.heap.size + 1)) := ⟨by omega, by omega, by simp; omega⟩
  have N2 : Hid (o ≠ w.heap.size + 1 + 1 ∧ b ≠ w.heap.size + 1 + 1 ∧ some g' ≠ some (w.heap.size + 1 + 1)) := ⟨by omega, by omega, by simp; omega⟩
  have Y0 := Lib.hid (X0.out.chg HS.out.2 N0.out)
  have Y1 := Lib.hid (X1.out.chg HS.out.2 N1.out)
  have Y2 := Lib.hid (X2.out.chg HS.out.2 N2.out)
  have C3 := Lib.hid (C2.out.trans HS.out.2)
  generalize w2.setCell ⟨o, 0, none⟩ (.slice (some ⟨g', 0, none⟩) k c) = w3 at *
  have c1' := HS.out.1.c1
  clear X0 X1 X2 C2 c0 c1 f0
  go_upto_region 8 with (at_delete; go_loud (refine wp_delete rfl (.tmp 52) (.tmp 53) rfl HS.out.1.tm HI.out.2.2 hk (ids_at HI.out.1) rfl rfl ?_; intro w4 ht tm; have HM4 := Lib.hid (HS.out.1.mapped ht tm); clear ht tm))
  have Z0 := Lib.hid (Y0.out.chg HM4.out.2 N0.out)
  have Z1 := Lib.hid (Y1.out.chg HM4.out.2 N1.out)
  have Z2 := Lib.hid (Y2.out.chg HM4.out.2 N2.out)
  have C4 := Lib.hid (C3.out.trans HM4.out.2)
  clear Y0 Y1 Y2 C3 HS HA2 c1'
  by_cases hik : i < k
  · have hi2 : (i : Int) < (k : Int) := by omega
    have HT := Lib.hid (settle_any i z w4 (left_way HL.out HM4.out.1 hik HI.out.1 HI.out.2.1 HI.out.2.2 HQ.out.1 HQ.out.2.1) (HA.out.wf z (at_mem HI.out.2.1)) (by have := HL.out; simp; omega))
    obtain ⟨zs, z0, z1, z2⟩ := Z2.out
    go_wp2_with fail
    refine HT.out.mono ?_
    rintro e w5 hR
    have Hc : Hid (Chg o b (some g') (some g') w4 w5) := by obtain ⟨_, _, _, _, _, _, _, h6⟩ := hR; exact h6
    obtain rfl := hR.1
    have HR : Hid (ChS B o b (some g') n (del x.id S) (.tuple #[]) w (.returned (.tuple #[])) w5) := hR.chs (((left_perm HL.out HI.out.1 HI.out.2.1 HI.out.2.2).1 hik).trans (del_perm HQ.out.2.2)) C4.out rfl
    have V0 := Lib.hid (Z0.out.chg Hc.out N0.out)
    have V1 := Lib.hid (Z1.out.chg Hc.out N1.out)
    clear Z0 Z1 Z2 C4 HT HM4 hR z0 z1 z2 zs
    obtain ⟨v0, v1, v2, v3, v4, v5⟩ := V0.out.cells
    obtain ⟨s1, x0, x1, x2⟩ := V1.out
    have HF : Hid (ChS B o b (some g') n (del x.id S) (.tuple #[vI x, .bool true]) w (.returned (.tuple #[vI x, .bool true])) (((w5.setCell ⟨w.heap.size, 0, none⟩ (.int .i64 x.id)).setCell ⟨w.heap.size, 1, none⟩ (.int .i64 x.w)).setCell ⟨w.heap.size, 2, none⟩ (.int .i64 x.s))) := end_set HR.out N0.out
    have HV := Lib.hid (V0.out.set3 x)
    clear HR V0 V1 Hc
    go_wp2_with fail
    refine bodyPost_ret (v := .tuple #[vI x, .bool true]) ?_ rfl HF.out
    rw [results_cell_tmp rfl]
    go_simp
  · obtain rfl : i = k := by omega
    have hi2 : ¬ (i : Int) < (i : Int) := by omega
    have HR : Hid (ChS B o b (some g') n (del x.id S) (.tuple #[]) w (.returned (.tuple #[])) w4) := ⟨rfl, left_last HL.out HM4.out.1 rfl HQ.out.1 HQ.out.2.1 ((left_perm HL.out HI.out.1 HI.out.2.1 HI.out.2.2).2 rfl) HQ.out.2.2, C4.out⟩
    obtain ⟨v0, v1, v2, v3, v4, v5⟩ := Z0.out.cells
    obtain ⟨s1, x0, x1, x2⟩ := Z1.out
    have HF : Hid (ChS B o b (some g') n (del x.id S) (.tuple #[vI x, .bool true]) w (.returned (.tuple #[vI x, .bool true])) (((w4.setCell ⟨w.heap.size, 0, none⟩ (.int .i64 x.id)).setCell ⟨w.heap.size, 1, none⟩ (.int .i64 x.w)).setCell ⟨w.heap.size, 2, none⟩ (.int .i64 x.s))) := end_set HR.out N0.out
    clear HR Z0 Z1 Z2 HM4 C4
    go_wp2_with fail
    refine bodyPost_ret (v := .tuple #[vI x, .bool true]) ?_ rfl HF.out
    rw [results_cell_tmp rfl]
    go_simp
end
end Go.Proofs.Ytdpapnfjpefhkaa
namespace Go.Proofs.Ytdpapnfjpefhkaa
open Go.RowKit
set_option linter.unusedVariables false
set_option maxRecDepth 100000
theorem ret_int {k : IntKind} {a b : Int} (h : a = b) : Ending.returned (.int k a) = .returned (.int k b) := by rw [h]

/-- a number held at the greatest time and the least -/
def hd (x : Int) : Int := max (-4611686018427387904) (min x 4611686018427387904)
theorem hd_lo (x : Int) : -4611686018427387904 ≤ hd x := by unfold hd; omega
theorem hd_hi (x : Int) : hd x ≤ 4611686018427387904 := by unfold hd; omega
theorem hd_in (x : Int) (h : -4611686018427387904 ≤ x) (k : x ≤ 4611686018427387904) : hd x = x := by unfold hd; omega
/-- the sum of two that are held, held -/
def ad (t d : Int) : Int := hd (hd t + hd d)

theorem ad_eq (t d : Int) : ad t d = max (-4611686018427387904) (min (hd t + hd d) 4611686018427387904) := rfl
theorem ad_lo (t d : Int) : -4611686018427387904 ≤ ad t d := hd_lo _
theorem ad_hi (t d : Int) : ad t d ≤ 4611686018427387904 := hd_hi _

theorem hold_any (x : Int) (w : World) : Calls Try.prog 96 #[.int .i64 x] w fun e w' => e = .returned (.int .i64 (hd x)) ∧ w = w' := by
  go_enter Try.func96, Try.ntmps96
  go_wp2
  all_goals (go_ret; exact ⟨ret_int (by unfold hd; omega), rfl⟩)


theorem add_any (t d : Int) (w : World) : Calls Try.prog 84 #[.int .i64 t, .int .i64 d] w fun e w' => e = .returned (.int .i64 (ad t d)) ∧ w = w' := by
  have h1 := hd_lo t
  have h2 := hd_hi t
  have h3 := hd_lo d
  have h4 := hd_hi d
  go_enter Try.func84, Try.ntmps84
  go_wp2_with (go_at_call 96; refine (hold_any _ _).mono ?_; rintro e w' ⟨rfl, rfl⟩)
  all_goals (go_ret; exact ⟨ret_int (by rw [ad_eq]; omega), rfl⟩)





/-- may the next time of a row be asked? -/
def nxB (when per now : Int) : Bool := decide (1 ≤ per) && (decide (0 ≤ when) && (decide (0 ≤ now) && (decide (when ≤ 4611686018427387904) && (decide (per ≤ 4611686018427387904) && decide (now ≤ 4611686018427387904)))))
/-- the next time of a row -/
def nx (when per now : Int) : Int := if now < when then when else hd (now - (now - when) % per + per)

theorem next_no (when per now : Int) (w : World) (h : nxB when per now = false) :
    Calls Try.prog 72 #[.int .i64 when, .int .i64 per, .int .i64 now] w fun e w' => e = .returned (.tuple #[.int .i64 0, .int .i64 1]) ∧ w = w' := by
  have h' : ¬ (1 ≤ per ∧ 0 ≤ when ∧ 0 ≤ now ∧ when ≤ 4611686018427387904 ∧ per ≤ 4611686018427387904 ∧ now ≤ 4611686018427387904) := by
    intro k; simp [nxB, k] at h
  clear h
  by_cases c1 : per < 1
  · go_enter Try.func72, Try.ntmps72
    go_wp2
    go_ret2
    exact ⟨rfl, rfl⟩
  by_cases c2 : when < 0
  · go_enter Try.func72, Try.ntmps72
    go_wp2
    go_ret2
    exact ⟨rfl, rfl⟩
  by_cases c3 : now < 0
  · go_enter Try.func72, Try.ntmps72
    go_wp2
    go_ret2
    exact ⟨rfl, rfl⟩
  by_cases c4 : 4611686018427387904 < when
  · go_enter Try.func72, Try.ntmps72
    go_wp2
    go_ret2
    exact ⟨rfl, rfl⟩
  by_cases c5 : 4611686018427387904 < per
  · go_enter Try.func72, Try.ntmps72
    go_wp2
    go_ret2
    exact ⟨rfl, rfl⟩
  have c6 : 4611686018427387904 < now := by omega
  clear h'
  go_enter Try.func72, Try.ntmps72
  go_wp2
  go_ret2
  exact ⟨rfl, rfl⟩

theorem nx_add (when per now : Int) (h0 : 0 ≤ when) (h1 : 1 ≤ per) (h2 : per ≤ 4611686018427387904) (h3 : now ≤ 4611686018427387904) (hge : when ≤ now) :
    ad (now - (now - when) % per) per = nx when per now := by
  have e1 : 0 ≤ (now - when) % per := Int.emod_nonneg _ (by omega)
  have e2 : (now - when) % per < per := Int.emod_lt_of_pos _ (by omega)
  have e3 : (now - when) % per ≤ now - when := by
    rcases Int.lt_or_le (now - when) per with h | h
    · rw [Int.emod_eq_of_lt (by omega) h]; exact Int.le_refl _
    · omega
  unfold nx ad
  rw [if_neg (by omega), hd_in (now - (now - when) % per) (by omega) (by omega), hd_in per (by omega) (by omega)]

theorem next_yes (when per now : Int) (w : World) (h1 : 1 ≤ per) (h2 : 0 ≤ when) (h3 : 0 ≤ now) (h4 : when ≤ 4611686018427387904) (h5 : per ≤ 4611686018427387904) (h6 : now ≤ 4611686018427387904) :
    Calls Try.prog 72 #[.int .i64 when, .int .i64 per, .int .i64 now] w fun e w' => e = .returned (.tuple #[.int .i64 (nx when per now), .int .i64 0]) ∧ w = w' := by
  by_cases hlt : now < when
  · go_enter Try.func72, Try.ntmps72
    go_wp2
    go_ret2
    exact ⟨by rw [show nx when per now = when from if_pos hlt]; rfl, rfl⟩
  · have hge : when ≤ now := by omega
    have hn := nx_add when per now h2 h1 h5 h6 hge
    have e1 : 0 ≤ (now - when) % per := Int.emod_nonneg _ (by omega)
    have e2 : (now - when) % per < per := Int.emod_lt_of_pos _ (by omega)
    have Hn : Hid (ad (now - (now - when) % per) per = nx when per now) := hn
    clear hn hlt
    go_enter Try.func72, Try.ntmps72
    go_wp2_with (go_at_call 84; refine (add_any _ _ _).mono ?_; rintro e w' ⟨rfl, rfl⟩)
    go_ret2
    exact ⟨by rw [← Hn.out]; rfl, rfl⟩

theorem nx_mul (when per now : Int) (hge : when ≤ now) : nx when per now = hd (when + ((now - when) / per + 1) * per) := by
  have e := Int.emod_add_mul_ediv (now - when) per
  have e2 : ((now - when) / per + 1) * per = per * ((now - when) / per) + per := by rw [Int.add_mul, Int.mul_comm, Int.one_mul]
  unfold nx
  rw [if_neg (by omega), e2, show now - (now - when) % per + per = when + (per * ((now - when) / per) + per) from by omega]

end Go.Proofs.Ytdpapnfjpefhkaa
namespace Go.Proofs.Ytdpapnfjpefhkaa
open Go.RowKit
set_option linter.unusedVariables false
set_option maxRecDepth 100000

/-- Block b is a map that holds g x at each x (0: it is not there), no more than n of them. -/
def Pm (w : World) (b n : Nat) (g : Int → Int) : Prop :=
  ∃ D : DataW Unit, w.ownsMap Try.prog 3 (plainElem Try.prog 3) b (Maps.size D) D ∧ Maps.size D ≤ n ∧ ∀ x, D.atKey (kL x) (dL 0) = dL (g x)
section
variable {w w' : World} {b n m : Nat} {g : Int → Int} {x v : Int}
theorem Pm.lt (h : Pm w b n g) : b < w.heap.size := by obtain ⟨D, h, _⟩ := h; exact h.lt
theorem Pm.blk (h : Pm w b n g) : ∃ es clock, w.heap[b]? = some (.map es clock) := by obtain ⟨D, ⟨es, clock, h, _⟩, _⟩ := h; exact ⟨es, clock, h⟩
theorem Pm.keep (h : Pm w b n g) (e : w'.heap[b]? = w.heap[b]?) : Pm w' b n g := by
  obtain ⟨D, ⟨es, clock, h1, h2⟩, h3⟩ := h
  exact ⟨D, ⟨es, clock, by rw [e]; exact h1, h2⟩, h3⟩
theorem Pm.up (h : Pm w b n g) (k : n ≤ m) : Pm w b m g := by
  obtain ⟨D, h1, h2, h3⟩ := h
  exact ⟨D, h1, Nat.le_trans h2 k, h3⟩
theorem Pm.new (w : World) : Pm (w.alloc (.map #[] 0)) w.heap.size 0 (fun _ => 0) :=
  ⟨.map [], World.ownsMap_made w Try.prog 3 (plainElem Try.prog 3), Nat.le_refl _, fun x => Maps.atKey_of_not_has rfl _⟩
theorem Pm.get (h : Pm w b n g) (hx : Wf x) : (Instr.lookup 95 (.map (some b)) (.int .i64 x) false).run Try.prog w = .ok (.int .i64 (g x)) w := by
  obtain ⟨D, h1, h2, h3⟩ := h
  obtain ⟨c, hrun, hat, _⟩ := h1.lookup_int law Try.underlying95 Try.underlying3 (zeroI w) (keyI hx)
  rw [h3 x] at hat
  rw [dL_inj hat]; exact hrun
theorem Pm.store (h : Pm w b n g) (hx : Wf x) (hv : Wf v) (hn : n < maxLen) :
    ∃ w', (Instr.mapUpdate 95 (.map (some b)) (.int .i64 x) (.int .i64 v)).run Try.prog w = .ok () w' ∧ Trn w w' b ∧ Pm w' b (n + 1) (fput g x v) := by
  obtain ⟨D, h1, h2, h3⟩ := h
  obtain ⟨w', hrun, ho, ht⟩ := h1.store law Try.underlying95 (Nat.lt_of_le_of_lt h2 hn) (keyI hx) (elI hv)
  refine ⟨w', hrun, turned_block ht, D.put (kL x) (dL v), own_exact ho, ?_, fun y => ?_⟩
  · rw [Maps.size_put (h1.tidy law)]
    split <;> omega
  · by_cases e : y = x
    · subst e
      rw [Maps.atKey_put_same h1.isMap (kL_key _), fput_at]
    · rw [Maps.atKey_put_other (kL_ne e), fput_ne e, h3]
theorem Pm.drop (h : Pm w b n g) (hx : Wf x) (ty : TypeId) :
    ∃ w', (Builtin.delete_ #[95, 3] ty #[.map (some b), .int .i64 x]).run Try.prog w = .ok (.tuple #[]) w' ∧ Trn w w' b ∧ Pm w' b n (fput g x 0) := by
  obtain ⟨D, h1, h2, h3⟩ := h
  obtain ⟨w', hrun, ho, ht⟩ := h1.drop law Try.underlying95 (keyI hx) ty
  have hs := Maps.size_del (k := kL x) (h1.tidy law)
  refine ⟨w', hrun, turned_block ht, D.del (kL x), own_exact ho, ?_, fun y => ?_⟩
  · split at hs <;> omega
  · by_cases e : y = x
    · subst e
      rw [Maps.atKey_del_same, fput_at]
    · rw [Maps.atKey_del_other (kL_ne e), fput_ne e, h3]
end
section
variable {ops : Array Oper} {rest : List Oper} {op : Oper} {a : Act} {Q : Exit → Act → World → Prop} {x v : Int} {w : World} {b n : Nat} {g : Int → Int}
theorem wp_pdrop (hg : op.guard = none) (u y : Operand) (hop : op.op = Op.call { callee := Callee.builtin Builtin.delete, args := #[u, y], argTypes := #[95, 3] })
    (h : Pm w b n g) (hx : Wf x) (hm : a.eval u = .map (some b)) (hy : a.eval y = .int .i64 x)
    (hK : ∀ w', Trn w w' b → Pm w' b n (fput g x 0) → wpList Try.prog ops Q rest (a.put op.dst (.tuple #[])) w') : wpList Try.prog ops Q (op :: rest) a w := by
  refine wpList_plain hg fun K' hK' => ?_
  obtain ⟨w', hrun, r1, r2⟩ := h.drop hx op.type
  unfold Oper.wp
  simp [execOp, hop, resolve, invoke, builtin, hm, hy, hrun, Result.andThen]
  exact hK' _ _ (hK w' r1 r2)
theorem wp_pstore (hg : op.guard = none) (m y z : Operand) (hop : op.op = Op.mapUpdate 95 m y z)
    (h : Pm w b n g) (hx : Wf x) (hv : Wf v) (hn : n < maxLen) (hm : a.eval m = .map (some b)) (hy : a.eval y = .int .i64 x) (hz : a.eval z = .int .i64 v)
    (hK : ∀ w', Trn w w' b → Pm w' b (n + 1) (fput g x v) → wpList Try.prog ops Q rest (a.put op.dst undef) w') : wpList Try.prog ops Q (op :: rest) a w := by
  refine wpList_plain hg fun K' hK' => ?_
  obtain ⟨w', hrun, r1, r2⟩ := h.store hx hv hn
  unfold Oper.wp
  simp [execOp, hop, hm, hy, hz, hrun, Result.andThen]
  exact hK' _ _ (hK w' r1 r2)
end

/-- Block t is timers: its heap at o, that one's map at b, its slice at p; periods at c. -/
structure TT (B t : Nat) (vA vL : Value) (o b c : Nat) (p : Option Nat) (n N : Nat) (S : List It) (g : Int → Int) (w : World) : Prop where
  hg : HG B w o b p n S
  ht : w.heap[t]? = some (.cells #[vA, .pointer (some ⟨o, 0, none⟩), .map (some c), vL] 99 (0, 0))
  pm : Pm w c N g
  ok : Ok n S
  gt : B ≤ t
  gc : B ≤ c
  ne : c ≠ b
/-- Nothing but the heap's blocks and the periods' has turned. -/
structure TC (o b c : Nat) (p p' : Option Nat) (w w' : World) : Prop where
  os : w'.os = w.os
  tape : w'.tape = w.tape
  output : w'.output = w.output
  size : w.heap.size ≤ w'.heap.size
  block : ∀ k, k < w.heap.size → k ≠ o → k ≠ b → k ≠ c → p ≠ some k → w'.heap[k]? = w.heap[k]?
  new : p' = p ∨ ∀ k, p' = some k → w.heap.size ≤ k
theorem TC.trans {o b c : Nat} {p p' p'' : Option Nat} {u v w : World} (h : TC o b c p p' u v) (k : TC o b c p' p'' v w) : TC o b c p p'' u w := by
  have h0 := h.size
  refine ⟨k.os.trans h.os, k.tape.trans h.tape, k.output.trans h.output, Nat.le_trans h.size k.size, fun i h1 h2 h3 h5 h4 => (k.block i (by omega) h2 h3 h5 (fun e => ?_)).trans (h.block i h1 h2 h3 h5 h4), ?_⟩
  · rcases h.new with h5 | h5
    · exact h4 (h5.symm.trans e)
    · have := h5 i e; omega
  · rcases k.new with h6 | h6
    · subst h6; exact h.new
    · exact .inr fun i hi => by have := h6 i hi; omega
theorem TC.of_below {o b c : Nat} (p : Option Nat) {w w' : World} (h : Below w.heap.size w w') : TC o b c p p w w' := ⟨h.os, h.tape, h.output, h.size, fun k hk _ _ _ _ => h.block k hk, .inl rfl⟩
theorem TC.of_chg {o b : Nat} (c : Nat) {p p' : Option Nat} {w w' : World} (h : Chg o b p p' w w') : TC o b c p p' w w' := ⟨h.os, h.tape, h.output, h.size, fun k hk h1 h2 _ h3 => h.block k hk h1 h2 h3, h.new⟩
theorem TC.of_trn {o b c : Nat} (p : Option Nat) {w w' : World} (h : Trn w w' c) : TC o b c p p w w' := by
  obtain ⟨h1, h2, h3, h4, h5⟩ := h
  exact ⟨h1, h2, h3, by omega, fun k _ _ _ h6 _ => h5 k h6, .inl rfl⟩
/-- No row of another kind has turned. -/
def OX (w w' : World) : Prop := ∀ (k : Nat) (cs : Array Value) (t : TypeId) (fr : Nat × Nat), w.heap[k]? = some (.cells cs t fr) → t ≠ 179 → t ≠ 150 → w'.heap[k]? = some (.cells cs t fr)
theorem OX.refl (w : World) : OX w w := fun _ _ _ _ h _ _ => h
theorem OX.trans {u v w : World} (h : OX u v) (k : OX v w) : OX u w := fun i cs t fr h1 h2 h3 => k i cs t fr (h i cs t fr h1 h2 h3) h2 h3
theorem OX.of_below {w w' : World} (h : Below w.heap.size w w') : OX w w' := fun k cs t fr h1 _ _ => (h.block k (lt_of_blk h1)).trans h1
theorem OX.row {w w' : World} {B e s n c : Nat} {P : Option Addr} {xs : List Value} (h : OX w w') (r : w.ownsRow B e s (.slice P n c) n xs) (h1 : e ≠ 179) (h2 : e ≠ 150) : w'.ownsRow B e s (.slice P n c) n xs :=
  row_keep r fun k hk => by
    obtain ⟨cs, fr, ht⟩ := row_tag r hk
    rw [ht]; exact h k cs e fr ht h1 h2
/-- What a call answers, and what the timers have come to be: with their blocks .. -/
def XC (B t : Nat) (vA vL : Value) (o b c : Nat) (p : Option Nat) (n N : Nat) (S : List It) (g : Int → Int) (v : Value) (w : World) (e : Ending) (w' : World) : Prop :=
  e = .returned v ∧ ∃ p', TT B t vA vL o b c p' n N S g w' ∧ TC o b c p p' w w'
/-- .. and without. -/
def TN (B t : Nat) (vA vL : Value) (o b c n : Nat) (S : List It) (g : Int → Int) (w : World) : Prop := ∃ p N, N ≤ n ∧ TT B t vA vL o b c p n N S g w
def XR (B t : Nat) (vA vL : Value) (o b c n : Nat) (S : List It) (g : Int → Int) (v : Value) (w : World) (e : Ending) (w' : World) : Prop :=
  e = .returned v ∧ TN B t vA vL o b c n S g w' ∧ Below B w w' ∧ OX w w'
section
variable {B t o b c n n' N N' : Nat} {vA vL : Value} {p p' : Option Nat} {S S' : List It} {g g' : Int → Int} {w w' : World} {e : Ending} {v : Value}
theorem TT.c0 (h : TT B t vA vL o b c p n N S g w) : w.cell? ⟨t, 1, none⟩ = some (.pointer (some ⟨o, 0, none⟩)) := by rw [cell_of_row w t 1 _ _ _ h.ht]; rfl
theorem TT.c1 (h : TT B t vA vL o b c p n N S g w) : w.cell? ⟨t, 2, none⟩ = some (.map (some c)) := by rw [cell_of_row w t 2 _ _ _ h.ht]; rfl
theorem TT.lt (h : TT B t vA vL o b c p n N S g w) : t < w.heap.size := lt_of_blk h.ht
theorem TT.hB (h : TT B t vA vL o b c p n N S g w) : B ≤ w.heap.size := by have := h.lt; have := h.gt; omega
theorem TT.later (h : TT B t vA vL o b c p n N S g w) (hb : Below w.heap.size w w') : TT B t vA vL o b c p n N S g w' :=
  ⟨h.hg.later hb, (hb.block _ h.lt).trans h.ht, h.pm.keep (hb.block _ h.pm.lt), h.ok, h.gt, h.gc, h.ne⟩
/-- The timers' own block, and the periods', are none of the heap's. -/
theorem TT.apart (h : TT B t vA vL o b c p n N S g w) : (t ≠ o ∧ t ≠ b ∧ p ≠ some t) ∧ c ≠ o ∧ p ≠ some c ∧ t ≠ c := by
  obtain ⟨es, cl, hc⟩ := h.pm.blk
  refine ⟨⟨?_, ?_, ?_⟩, ?_, ?_, ?_⟩
  · rintro rfl
    obtain ⟨cs', fr', h4⟩ := h.hg.to
    have h5 := h.ht
    rw [h4] at h5; injection h5 with h5; injection h5 with _ h5 _; cases h5
  · rintro rfl
    obtain ⟨es, cl, h4⟩ := h.hg.tb
    have h5 := h.ht
    rw [h4] at h5; cases h5
  · intro hk
    obtain ⟨cs', fr', h4⟩ := h.hg.tp hk
    have h5 := h.ht
    rw [h4] at h5; injection h5 with h5; injection h5 with _ h5 _; cases h5
  · rintro rfl
    obtain ⟨cs', fr', h4⟩ := h.hg.to
    rw [h4] at hc; cases hc
  · intro hk
    obtain ⟨cs', fr', h4⟩ := h.hg.tp hk
    rw [h4] at hc; cases hc
  · rintro rfl
    have h5 := h.ht
    rw [hc] at h5; cases h5
theorem TT.go (h : TT B t vA vL o b c p n N S g w) (ok : Ok n' S') (cr : ChR B o b p n' S' v w e w') : XC B t vA vL o b c p n' N S' g v w e w' := by
  obtain ⟨h1, p', h2, h3⟩ := cr
  obtain ⟨⟨a1, a2, a3⟩, a4, a5, _⟩ := h.apart
  exact ⟨h1, p', ⟨h2, (h3.block t h.lt a1 a2 a3).trans h.ht, h.pm.keep (h3.block c h.pm.lt a4 h.ne a5), ok, h.gt, h.gc, h.ne⟩, TC.of_chg c h3⟩
theorem TT.mapped (h : TT B t vA vL o b c p n N S g w) (ht : Trn w w' c) (pm : Pm w' c N' g') : TT B t vA vL o b c p n N' S g' w' ∧ TC o b c p p w w' := by
  obtain ⟨⟨a1, a2, a3⟩, a4, a5, a6⟩ := h.apart
  have k := ht.2.2.2.2
  exact ⟨⟨h.hg.keep (k o a4.symm) (k b h.ne.symm) (fun j hj => k j fun e => a5 (by rw [← e]; exact hj)), (k t a6).trans h.ht, pm, h.ok, h.gt, h.gc, h.ne⟩, TC.of_trn p ht⟩
theorem TT.low (h : TT B t vA vL o b c p n N S g w) (hc : TC o b c p p' w w') : Below B w w' := by
  have hB := h.hB
  have hgc := h.gc
  obtain ⟨P, cc, m, f, e0, h1, _⟩ := h.hg
  have := h1.go
  have := h1.gb
  refine ⟨hc.os, hc.tape, hc.output, hc.size, fun k hk => hc.block k (by omega) (by omega) (by omega) (by omega) fun e => ?_⟩
  have := (row_lt h1.own (e0.trans e)).1
  omega
theorem TT.ox (h : TT B t vA vL o b c p n N S g w) (hc : TC o b c p p' w w') : OX w w' := fun k cs ty fr h1 h2 h3 => by
  rw [hc.block k (lt_of_blk h1) ?_ ?_ ?_ ?_]; exact h1
  · rintro rfl
    obtain ⟨cs', fr', h4⟩ := h.hg.to
    rw [h4] at h1; injection h1 with h1; injection h1 with _ h1 _; exact h2 h1.symm
  · rintro rfl
    obtain ⟨es, cl, h4⟩ := h.hg.tb
    rw [h4] at h1; cases h1
  · rintro rfl
    obtain ⟨es, cl, h4⟩ := h.pm.blk
    rw [h4] at h1; cases h1
  · intro hk
    obtain ⟨cs', fr', h4⟩ := h.hg.tp hk
    rw [h4] at h1; injection h1 with h1; injection h1 with _ h1 _; exact h3 h1.symm
theorem TT.xr (h : TT B t vA vL o b c p n N S g w) (hN : N' ≤ n') (x : XC B t vA vL o b c p n' N' S' g' v w e w') : XR B t vA vL o b c n' S' g' v w e w' := by
  obtain ⟨h1, p', h2, h3⟩ := x
  exact ⟨h1, ⟨p', N', hN, h2⟩, h.low h3, h.ox h3⟩
theorem TN.later (h : TN B t vA vL o b c n S g w) (hb : Below w.heap.size w w') : TN B t vA vL o b c n S g w' := by
  obtain ⟨p, N, hN, h⟩ := h
  exact ⟨p, N, hN, h.later hb⟩
theorem TN.hB (h : TN B t vA vL o b c n S g w) : B ≤ w.heap.size := by obtain ⟨p, N, hN, h⟩ := h; exact h.hB
theorem TN.ok (h : TN B t vA vL o b c n S g w) : Ok n S := by obtain ⟨p, N, hN, h⟩ := h; exact h.ok
theorem TN.same (h : TN B t vA vL o b c n S g w) (hr : e = .returned v ∧ Below w.heap.size w w') : XR B t vA vL o b c n S g v w e w' :=
  ⟨hr.1, h.later hr.2, hr.2.mono h.hB, OX.of_below hr.2⟩
/-- A store into a row of another kind. -/
theorem TT.cell (h : TT B t vA vL o b c p n N S g w) {s ty j : Nat} {cs : Array Value} {fr : Nat × Nat} (ht : w.heap[s]? = some (.cells cs ty fr)) (h1 : ty ≠ 179) (h2 : ty ≠ 150) (h3 : ty ≠ 99) (v : Value) : TT B t vA vL o b c p n N S g (w.setCell ⟨s, j, none⟩ v) := by
  have key : ∀ k, k ≠ s → (w.setCell ⟨s, j, none⟩ v).heap[k]? = w.heap[k]? := fun k hk => Below.heap_setCell _ _ _ _ (by exact hk)
  refine ⟨h.hg.keep (key o ?_) (key b ?_) (fun k hk => key k ?_), (key t ?_).trans h.ht, h.pm.keep (key c ?_), h.ok, h.gt, h.gc, h.ne⟩
  · rintro rfl
    obtain ⟨cs', fr', h4⟩ := h.hg.to
    rw [ht] at h4; injection h4 with h4; injection h4 with _ h4 _; exact h1 h4
  · rintro rfl
    obtain ⟨es, cl, h4⟩ := h.hg.tb
    rw [ht] at h4; cases h4
  · rintro rfl
    obtain ⟨cs', fr', h4⟩ := h.hg.tp hk
    rw [ht] at h4; injection h4 with h4; injection h4 with _ h4 _; exact h2 h4
  · rintro rfl
    have h4 := h.ht
    rw [ht] at h4; injection h4 with h4; injection h4 with _ h4 _; exact h3 h4
  · rintro rfl
    obtain ⟨es, cl, h4⟩ := h.pm.blk
    rw [ht] at h4; cases h4
theorem TN.cell (h : TN B t vA vL o b c n S g w) {s ty j : Nat} {cs : Array Value} {fr : Nat × Nat} (ht : w.heap[s]? = some (.cells cs ty fr)) (h1 : ty ≠ 179) (h2 : ty ≠ 150) (h3 : ty ≠ 99) (v : Value) : TN B t vA vL o b c n S g (w.setCell ⟨s, j, none⟩ v) := by
  obtain ⟨p, N, hN, h⟩ := h
  exact ⟨p, N, hN, h.cell ht h1 h2 h3 v⟩
end
end Go.Proofs.Ytdpapnfjpefhkaa
