/- What Remove and Pop of package heap do. Conditions: each theorem's own premises.
Timers in memory: a heap, and periods by numbers; how they carry. No condition.
What each call of package expire makes of timers. Conditions: each theorem's own premises.
What Stop, Armed, Next and Len of package expire answer. Conditions: each theorem's own premises.
A region that draws its order and ends in one store that waits for all else: loads may be taken first though the store hits what they read. Conditions: each theorem's own premises.
What Take of package expire does. Conditions: each theorem's own premises. -/
import Derived.Test.YtdpapnfjpefhkaaGreatFstm
import Derived.Outline
import Derived.Deep.Cut
import Derived.Deep.CutRange
import Derived.Deep.DeepCutAuto
import Derived.Deep.CutBlock
import Derived.Test.YtdpapnfjpefhkaaGreatMemm
namespace Go.Proofs.YtdpapnfjpefhkaaGreat
open Go.RowKit
set_option linter.unusedVariables false
set_option maxRecDepth 100000
abbrev vI (x : It) : Value := .agg #[.int .i64 x.id, .int .i64 x.w, .int .i64 x.s]
section
variable {B o b c n : Nat} {p : Option Nat} {P : Option Addr} {S m : List It} {K : List Int} {f : Int → Int} {w w' w1 : World} {e : Ending} {v : Value}
theorem remove_no {k : Int} (h : HG B w o b p n S) (hk : Wf k) (hm : k ∉ ids S) : Calls Tryz.prog 120 #[.pointer (some ⟨o, 0, none⟩), .int .i64 k] w (IbR zI false w) := by
 obtain ⟨P, c, m, f, e0, h1, h2, h3, h4⟩ := h
 have d := decide_eq_false (fun e => hm ((ids_perm h4).mem_iff.1 e) : k ∉ ids m)
 have HA := Lib.hid h1
 clear h1 h2 h3 h4
 go_enter Tryz.func120, Tryz.ntmps120
 go_wp2_with fail
 refine (place_any k _ (HA.out.later (below_al _ _)) hk).mono ?_
 rintro e w' ⟨⟨v, rfl, _⟩, rfl⟩
 rw [d]
 go_wp2_with fail
 refine bodyPost_ret (v := .tuple #[.agg #[.int .i64 0, .int .i64 0, .int .i64 0], .bool false]) ?_ rfl ⟨rfl, ?_⟩
 · rw [results_cell_tmp rfl]; go_simp; try rfl
 · first | exact below_al _ _ | (repeat' (first | exact below_al _ _ | refine Below.alloc ?_ (by omega) _))
section
variable {ops : Array Oper} {rest : List Oper} {op : Oper} {a : Act} {Q : Exit → Act → World → Prop} {x : Int} {q : Nat}
theorem wp_delete (hg : op.guard = none) (u y : Operand) (hop : op.op = Op.call { callee := Callee.builtin Builtin.delete, args := #[u, y], argTypes := #[142, 3] })
  (h : Tm w b K f) (hd : K.Nodup) (hx : Wf x) (hp : K[q]? = some x) (hm : a.eval u = .map (some b)) (hy : a.eval y = .int .i64 x)
  (hK : ∀ w', Trn w w' b → Tm w' b (K.eraseIdx q) f → wpList Tryz.prog ops Q rest (a.put op.dst (.tuple #[])) w') : wpList Tryz.prog ops Q (op :: rest) a w := by
 refine wpList_plain hg fun K' hK' => ?_
 obtain ⟨w', hrun, r1, r2⟩ := h.drop hd hx hp op.type
 unfold Oper.wp
 simp [execOp, hop, resolve, invoke, builtin, hm, hy, hrun, Result.andThen]
 exact hK' _ _ (hK w' r1 r2)
end
def Blk (w : World) (s : Nat) (x : It) : Prop := w.heap[s]? = some (.cells #[.int .i64 x.id, .int .i64 x.w, .int .i64 x.s] 203 (0, 0))
theorem Blk.new (w : World) (x : It) : Blk (w.alloc (.cells #[.int .i64 x.id, .int .i64 x.w, .int .i64 x.s] 203)) w.heap.size x := heap_alloc_new w _
theorem Blk.later {s : Nat} {x : It} (h : Blk w s x) (hb : Below w.heap.size w w') : Blk w' s x := (hb.block s (lt_of_blk h)).trans h
theorem Blk.chg {p p' : Option Nat} {s : Nat} {x : It} (h : Blk w s x) (hc : Chg o b p p' w w') (hn : o ≠ s ∧ b ≠ s ∧ p ≠ some s) : Blk w' s x := (hc.block s (lt_of_blk h) (fun e => hn.1 e.symm) (fun e => hn.2.1 e.symm) hn.2.2).trans h
theorem Blk.cells {s : Nat} {x : It} (h : Blk w s x) : w.cell? ⟨s, 0, none⟩ = some (.int .i64 x.id) ∧ w.cell? ⟨s, 1, none⟩ = some (.int .i64 x.w) ∧ w.cell? ⟨s, 2, none⟩ = some (.int .i64 x.s) ∧ w.frozen? ⟨s, 0, none⟩ = false ∧ w.frozen? ⟨s, 1, none⟩ = false ∧ w.frozen? ⟨s, 2, none⟩ = false :=
 ⟨by rw [cell_of_row w s 0 _ _ _ h]; rfl, by rw [cell_of_row w s 1 _ _ _ h]; rfl, by rw [cell_of_row w s 2 _ _ _ h]; rfl, frozen_of_row w s 0 _ _ h, frozen_of_row w s 1 _ _ h, frozen_of_row w s 2 _ _ h⟩
theorem Blk.set3 {s : Nat} {x : It} (h : Blk w s x) (y : It) : Blk (((w.setCell ⟨s, 0, none⟩ (.int .i64 y.id)).setCell ⟨s, 1, none⟩ (.int .i64 y.w)).setCell ⟨s, 2, none⟩ (.int .i64 y.s)) s y := by
 have h1 := heap_setCell_same w s 0 _ _ (.int .i64 y.id) h
 have h2 := heap_setCell_same _ s 1 _ _ (.int .i64 y.w) h1
 have h3 := heap_setCell_same _ s 2 _ _ (.int .i64 y.s) h2
 exact h3
theorem Chg.set {p' : Option Nat} {s : Nat} (h : Chg o b p p' w w') (hs : w.heap.size ≤ s) (j : Nat) (v : Value) : Chg o b p p' w (w'.setCell ⟨s, j, none⟩ v) :=
 ⟨h.os, h.tape, h.output, by have := h.size; simpa [World.setCell] using this, fun k hk a1 a2 a3 => (Below.heap_setCell _ _ _ _ (show k ≠ s by omega)).trans (h.block k hk a1 a2 a3), h.new⟩
theorem HG.set {s : Nat} (h : HG B w o b p n S) (ne : o ≠ s ∧ b ≠ s ∧ p ≠ some s) (j : Nat) (v : Value) : HG B (w.setCell ⟨s, j, none⟩ v) o b p n S :=
 h.keep (Below.heap_setCell _ _ _ _ (by exact ne.1)) (Below.heap_setCell _ _ _ _ (by exact ne.2.1)) fun k hk => Below.heap_setCell _ _ _ _ (show k ≠ s from fun e => ne.2.2 (by rw [← e]; exact hk))
def ChS (B o b : Nat) (p : Option Nat) (n : Nat) (S : List It) (v : Value) (w : World) (e : Ending) (w' : World) : Prop := e = .returned v ∧ HG B w' o b p n S ∧ Chg o b p p w w'
theorem ChS.chr (h : ChS B o b p n S v w e w') : ChR B o b p n S v w e w' := ⟨h.1, p, h.2.1, h.2.2⟩
theorem SetR.chs {l0 : List It} (h : SetR B o b P c n l0 w1 e w') (hp : l0.Perm S) (hc : Chg o b (blk P) (blk P) w w1) (he : v = .tuple #[]) : ChS B o b (blk P) n S v w e w' := by
 obtain ⟨h1, m, f, h2, h3, h4, h5, h6⟩ := h
 exact ⟨by rw [h1, he], ⟨P, c, m, f, rfl, h2, h3, h4, h5.trans hp⟩, hc.trans h6⟩
theorem end_set {u : Value} {x : It} (h : ChS B o b p n S v w e w') (ne : o ≠ w.heap.size ∧ b ≠ w.heap.size ∧ p ≠ some w.heap.size) : ChS B o b p n S u w (.returned u) (((w'.setCell ⟨w.heap.size, 0, none⟩ (.int .i64 x.id)).setCell ⟨w.heap.size, 1, none⟩ (.int .i64 x.w)).setCell ⟨w.heap.size, 2, none⟩ (.int .i64 x.s)) :=
 ⟨rfl, ((h.2.1.set ne 0 _).set ne 1 _).set ne 2 _, ((h.2.2.set (Nat.le_refl _) 0 _).set (Nat.le_refl _) 1 _).set (Nat.le_refl _) 2 _⟩
theorem left_perm {i k : Nat} {x z : It} (hk : m.length = k + 1) (hi : m[i]? = some x) (hz : m[k]? = some z) (hn : (ids m).Nodup) : (i < k → ((m.take k).set i z).Perm (del x.id m)) ∧ (i = k → m.take k = del x.id m) := by
 have e1 : m = m.take k ++ [z] := by
  have := List.take_append_drop k m
  rw [List.drop_eq_getElem_cons (by omega), List.drop_eq_nil_of_le (by omega)] at this
  rw [List.getElem?_eq_some_iff] at hz
  obtain ⟨h1, h2⟩ := hz
  rw [h2] at this
  exact this.symm
 have e2 := del_at hn hi rfl
 constructor
 · intro h
   have := set_perm (l := m.take k) z (i := i) (by simp; omega)
   rw [← e1] at this
   rw [e2]; exact this
 · rintro rfl
   rw [e2, List.eraseIdx_eq_take_drop_succ, List.drop_eq_nil_of_le (by omega), List.append_nil]
theorem left_last {i k : Nat} {x : It} (hk : m.length = k + 1) (h : HB B w' o b P c n (m.take k) ((ids m).eraseIdx i) f) (hi : i = k) (hpl : Pl m f) (hh : Hp m) (hp : m.take k = del x.id m) (h4 : m.Perm S) : HG B w' o b (blk P) n (del x.id S) := by
 subst hi
 have e1 : (ids m).eraseIdx i = ids (m.take i) := by
  rw [List.eraseIdx_eq_take_drop_succ, List.drop_eq_nil_of_le (by rw [ids_len]; omega), List.append_nil]
  simp [ids]
 rw [e1] at h
 refine ⟨P, c, m.take i, f, rfl, h, fun q z hz => ?_, hp_take hh i, ?_⟩
 · have := at_lt hz
   simp at this
   rw [List.getElem?_take_of_lt (by omega)] at hz
   exact hpl q z hz
 · rw [hp]; exact del_perm h4
theorem left_way {i k : Nat} {x z : It} (hk : m.length = k + 1) (h : HB B w' o b P c n (m.take k) ((ids m).eraseIdx i) f) (hik : i < k) (hi : m[i]? = some x) (hz : m[k]? = some z) (hn : (ids m).Nodup) (hpl : Pl m f) (hh : Hp m) :
  Way HpAt B o b P c n ((ids m).eraseIdx i) ((m.take k).set i z) z w' (m.take k) f i w' := by
 have hil : i < (m.take k).length := by simp; omega
 have e2 := del_at hn hi rfl
 have e3 := (left_perm hk hi hz hn).1 hik
 have e4 : ids (del x.id m) = (ids m).eraseIdx i := by rw [e2]; simp [ids, List.eraseIdx_eq_take_drop_succ, List.map_take, List.map_drop]
 refine ⟨h, ⟨hil, List.Perm.refl _, (ids_perm e3).nodup_iff.2 (nd_del hn), .inl ?_, fun q y _ hy => ?_⟩, at_set (at_of_hp (hp_take hh k) i hil) z, List.Perm.refl _, Chg.refl _ _⟩
 · rw [← e4]; exact (ids_perm e3).symm
 · have := at_lt hy
   simp at this
   rw [List.getElem?_take_of_lt (by omega)] at hy
   exact hpl q y hy
set_option maxHeartbeats 8000000 in
theorem remove_yes {x : It} (h : HG B w o b p n S) (hS : Ok n S) (hx : x ∈ S) (hl : S.length ≤ 1000) :
  Calls Tryz.prog 120 #[.pointer (some ⟨o, 0, none⟩), .int .i64 x.id] w (ChS B o b p n (del x.id S) (.tuple #[vI x, .bool true]) w) := by
 obtain ⟨P, c, m, f, e0, h1, h2, h3, h4⟩ := h
 subst e0
 have hxm := h4.mem_iff.2 hx
 obtain ⟨i, hi, hil⟩ := mem_at hxm
 have hmm := mem_ids hxm
 have d := decide_eq_true hmm
 have hfi := h2 i x hi
 have hk := h1.wf x hxm
 have hnd : (ids m).Nodup := (ids_perm h4).nodup_iff.2 hS.ids
 have hlen := h4.length_eq
 obtain ⟨g, rfl, d0, d1, d2⟩ := h1.at hi
 obtain ⟨z, hz⟩ := ex_at (l := m) (p := m.length - 1) (by omega)
 obtain ⟨k, hkk⟩ : ∃ k, m.length = k + 1 := ⟨m.length - 1, by omega⟩
 rw [show m.length - 1 = k by omega] at hz
 obtain ⟨g', e', y0, y1, y2⟩ := h1.at hz
 obtain rfl : g' = g := by injection e' with e'; injection e' with e'; exact e'.symm
 have c0 := h1.c0
 have c1 := h1.c1
 have f0 := h1.fo 0
 have ho := h1.lo
 have hg := (row_lt h1.own (k := g') rfl).2
 have hcap := row_cap h1.own
 have hil2 : i < k + 1 := by omega
 have HA := Lib.hid h1
 have HM := Lib.hid hmm
 have HI := Lib.hid (And.intro hi (And.intro hz hnd))
 have HQ := Lib.hid (And.intro h2 (And.intro h3 h4))
 have HL := Lib.hid hkk
 have b1 : IntKind.i64.wrap (((k + 1 : Nat) : Int) - 1) = (k : Int) := by rw [IntKind.wrap_i64]; omega
 have b2 : IntKind.i64.wrap ((k : Int) + 1 - 1) = (k : Int) := by rw [IntKind.wrap_i64]; omega
 have b3 : k ≤ c := by omega
 have b4 : (k : Int) ≤ 1000 := by omega
 rw [hkk] at c0
 clear h1 h2 h3 h4 hi hz hnd hmm hlen e' hx hxm
 go_enter Tryz.func120, Tryz.ntmps120
 go_wp2_with fail
 refine (place_any x.id _ (HA.out.later (below_al _ _)) hk).mono ?_
 rintro e w' ⟨⟨v, rfl, hv⟩, rfl⟩
 rw [d]
 have hv2 := hv HM.out
 rw [hfi] at hv2
 subst hv2
 clear hv hfi d
 go_wp2_with fail
 clear hkk hil
 go_region
 go_upto_region 6 with (fail)
 have hb2 : Below w.heap.size w (((w.alloc (.cells #[.int .i64 0, .int .i64 0, .int .i64 0] 203)).alloc (.cells #[.int .i64 x.id, .int .i64 x.w, .int .i64 x.s] 203)).alloc (.cells #[.int .i64 z.id, .int .i64 z.w, .int .i64 z.s] 203)).drew := ((((Below.refl _ _).alloc (Nat.le_refl _) _).alloc (by simp) _).alloc (by simp; omega) _).drew
 have HA2 := Lib.hid (HA.out.later hb2)
 have X0 : Hid (Blk (((w.alloc (.cells #[.int .i64 0, .int .i64 0, .int .i64 0] 203)).alloc (.cells #[.int .i64 x.id, .int .i64 x.w, .int .i64 x.s] 203)).alloc (.cells #[.int .i64 z.id, .int .i64 z.w, .int .i64 z.s] 203)).drew w.heap.size zI) := (((Blk.new w zI).later (below_al _ _)).later (below_al _ _)).later (Below.refl _ _).drew
 have X1 : Hid (Box (((w.alloc (.cells #[.int .i64 0, .int .i64 0, .int .i64 0] 203)).alloc (.cells #[.int .i64 x.id, .int .i64 x.w, .int .i64 x.s] 203)).alloc (.cells #[.int .i64 z.id, .int .i64 z.w, .int .i64 z.s] 203)).drew (w.heap.size + 1) x) := by
  have := ((Box.new (w.alloc (.cells #[.int .i64 0, .int .i64 0, .int .i64 0] 203)) x).later (below_al _ (.cells #[.int .i64 z.id, .int .i64 z.w, .int .i64 z.s] 203))).later (Below.refl _ _).drew
  rwa [World.size_alloc] at this
 have X2 : Hid (Box (((w.alloc (.cells #[.int .i64 0, .int .i64 0, .int .i64 0] 203)).alloc (.cells #[.int .i64 x.id, .int .i64 x.w, .int .i64 x.s] 203)).alloc (.cells #[.int .i64 z.id, .int .i64 z.w, .int .i64 z.s] 203)).drew (w.heap.size + 1 + 1) z) := by
  have := (Box.new ((w.alloc (.cells #[.int .i64 0, .int .i64 0, .int .i64 0] 203)).alloc (.cells #[.int .i64 x.id, .int .i64 x.w, .int .i64 x.s] 203)) z).later (Below.refl _ _).drew
  rwa [World.size_alloc, World.size_alloc] at this
 have C2 := Lib.hid (Chg.of_below (o := o) (b := b) (some g') hb2)
 generalize (((w.alloc (.cells #[.int .i64 0, .int .i64 0, .int .i64 0] 203)).alloc (.cells #[.int .i64 x.id, .int .i64 x.w, .int .i64 x.s] 203)).alloc (.cells #[.int .i64 z.id, .int .i64 z.w, .int .i64 z.s] 203)).drew = w2 at *
 clear hb2 y0 y1 y2 d0 d1 d2 c0 c1 f0
 have c0 := HA2.out.c0
 rw [HL.out] at c0
 have c1 := HA2.out.c1
 have f0 := HA2.out.fo 0
 go_upto_region 7 with (fail)
 have HS : Hid (HB B (w2.setCell ⟨o, 0, none⟩ (.slice (some ⟨g', 0, none⟩) k c)) o b (some ⟨g', 0, none⟩) c n (m.take k) (ids m) f ∧ Chg o b (some g') (some g') w2 (w2.setCell ⟨o, 0, none⟩ (.slice (some ⟨g', 0, none⟩) k c))) := HA2.out.short (by have := HL.out; omega)
 have nb := HA.out.tm.lt
 have N0 : Hid (o ≠ w.heap.size ∧ b ≠ w.heap.size ∧ some g' ≠ some w.heap.size) := ⟨by omega, by omega, by simp; omega⟩
 have N1 : Hid (o ≠ w.heap.size + 1 ∧ b ≠ w.heap.size + 1 ∧ some g' ≠ some (w.heap.size + 1)) := ⟨by omega, by omega, by simp; omega⟩
 have N2 : Hid (o ≠ w.heap.size + 1 + 1 ∧ b ≠ w.heap.size + 1 + 1 ∧ some g' ≠ some (w.heap.size + 1 + 1)) := ⟨by omega, by omega, by simp; omega⟩
 have Y0 := Lib.hid (X0.out.chg HS.out.2 N0.out)
 have Y1 := Lib.hid (X1.out.chg HS.out.2 N1.out)
 have Y2 := Lib.hid (X2.out.chg HS.out.2 N2.out)
 have C3 := Lib.hid (C2.out.trans HS.out.2)
 generalize w2.setCell ⟨o, 0, none⟩ (.slice (some ⟨g', 0, none⟩) k c) = w3 at *
 have c1' := HS.out.1.c1
 clear X0 X1 X2 C2 c0 c1 f0
 go_upto_region 8 with (at_delete; go_loud (refine wp_delete rfl (.tmp 52) (.tmp 53) rfl HS.out.1.tm HI.out.2.2 hk (ids_at HI.out.1) rfl rfl ?_; intro w4 ht tm; have HM4 := Lib.hid (HS.out.1.mapped ht tm); clear ht tm))
 have Z0 := Lib.hid (Y0.out.chg HM4.out.2 N0.out)
 have Z1 := Lib.hid (Y1.out.chg HM4.out.2 N1.out)
 have Z2 := Lib.hid (Y2.out.chg HM4.out.2 N2.out)
 have C4 := Lib.hid (C3.out.trans HM4.out.2)
 clear Y0 Y1 Y2 C3 HS HA2 c1'
 by_cases hik : i < k
 · have hi2 : (i : Int) < (k : Int) := by omega
   have HT := Lib.hid (settle_any i z w4 (left_way HL.out HM4.out.1 hik HI.out.1 HI.out.2.1 HI.out.2.2 HQ.out.1 HQ.out.2.1) (HA.out.wf z (at_mem HI.out.2.1)) (by have := HL.out; simp; omega))
   obtain ⟨zs, z0, z1, z2⟩ := Z2.out
   go_wp2_with fail
   refine HT.out.mono ?_
   rintro e w5 hR
   have Hc : Hid (Chg o b (some g') (some g') w4 w5) := by obtain ⟨_, _, _, _, _, _, _, h6⟩ := hR; exact h6
   obtain rfl := hR.1
   have HR : Hid (ChS B o b (some g') n (del x.id S) (.tuple #[]) w (.returned (.tuple #[])) w5) := hR.chs (((left_perm HL.out HI.out.1 HI.out.2.1 HI.out.2.2).1 hik).trans (del_perm HQ.out.2.2)) C4.out rfl
   have V0 := Lib.hid (Z0.out.chg Hc.out N0.out)
   have V1 := Lib.hid (Z1.out.chg Hc.out N1.out)
   clear Z0 Z1 Z2 C4 HT HM4 hR z0 z1 z2 zs
   obtain ⟨v0, v1, v2, v3, v4, v5⟩ := V0.out.cells
   obtain ⟨s1, x0, x1, x2⟩ := V1.out
   have HF : Hid (ChS B o b (some g') n (del x.id S) (.tuple #[vI x, .bool true]) w (.returned (.tuple #[vI x, .bool true])) (((w5.setCell ⟨w.heap.size, 0, none⟩ (.int .i64 x.id)).setCell ⟨w.heap.size, 1, none⟩ (.int .i64 x.w)).setCell ⟨w.heap.size, 2, none⟩ (.int .i64 x.s))) := end_set HR.out N0.out
   have HV := Lib.hid (V0.out.set3 x)
   clear HR V0 V1 Hc
   go_wp2_with fail
   refine bodyPost_ret (v := .tuple #[vI x, .bool true]) ?_ rfl HF.out
   rw [results_cell_tmp rfl]
   go_simp
 · obtain rfl : i = k := by omega
   have hi2 : ¬ (i : Int) < (i : Int) := by omega
   have HR : Hid (ChS B o b (some g') n (del x.id S) (.tuple #[]) w (.returned (.tuple #[])) w4) := ⟨rfl, left_last HL.out HM4.out.1 rfl HQ.out.1 HQ.out.2.1 ((left_perm HL.out HI.out.1 HI.out.2.1 HI.out.2.2).2 rfl) HQ.out.2.2, C4.out⟩
   obtain ⟨v0, v1, v2, v3, v4, v5⟩ := Z0.out.cells
   obtain ⟨s1, x0, x1, x2⟩ := Z1.out
   have HF : Hid (ChS B o b (some g') n (del x.id S) (.tuple #[vI x, .bool true]) w (.returned (.tuple #[vI x, .bool true])) (((w4.setCell ⟨w.heap.size, 0, none⟩ (.int .i64 x.id)).setCell ⟨w.heap.size, 1, none⟩ (.int .i64 x.w)).setCell ⟨w.heap.size, 2, none⟩ (.int .i64 x.s))) := end_set HR.out N0.out
   clear HR Z0 Z1 Z2 HM4 C4
   go_wp2_with fail
   refine bodyPost_ret (v := .tuple #[vI x, .bool true]) ?_ rfl HF.out
   rw [results_cell_tmp rfl]
   go_simp
end
end Go.Proofs.YtdpapnfjpefhkaaGreat
namespace Go.Proofs.YtdpapnfjpefhkaaGreat
open Go.RowKit
set_option linter.unusedVariables false
set_option maxRecDepth 100000
def Pm (w : World) (b n : Nat) (g : Int → Int) : Prop :=
 ∃ D : DataW Unit, w.ownsMap Tryz.prog 3 (plainElem Tryz.prog 3) b (Maps.size D) D ∧ Maps.size D ≤ n ∧ ∀ x, D.atKey (kL x) (dL 0) = dL (g x)
section
variable {w w' : World} {b n m : Nat} {g : Int → Int} {x v : Int}
theorem Pm.lt (h : Pm w b n g) : b < w.heap.size := by obtain ⟨D, h, _⟩ := h; exact h.lt
theorem Pm.blk (h : Pm w b n g) : ∃ es clock, w.heap[b]? = some (.map es clock) := by obtain ⟨D, ⟨es, clock, h, _⟩, _⟩ := h; exact ⟨es, clock, h⟩
theorem Pm.keep (h : Pm w b n g) (e : w'.heap[b]? = w.heap[b]?) : Pm w' b n g := by
 obtain ⟨D, ⟨es, clock, h1, h2⟩, h3⟩ := h
 exact ⟨D, ⟨es, clock, by rw [e]; exact h1, h2⟩, h3⟩
theorem Pm.up (h : Pm w b n g) (k : n ≤ m) : Pm w b m g := by
 obtain ⟨D, h1, h2, h3⟩ := h
 exact ⟨D, h1, Nat.le_trans h2 k, h3⟩
theorem Pm.new (w : World) : Pm (w.alloc (.map #[] 0)) w.heap.size 0 (fun _ => 0) :=
 ⟨.map [], World.ownsMap_made w Tryz.prog 3 (plainElem Tryz.prog 3), Nat.le_refl _, fun x => Maps.atKey_of_not_has rfl _⟩
theorem Pm.get (h : Pm w b n g) (hx : Wf x) : (Instr.lookup 142 (.map (some b)) (.int .i64 x) false).run Tryz.prog w = .ok (.int .i64 (g x)) w := by
 obtain ⟨D, h1, h2, h3⟩ := h
 obtain ⟨c, hrun, hat, _⟩ := h1.lookup_int law Tryz.underlying142 Tryz.underlying3 (zeroI w) (keyI hx)
 rw [h3 x] at hat
 rw [dL_inj hat]; exact hrun
theorem Pm.store (h : Pm w b n g) (hx : Wf x) (hv : Wf v) (hn : n < maxLen) :
  ∃ w', (Instr.mapUpdate 142 (.map (some b)) (.int .i64 x) (.int .i64 v)).run Tryz.prog w = .ok () w' ∧ Trn w w' b ∧ Pm w' b (n + 1) (fput g x v) := by
 obtain ⟨D, h1, h2, h3⟩ := h
 obtain ⟨w', hrun, ho, ht⟩ := h1.store law Tryz.underlying142 (Nat.lt_of_le_of_lt h2 hn) (keyI hx) (elI hv)
 refine ⟨w', hrun, turned_block ht, D.put (kL x) (dL v), own_exact ho, ?_, fun y => ?_⟩
 · rw [Maps.size_put (h1.tidy law)]
   split <;> omega
 · by_cases e : y = x
   · subst e
     rw [Maps.atKey_put_same h1.isMap (kL_key _), fput_at]
   · rw [Maps.atKey_put_other (kL_ne e), fput_ne e, h3]
theorem Pm.drop (h : Pm w b n g) (hx : Wf x) (ty : TypeId) :
  ∃ w', (Builtin.delete_ #[142, 3] ty #[.map (some b), .int .i64 x]).run Tryz.prog w = .ok (.tuple #[]) w' ∧ Trn w w' b ∧ Pm w' b n (fput g x 0) := by
 obtain ⟨D, h1, h2, h3⟩ := h
 obtain ⟨w', hrun, ho, ht⟩ := h1.drop law Tryz.underlying142 (keyI hx) ty
 have hs := Maps.size_del (k := kL x) (h1.tidy law)
 refine ⟨w', hrun, turned_block ht, D.del (kL x), own_exact ho, ?_, fun y => ?_⟩
 · split at hs <;> omega
 · by_cases e : y = x
   · subst e
     rw [Maps.atKey_del_same, fput_at]
   · rw [Maps.atKey_del_other (kL_ne e), fput_ne e, h3]
end
section
variable {ops : Array Oper} {rest : List Oper} {op : Oper} {a : Act} {Q : Exit → Act → World → Prop} {x v : Int} {w : World} {b n : Nat} {g : Int → Int}
theorem wp_pdrop (hg : op.guard = none) (u y : Operand) (hop : op.op = Op.call { callee := Callee.builtin Builtin.delete, args := #[u, y], argTypes := #[142, 3] })
  (h : Pm w b n g) (hx : Wf x) (hm : a.eval u = .map (some b)) (hy : a.eval y = .int .i64 x)
  (hK : ∀ w', Trn w w' b → Pm w' b n (fput g x 0) → wpList Tryz.prog ops Q rest (a.put op.dst (.tuple #[])) w') : wpList Tryz.prog ops Q (op :: rest) a w := by
 refine wpList_plain hg fun K' hK' => ?_
 obtain ⟨w', hrun, r1, r2⟩ := h.drop hx op.type
 unfold Oper.wp
 simp [execOp, hop, resolve, invoke, builtin, hm, hy, hrun, Result.andThen]
 exact hK' _ _ (hK w' r1 r2)
theorem wp_pstore (hg : op.guard = none) (m y z : Operand) (hop : op.op = Op.mapUpdate 142 m y z)
  (h : Pm w b n g) (hx : Wf x) (hv : Wf v) (hn : n < maxLen) (hm : a.eval m = .map (some b)) (hy : a.eval y = .int .i64 x) (hz : a.eval z = .int .i64 v)
  (hK : ∀ w', Trn w w' b → Pm w' b (n + 1) (fput g x v) → wpList Tryz.prog ops Q rest (a.put op.dst undef) w') : wpList Tryz.prog ops Q (op :: rest) a w := by
 refine wpList_plain hg fun K' hK' => ?_
 obtain ⟨w', hrun, r1, r2⟩ := h.store hx hv hn
 unfold Oper.wp
 simp [execOp, hop, hm, hy, hz, hrun, Result.andThen]
 exact hK' _ _ (hK w' r1 r2)
end
structure TT (B t : Nat) (vA vL : Value) (o b c : Nat) (p : Option Nat) (n N : Nat) (S : List It) (g : Int → Int) (w : World) : Prop where
 hg : HG B w o b p n S
 ht : w.heap[t]? = some (.cells #[vA, .pointer (some ⟨o, 0, none⟩), .map (some c), vL] 146 (0, 0))
 pm : Pm w c N g
 ok : Ok n S
 gt : B ≤ t
 gc : B ≤ c
 ne : c ≠ b
structure TC (o b c : Nat) (p p' : Option Nat) (w w' : World) : Prop where
 os : w'.os = w.os
 tape : w'.tape = w.tape
 output : w'.output = w.output
 size : w.heap.size ≤ w'.heap.size
 block : ∀ k, k < w.heap.size → k ≠ o → k ≠ b → k ≠ c → p ≠ some k → w'.heap[k]? = w.heap[k]?
 new : p' = p ∨ ∀ k, p' = some k → w.heap.size ≤ k
theorem TC.trans {o b c : Nat} {p p' p'' : Option Nat} {u v w : World} (h : TC o b c p p' u v) (k : TC o b c p' p'' v w) : TC o b c p p'' u w := by
 have h0 := h.size
 refine ⟨k.os.trans h.os, k.tape.trans h.tape, k.output.trans h.output, Nat.le_trans h.size k.size, fun i h1 h2 h3 h5 h4 => (k.block i (by omega) h2 h3 h5 (fun e => ?_)).trans (h.block i h1 h2 h3 h5 h4), ?_⟩
 · rcases h.new with h5 | h5
   · exact h4 (h5.symm.trans e)
   · have := h5 i e; omega
 · rcases k.new with h6 | h6
   · subst h6; exact h.new
   · exact .inr fun i hi => by have := h6 i hi; omega
theorem TC.of_below {o b c : Nat} (p : Option Nat) {w w' : World} (h : Below w.heap.size w w') : TC o b c p p w w' := ⟨h.os, h.tape, h.output, h.size, fun k hk _ _ _ _ => h.block k hk, .inl rfl⟩
theorem TC.of_chg {o b : Nat} (c : Nat) {p p' : Option Nat} {w w' : World} (h : Chg o b p p' w w') : TC o b c p p' w w' := ⟨h.os, h.tape, h.output, h.size, fun k hk h1 h2 _ h3 => h.block k hk h1 h2 h3, h.new⟩
theorem TC.of_trn {o b c : Nat} (p : Option Nat) {w w' : World} (h : Trn w w' c) : TC o b c p p w w' := by
 obtain ⟨h1, h2, h3, h4, h5⟩ := h
 exact ⟨h1, h2, h3, by omega, fun k _ _ _ h6 _ => h5 k h6, .inl rfl⟩
def OX (w w' : World) : Prop := ∀ (k : Nat) (cs : Array Value) (t : TypeId) (fr : Nat × Nat), w.heap[k]? = some (.cells cs t fr) → t ≠ 228 → t ≠ 203 → w'.heap[k]? = some (.cells cs t fr)
theorem OX.refl (w : World) : OX w w := fun _ _ _ _ h _ _ => h
theorem OX.trans {u v w : World} (h : OX u v) (k : OX v w) : OX u w := fun i cs t fr h1 h2 h3 => k i cs t fr (h i cs t fr h1 h2 h3) h2 h3
theorem OX.of_below {w w' : World} (h : Below w.heap.size w w') : OX w w' := fun k cs t fr h1 _ _ => (h.block k (lt_of_blk h1)).trans h1
theorem OX.row {w w' : World} {B e s n c : Nat} {P : Option Addr} {xs : List Value} (h : OX w w') (r : w.ownsRow B e s (.slice P n c) n xs) (h1 : e ≠ 228) (h2 : e ≠ 203) : w'.ownsRow B e s (.slice P n c) n xs :=
 row_keep r fun k hk => by
  obtain ⟨cs, fr, ht⟩ := row_tag r hk
  rw [ht]; exact h k cs e fr ht h1 h2
def XC (B t : Nat) (vA vL : Value) (o b c : Nat) (p : Option Nat) (n N : Nat) (S : List It) (g : Int → Int) (v : Value) (w : World) (e : Ending) (w' : World) : Prop :=
 e = .returned v ∧ ∃ p', TT B t vA vL o b c p' n N S g w' ∧ TC o b c p p' w w'
def TN (B t : Nat) (vA vL : Value) (o b c n : Nat) (S : List It) (g : Int → Int) (w : World) : Prop := ∃ p N, N ≤ n ∧ TT B t vA vL o b c p n N S g w
def XR (B t : Nat) (vA vL : Value) (o b c n : Nat) (S : List It) (g : Int → Int) (v : Value) (w : World) (e : Ending) (w' : World) : Prop :=
 e = .returned v ∧ TN B t vA vL o b c n S g w' ∧ Below B w w' ∧ OX w w'
section
variable {B t o b c n n' N N' : Nat} {vA vL : Value} {p p' : Option Nat} {S S' : List It} {g g' : Int → Int} {w w' : World} {e : Ending} {v : Value}
theorem TT.c0 (h : TT B t vA vL o b c p n N S g w) : w.cell? ⟨t, 1, none⟩ = some (.pointer (some ⟨o, 0, none⟩)) := by rw [cell_of_row w t 1 _ _ _ h.ht]; rfl
theorem TT.c1 (h : TT B t vA vL o b c p n N S g w) : w.cell? ⟨t, 2, none⟩ = some (.map (some c)) := by rw [cell_of_row w t 2 _ _ _ h.ht]; rfl
theorem TT.lt (h : TT B t vA vL o b c p n N S g w) : t < w.heap.size := lt_of_blk h.ht
theorem TT.hB (h : TT B t vA vL o b c p n N S g w) : B ≤ w.heap.size := by have := h.lt; have := h.gt; omega
theorem TT.later (h : TT B t vA vL o b c p n N S g w) (hb : Below w.heap.size w w') : TT B t vA vL o b c p n N S g w' :=
 ⟨h.hg.later hb, (hb.block _ h.lt).trans h.ht, h.pm.keep (hb.block _ h.pm.lt), h.ok, h.gt, h.gc, h.ne⟩
theorem TT.apart (h : TT B t vA vL o b c p n N S g w) : (t ≠ o ∧ t ≠ b ∧ p ≠ some t) ∧ c ≠ o ∧ p ≠ some c ∧ t ≠ c := by
 obtain ⟨es, cl, hc⟩ := h.pm.blk
 refine ⟨⟨?_, ?_, ?_⟩, ?_, ?_, ?_⟩
 · rintro rfl
   obtain ⟨cs', fr', h4⟩ := h.hg.to
   have h5 := h.ht
   rw [h4] at h5; injection h5 with h5; injection h5 with _ h5 _; cases h5
 · rintro rfl
   obtain ⟨es, cl, h4⟩ := h.hg.tb
   have h5 := h.ht
   rw [h4] at h5; cases h5
 · intro hk
   obtain ⟨cs', fr', h4⟩ := h.hg.tp hk
   have h5 := h.ht
   rw [h4] at h5; injection h5 with h5; injection h5 with _ h5 _; cases h5
 · rintro rfl
   obtain ⟨cs', fr', h4⟩ := h.hg.to
   rw [h4] at hc; cases hc
 · intro hk
   obtain ⟨cs', fr', h4⟩ := h.hg.tp hk
   rw [h4] at hc; cases hc
 · rintro rfl
   have h5 := h.ht
   rw [hc] at h5; cases h5
theorem TT.go (h : TT B t vA vL o b c p n N S g w) (ok : Ok n' S') (cr : ChR B o b p n' S' v w e w') : XC B t vA vL o b c p n' N S' g v w e w' := by
 obtain ⟨h1, p', h2, h3⟩ := cr
 obtain ⟨⟨a1, a2, a3⟩, a4, a5, _⟩ := h.apart
 exact ⟨h1, p', ⟨h2, (h3.block t h.lt a1 a2 a3).trans h.ht, h.pm.keep (h3.block c h.pm.lt a4 h.ne a5), ok, h.gt, h.gc, h.ne⟩, TC.of_chg c h3⟩
theorem TT.mapped (h : TT B t vA vL o b c p n N S g w) (ht : Trn w w' c) (pm : Pm w' c N' g') : TT B t vA vL o b c p n N' S g' w' ∧ TC o b c p p w w' := by
 obtain ⟨⟨a1, a2, a3⟩, a4, a5, a6⟩ := h.apart
 have k := ht.2.2.2.2
 exact ⟨⟨h.hg.keep (k o a4.symm) (k b h.ne.symm) (fun j hj => k j fun e => a5 (by rw [← e]; exact hj)), (k t a6).trans h.ht, pm, h.ok, h.gt, h.gc, h.ne⟩, TC.of_trn p ht⟩
theorem TT.low (h : TT B t vA vL o b c p n N S g w) (hc : TC o b c p p' w w') : Below B w w' := by
 have hB := h.hB
 have hgc := h.gc
 obtain ⟨P, cc, m, f, e0, h1, _⟩ := h.hg
 have := h1.go
 have := h1.gb
 refine ⟨hc.os, hc.tape, hc.output, hc.size, fun k hk => hc.block k (by omega) (by omega) (by omega) (by omega) fun e => ?_⟩
 have := (row_lt h1.own (e0.trans e)).1
 omega
theorem TT.ox (h : TT B t vA vL o b c p n N S g w) (hc : TC o b c p p' w w') : OX w w' := fun k cs ty fr h1 h2 h3 => by
 rw [hc.block k (lt_of_blk h1) ?_ ?_ ?_ ?_]; exact h1
 · rintro rfl
   obtain ⟨cs', fr', h4⟩ := h.hg.to
   rw [h4] at h1; injection h1 with h1; injection h1 with _ h1 _; exact h2 h1.symm
 · rintro rfl
   obtain ⟨es, cl, h4⟩ := h.hg.tb
   rw [h4] at h1; cases h1
 · rintro rfl
   obtain ⟨es, cl, h4⟩ := h.pm.blk
   rw [h4] at h1; cases h1
 · intro hk
   obtain ⟨cs', fr', h4⟩ := h.hg.tp hk
   rw [h4] at h1; injection h1 with h1; injection h1 with _ h1 _; exact h3 h1.symm
theorem TT.xr (h : TT B t vA vL o b c p n N S g w) (hN : N' ≤ n') (x : XC B t vA vL o b c p n' N' S' g' v w e w') : XR B t vA vL o b c n' S' g' v w e w' := by
 obtain ⟨h1, p', h2, h3⟩ := x
 exact ⟨h1, ⟨p', N', hN, h2⟩, h.low h3, h.ox h3⟩
theorem TN.later (h : TN B t vA vL o b c n S g w) (hb : Below w.heap.size w w') : TN B t vA vL o b c n S g w' := by
 obtain ⟨p, N, hN, h⟩ := h
 exact ⟨p, N, hN, h.later hb⟩
theorem TN.hB (h : TN B t vA vL o b c n S g w) : B ≤ w.heap.size := by obtain ⟨p, N, hN, h⟩ := h; exact h.hB
theorem TN.ok (h : TN B t vA vL o b c n S g w) : Ok n S := by obtain ⟨p, N, hN, h⟩ := h; exact h.ok
theorem TN.same (h : TN B t vA vL o b c n S g w) (hr : e = .returned v ∧ Below w.heap.size w w') : XR B t vA vL o b c n S g v w e w' :=
 ⟨hr.1, h.later hr.2, hr.2.mono h.hB, OX.of_below hr.2⟩
theorem TT.cell (h : TT B t vA vL o b c p n N S g w) {s ty j : Nat} {cs : Array Value} {fr : Nat × Nat} (ht : w.heap[s]? = some (.cells cs ty fr)) (h1 : ty ≠ 228) (h2 : ty ≠ 203) (h3 : ty ≠ 146) (v : Value) : TT B t vA vL o b c p n N S g (w.setCell ⟨s, j, none⟩ v) := by
 have key : ∀ k, k ≠ s → (w.setCell ⟨s, j, none⟩ v).heap[k]? = w.heap[k]? := fun k hk => Below.heap_setCell _ _ _ _ (by exact hk)
 refine ⟨h.hg.keep (key o ?_) (key b ?_) (fun k hk => key k ?_), (key t ?_).trans h.ht, h.pm.keep (key c ?_), h.ok, h.gt, h.gc, h.ne⟩
 · rintro rfl
   obtain ⟨cs', fr', h4⟩ := h.hg.to
   rw [ht] at h4; injection h4 with h4; injection h4 with _ h4 _; exact h1 h4
 · rintro rfl
   obtain ⟨es, cl, h4⟩ := h.hg.tb
   rw [ht] at h4; cases h4
 · rintro rfl
   obtain ⟨cs', fr', h4⟩ := h.hg.tp hk
   rw [ht] at h4; injection h4 with h4; injection h4 with _ h4 _; exact h2 h4
 · rintro rfl
   have h4 := h.ht
   rw [ht] at h4; injection h4 with h4; injection h4 with _ h4 _; exact h3 h4
 · rintro rfl
   obtain ⟨es, cl, h4⟩ := h.pm.blk
   rw [ht] at h4; cases h4
theorem TN.cell (h : TN B t vA vL o b c n S g w) {s ty j : Nat} {cs : Array Value} {fr : Nat × Nat} (ht : w.heap[s]? = some (.cells cs ty fr)) (h1 : ty ≠ 228) (h2 : ty ≠ 203) (h3 : ty ≠ 146) (v : Value) : TN B t vA vL o b c n S g (w.setCell ⟨s, j, none⟩ v) := by
 obtain ⟨p, N, hN, h⟩ := h
 exact ⟨p, N, hN, h.cell ht h1 h2 h3 v⟩
end
end Go.Proofs.YtdpapnfjpefhkaaGreat
namespace Go.Proofs.YtdpapnfjpefhkaaGreat
open Go.RowKit
set_option linter.unusedVariables false
set_option maxRecDepth 100000
def nwH (w : World) : World := (w.alloc (.map #[] 0)).alloc (.cells #[.slice none 0 0, .map (some w.heap.size), .int .i64 0] 228)
theorem nwH_size (w : World) : (nwH w).heap.size = w.heap.size + 2 := by simp [nwH]
theorem new_ex (w : World) : Calls Tryz.prog 139 #[] w fun e w' => e = .returned (.pointer (some ⟨w.heap.size + 1, 0, none⟩)) ∧ nwH w = w' := by
 have hmm := @run_makeMap Tryz.prog
 go_enter Tryz.func139, Tryz.ntmps139
 go_wp2
 go_ret
 exact ⟨rfl, rfl⟩
theorem fits_yes (x : Int) (w : World) (h0 : 0 ≤ x) (h1 : x ≤ 4611686018427387904) : Calls Tryz.prog 129 #[.int .i64 x] w fun e w' => e = .returned (.bool true) ∧ w = w' := by
 go_enter Tryz.func129, Tryz.ntmps129
 go_wp2
 go_ret
 exact ⟨rfl, rfl⟩
def Fit (x : Int) : Prop := 0 ≤ x ∧ x ≤ 4611686018427387904
instance (x : Int) : Decidable (Fit x) := inferInstanceAs (Decidable (0 ≤ x ∧ x ≤ 4611686018427387904))
theorem wf_fit {x : Int} (h : Fit x) : Wf x := wf_of (by unfold Fit at h; omega) (by unfold Fit at h; omega)
section
variable {B t o b c n n' N N' : Nat} {vA vL : Value} {p p' : Option Nat} {S S' : List It} {g g' : Int → Int} {w w' : World} {e : Ending} {v : Value}
theorem TT.more (h : TT B t vA vL o b c p n N S g w) : TT B t vA vL o b c p n (N + 1) S g w := ⟨h.hg, h.ht, h.pm.up (by omega), h.ok, h.gt, h.gc, h.ne⟩
theorem fput_two (g : Int → Int) (k x y : Int) : fput (fput g k x) k y = fput g k y := by
 funext z; unfold fput; split <;> rfl
set_option maxHeartbeats 4000000 in
theorem arm_any (k x y : Int) (h : TT B t vA vL o b c p n N S g w) (hk : Wf k) (hx : Fit x) (hy : Fit y) (hn : n ≤ 1000000) (hN : N ≤ 1000000) (hl : S.length < 1000) :
  Calls Tryz.prog 117 #[.pointer (some ⟨t, 1, none⟩), .int .i64 k, .int .i64 x, .int .i64 y] w (XC B t vA vL o b c p (n + 1) (N + 1) (ins ⟨k, x, (n : Int) + 1⟩ (del k S)) (fput g k y) (.int .i64 0) w) := by
 have F1 := fun w => fits_yes x w hx.1 hx.2
 have F2 := fun w => fits_yes y w hy.1 hy.2
 have HA := Lib.hid h
 have HX := Lib.hid (And.intro hx hy)
 have hwy := wf_fit hy
 have c0 := h.c0
 have c1 := h.c1
 have hml : N < maxLen := by unfold maxLen; omega
 have hy0 := hy.1
 clear h hx hy
 by_cases hm : k ∈ ids S
 · go_enter Tryz.func117, Tryz.ntmps117
   go_wp2_with (go_at_call 129; first | ((with_reducible refine (F1 _).mono ?_); rintro e w' ⟨rfl, rfl⟩) | ((with_reducible refine (F2 _).mono ?_); rintro e w' ⟨rfl, rfl⟩))
   refine (move_yes k x HA.out.hg HA.out.ok hk hm hn (by omega)).mono ?_
   rintro e w1 hr
   have hr := HA.out.go ((HA.out.ok.del k).ins k x del_ids) hr
   have HT := Lib.hid hr.2
   obtain rfl := hr.1
   clear hr HA c0 c1
   obtain ⟨p1, h1, h2⟩ := HT.out
   have c1 := h1.c1
   have H1 := Lib.hid h1
   have H2 := Lib.hid h2
   clear h1 h2 HT
   by_cases hp : 0 < y
   · go_wp2_with (first
      | (at_delete; go_loud (refine wp_pdrop rfl (.tmp 49) (.tmp 50) rfl H1.out.pm hk rfl rfl ?_; intro w2 ht pm; have H3 := Lib.hid (H1.out.mapped ht pm); have c12 := H3.out.1.c1; clear ht pm))
      | (at_mapUpdate; go_loud (refine wp_pstore rfl (.tmp 56) (.tmp 57) (.tmp 58) rfl H3.out.1.pm hk hwy hml rfl rfl rfl ?_; intro w3 ht pm; have H4 := Lib.hid (H3.out.1.mapped ht pm); clear ht pm)))
     go_ret
     refine ⟨rfl, p1, ?_, H2.out.trans (H3.out.2.trans H4.out.2)⟩
     have := H4.out.1
     rwa [fput_two] at this
   · obtain rfl : y = 0 := by omega
     go_wp2_with (first
      | (at_delete; go_loud (refine wp_pdrop rfl (.tmp 49) (.tmp 50) rfl H1.out.pm hk rfl rfl ?_; intro w2 ht pm; have H3 := Lib.hid (H1.out.mapped ht pm); have c12 := H3.out.1.c1; clear ht pm)))
     go_ret
     exact ⟨rfl, p1, H3.out.1.more, H2.out.trans H3.out.2⟩
 · have hdn : del k S = S := del_none hm
   rw [hdn]
   go_enter Tryz.func117, Tryz.ntmps117
   go_wp2_with (go_at_call 129; first | ((with_reducible refine (F1 _).mono ?_); rintro e w' ⟨rfl, rfl⟩) | ((with_reducible refine (F2 _).mono ?_); rintro e w' ⟨rfl, rfl⟩))
   refine (move_no k x HA.out.hg hk hm).mono ?_
   rintro e w1 ⟨rfl, rfl⟩
   go_wp2_with fail
   refine (add_new k x HA.out.hg HA.out.ok hk hm hn hl HA.out.hB).mono ?_
   rintro e w1 hr
   have hr := HA.out.go (HA.out.ok.ins k x hm) hr
   have HT := Lib.hid hr.2
   obtain rfl := hr.1
   clear hr HA c0 c1
   obtain ⟨p1, h1, h2⟩ := HT.out
   have c1 := h1.c1
   have H1 := Lib.hid h1
   have H2 := Lib.hid h2
   clear h1 h2 HT
   by_cases hp : 0 < y
   · go_wp2_with (first
      | (at_delete; go_loud (refine wp_pdrop rfl (.tmp 49) (.tmp 50) rfl H1.out.pm hk rfl rfl ?_; intro w2 ht pm; have H3 := Lib.hid (H1.out.mapped ht pm); have c12 := H3.out.1.c1; clear ht pm))
      | (at_mapUpdate; go_loud (refine wp_pstore rfl (.tmp 56) (.tmp 57) (.tmp 58) rfl H3.out.1.pm hk hwy hml rfl rfl rfl ?_; intro w3 ht pm; have H4 := Lib.hid (H3.out.1.mapped ht pm); clear ht pm)))
     go_ret
     refine ⟨rfl, p1, ?_, H2.out.trans (H3.out.2.trans H4.out.2)⟩
     have := H4.out.1
     rwa [fput_two] at this
   · obtain rfl : y = 0 := by omega
     go_wp2_with (first
      | (at_delete; go_loud (refine wp_pdrop rfl (.tmp 49) (.tmp 50) rfl H1.out.pm hk rfl rfl ?_; intro w2 ht pm; have H3 := Lib.hid (H1.out.mapped ht pm); have c12 := H3.out.1.c1; clear ht pm)))
     go_ret
     exact ⟨rfl, p1, H3.out.1.more, H2.out.trans H3.out.2⟩
end
end Go.Proofs.YtdpapnfjpefhkaaGreat
namespace Go.Proofs.YtdpapnfjpefhkaaGreat
open Go.RowKit
set_option linter.unusedVariables false
set_option maxRecDepth 100000
theorem HG.wf {B o b n : Nat} {p : Option Nat} {S : List It} {w : World} (h : HG B w o b p n S) {x : It} (hx : x ∈ S) : Wf x.id := by
 obtain ⟨P, c, m, f, e0, h1, h2, h3, h4⟩ := h
 exact h1.wf x (h4.mem_iff.2 hx)
section
variable {B t o b c n n' N N' : Nat} {vA vL : Value} {p p' : Option Nat} {S S' : List It} {g g' : Int → Int} {w w' : World} {e : Ending} {v : Value}
set_option maxHeartbeats 4000000 in
theorem stop_yes {x : It} (h : TT B t vA vL o b c p n N S g w) (hx : x ∈ S) (hl : S.length ≤ 1000) :
  Calls Tryz.prog 108 #[.pointer (some ⟨t, 1, none⟩), .int .i64 x.id] w (XC B t vA vL o b c p n N (del x.id S) (fput g x.id 0) (.bool true) w) := by
 have HA := Lib.hid h
 have hk := h.hg.wf hx
 have c0 := h.c0
 clear h
 go_enter Tryz.func108, Tryz.ntmps108
 go_wp2_with fail
 refine (remove_yes HA.out.hg HA.out.ok hx hl).mono ?_
 rintro e w1 hr
 have hr := HA.out.go (HA.out.ok.del x.id) hr.chr
 have HT := Lib.hid hr.2
 obtain rfl := hr.1
 clear hr HA c0
 obtain ⟨p1, h1, h2⟩ := HT.out
 have H1 := Lib.hid (h1.later (below_al w1 (.cells #[.int .i64 x.id, .int .i64 x.w, .int .i64 x.s] 203)))
 have H2 := Lib.hid (h2.trans (TC.of_below p1 (below_al w1 (.cells #[.int .i64 x.id, .int .i64 x.w, .int .i64 x.s] 203))))
 clear h1 h2 HT
 go_upto_region 4 with (fail)
 have c1 := H1.out.c1
 generalize w1.alloc (.cells #[.int .i64 x.id, .int .i64 x.w, .int .i64 x.s] 203) = w2 at *
 go_wp2_with (at_delete; go_loud (refine wp_pdrop rfl (.tmp 21) (.tmp 22) rfl H1.out.pm hk rfl rfl ?_; intro w3 ht pm; have H3 := Lib.hid (H1.out.mapped ht pm); clear ht pm))
 go_ret
 exact ⟨rfl, p1, H3.out.1, H2.out.trans H3.out.2⟩
set_option maxHeartbeats 4000000 in
theorem stop_no {k : Int} (h : TT B t vA vL o b c p n N S g w) (hk : Wf k) (hm : k ∉ ids S) :
  Calls Tryz.prog 108 #[.pointer (some ⟨t, 1, none⟩), .int .i64 k] w (XC B t vA vL o b c p n N S (fput g k 0) (.bool false) w) := by
 have HA := Lib.hid h
 have c0 := h.c0
 clear h
 go_enter Tryz.func108, Tryz.ntmps108
 go_wp2_with fail
 refine (remove_no HA.out.hg hk hm).mono ?_
 rintro e w1 ⟨rfl, hb⟩
 have HB2 : Hid (Below w.heap.size w (w1.alloc (.cells #[.int .i64 zI.id, .int .i64 zI.w, .int .i64 zI.s] 203))) := hb.trans ((below_al w1 _).mono hb.size)
 clear hb
 go_upto_region 4 with (fail)
 generalize w1.alloc (.cells #[.int .i64 zI.id, .int .i64 zI.w, .int .i64 zI.s] 203) = w2 at *
 have H1 := Lib.hid (HA.out.later HB2.out)
 have H2 := Lib.hid (TC.of_below (o := o) (b := b) (c := c) p HB2.out)
 clear HA HB2 c0
 have c1 := H1.out.c1
 go_wp2_with (at_delete; go_loud (refine wp_pdrop rfl (.tmp 21) (.tmp 22) rfl H1.out.pm hk rfl rfl ?_; intro w3 ht pm; have H3 := Lib.hid (H1.out.mapped ht pm); clear ht pm))
 go_ret
 exact ⟨rfl, p, H3.out.1, H2.out.trans H3.out.2⟩
def InR (x : Int) (d : Bool) (w : World) (e : Ending) (w' : World) : Prop := e = .returned (.tuple #[.int .i64 x, .bool d]) ∧ Below w.heap.size w w'
theorem next_some {x : It} (h : TT B t vA vL o b c p n N (x :: S) g w) (hl : (x :: S).length ≤ 1000) : Calls Tryz.prog 54 #[.pointer (some ⟨t, 1, none⟩)] w (InR x.w true w) := by
 have HA := Lib.hid h
 have c0 := h.c0
 clear h
 go_enter Tryz.func54, Tryz.ntmps54
 go_wp2_with fail
 refine (gmin_some HA.out.hg HA.out.ok.srt hl).mono ?_
 rintro e w1 ⟨rfl, hb⟩
 have HB2 : Hid (Below w.heap.size w (w1.alloc (.cells #[.int .i64 x.id, .int .i64 x.w, .int .i64 x.s] 203))) := hb.trans ((below_al w1 _).mono hb.size)
 clear hb
 go_wp2_with fail
 go_ret2
 exact ⟨rfl, HB2.out⟩
theorem next_none (h : TT B t vA vL o b c p n N [] g w) : Calls Tryz.prog 54 #[.pointer (some ⟨t, 1, none⟩)] w (InR 0 false w) := by
 have HA := Lib.hid h
 have c0 := h.c0
 clear h
 go_enter Tryz.func54, Tryz.ntmps54
 go_wp2_with fail
 refine (gmin_none HA.out.hg).mono ?_
 rintro e w1 ⟨rfl, hb⟩
 have HB2 : Hid (Below w.heap.size w (w1.alloc (.cells #[.int .i64 zI.id, .int .i64 zI.w, .int .i64 zI.s] 203))) := hb.trans ((below_al w1 _).mono hb.size)
 clear hb
 go_wp2_with fail
 go_ret2
 exact ⟨rfl, HB2.out⟩
end
end Go.Proofs.YtdpapnfjpefhkaaGreat
namespace Go.Proofs.YtdpapnfjpefhkaaGreat
open Go.RowKit
set_option linter.unusedVariables false
set_option maxRecDepth 100000
theorem l1 {α : Type} {xs : List α} {i : Nat} (h : i < xs.toArray.size) : xs.toArray[i] = xs[i]'(by simpa using h) := rfl
theorem l2 {α : Type} (a : α) (r : List α) (i : Nat) (h : i + 1 < (a :: r).length) : (a :: r)[i + 1] = r[i]'(Nat.lt_of_succ_lt_succ h) := rfl
theorem l3 {α : Type} (a : α) (r : List α) (h : 0 < (a :: r).length) : (a :: r)[0] = a := rfl
theorem l4 {α : Type} (l : List α) (i : Nat) (a : α) : l.toArray.setIfInBounds i a = (l.set i a).toArray := by simp
theorem l5 {α : Type} (a b : α) (r : List α) : (a :: r).set 0 b = b :: r := rfl
theorem l6 {α : Type} (a b : α) (r : List α) (n : Nat) : (a :: r).set (n + 1) b = a :: r.set n b := rfl
theorem kpo {S : World → Prop} {n : Nat} {w0 w' : World} (KP : Hid (∀ w1, Below n w0 w1 → S w1)) (h : Below n w0 w' := by repeat' (first | exact Below.refl _ _ | (with_reducible assumption) | refine Below.drew ?_ | refine Below.alloc ?_ (by first | omega | (simp <;> omega)) _)) : S w' := KP.out _ h
section
variable {P : Program} {ops : Array Oper} {Q : Exit → Act → World → Prop} {md : Region.Mode} {S : World → Prop} {L : Nat}
def AnyBut (P : Program) (md : Region.Mode) (ops : Array Oper) (Q : Exit → Act → World → Prop) (S : World → Prop) (L : Nat) : Nat → Array Bool → Act → World → Prop
 | 0, listed, a, w => Region.ready md ops listed = [] ∧ Q .normal a w
 | f + 1, listed, a, w => (Region.ready md ops listed = [] → Q .normal a w) ∧ ∀ i ∈ Region.ready md ops listed, wpOp P ops Q i (fun a' w' => (i ≠ L → S w') ∧ AnyBut P md ops Q S L f (listed.setIfInBounds i true) a' w') a w
theorem AnyBut.any : ∀ (f : Nat) (listed : Array Bool) (a : Act) (w : World), AnyBut P md ops Q S L f listed a w → wpAny P md ops Q f listed a w
 | 0, _, _, _, h => h
 | f + 1, listed, a, w, h => ⟨h.1, fun i hi => wpOp_mono (fun a' w' q => AnyBut.any f _ a' w' q.2) (h.2 i hi)⟩
def waitB (md : Region.Mode) (ops : Array Oper) (L i : Nat) : Bool := match ops[L]? with
 | some o => o.after.any fun e => Region.binds md e && e.on == i
 | none => true
theorem wait_not {i : Nat} {listed : Array Bool} (h : waitB md ops L i = true) (hu : listed.getD i true = false) : L ∉ Region.ready md ops listed := by
 intro hr
 obtain ⟨_, o, ho, hall⟩ := mem_ready.1 hr
 unfold waitB at h
 rw [ho] at h
 have h2 : (o.after.any fun e => Region.binds md e && e.on == i) = true := h
 obtain ⟨e, he, hb⟩ := Array.any_eq_true'.1 h2
 simp only [Bool.and_eq_true, beq_iff_eq] at hb
 have h1 := hall e he hb.1
 rw [hb.2] at h1
 rcases Nat.lt_or_ge i listed.size with h' | h'
 · simp [h'] at h1 hu; rw [hu] at h1; cases h1
 · simp [Array.getElem?_eq_none h'] at h1
theorem took {i : Nat} {oi : Oper} {v : Value} (hi : ops[i]? = some oi) (hs : Region.noSelect ops = true) (hw : waitB md ops L i = true) (hQ : ∀ c a w, Q (.panic c) (a.put oi.dst v) w → Q (.panic c) a w) (f : Nat) :
  ∀ (listed : Array Bool) (a : Act) (w : World), (∀ j oj, ops[j]? = some oj → j ≠ i → listed.getD j true = false → (∀ e ∈ oj.after, Region.binds md e = true → e.on ≠ i) → oi.apart ops oj = true) →
   i ∈ Region.ready md ops listed → YieldsIf P ops S oi v a → S w → AnyBut P md ops Q S L f (listed.setIfInBounds i true) (a.put oi.dst v) w → AnyBut P md ops Q S L (f + 1) listed a w := by
 induction f with
 | zero =>
  intro listed a w hfr hr hy hS H
  refine ⟨fun e => absurd hr (by rw [e]; simp), fun j hj => ?_⟩
  rcases Nat.decEq j i with c | c
  · have h2 := ready_mono hj c
    rw [H.1] at h2; cases h2
  · subst c; exact hy.wpOp hi hS ⟨fun _ => hS, H⟩
 | succ f ih =>
  intro listed a w hfr hr hy hS H
  refine ⟨fun e => absurd hr (by rw [e]; simp), fun j hj => ?_⟩
  rcases Nat.decEq j i with c | c
  · have hun := (mem_ready.1 hr).1
    have hjL : j ≠ L := fun e => wait_not hw hun (by rw [← e]; exact hj)
    obtain ⟨hju, oj, ho, hall⟩ := mem_ready.1 hj
    have hno : ∀ e ∈ oj.after, Region.binds md e = true → e.on ≠ i := fun e he hb q => by
     have h1 := hall e he hb
     rw [q] at h1
     rcases Nat.lt_or_ge i listed.size with h' | h'
     · simp [h'] at h1 hun; rw [hun] at h1; cases h1
     · simp [Array.getElem?_eq_none h'] at h1
    have h3 := wpOp_putIf (S := S) ho (hfr j oj ho c hju hno) (fun cs b => Region.noSelect_spec hs i oi cs b hi) (fun cs b => Region.noSelect_spec hs j oj cs b ho) hQ hy (H.2 j (ready_mono hj c))
    refine wpOp_mono (fun a' w' q => ⟨fun _ => q.2.1 hjL, ih (listed.setIfInBounds j true) a' w' (fun k ok hk hki hku hkn => hfr k ok hk hki ?_ hkn) (ready_mono hr (Ne.symm c)) q.1 (q.2.1 hjL) ?_⟩) h3
    · by_cases e : j = k
      · rw [← e]; exact hju
      · rwa [getD_set_ne true e] at hku
    · have h4 := q.2.2
      rwa [Array.setIfInBounds_comm _ _ (Ne.symm c)] at h4
  · subst c; exact hy.wpOp hi hS ⟨fun _ => hS, H⟩
theorem but_take {i : Nat} {oi : Oper} {v : Value} {f : Nat} {listed : Array Bool} {a : Act} {w : World} (hi : ops[i]? = some oi) (hs : Region.noSelect ops = true) (hw : waitB md ops L i = true)
  (hf : Region.free md ops listed i = true) (hr : (Region.ready md ops listed).contains i = true) (hQ : ∀ c a w, Q (.panic c) (a.put oi.dst v) w → Q (.panic c) a w) (hy : YieldsIf P ops S oi v a) (hS : S w)
  (h : AnyBut P md ops Q S L f (listed.setIfInBounds i true) (a.put oi.dst v) w) : AnyBut P md ops Q S L (f + 1) listed a w :=
 took hi hs hw hQ f listed a w (Region.free_spec hi hf) (by simpa using hr) hy hS h
theorem tkT (i : Nat) {oi : Oper} {v : Value} {f : Nat} {listed : Array Bool} {a : Act} {w : World} (hi : ops[i]? = some oi) (hS : S w) (h : AnyBut P md ops Q S L f (listed.setIfInBounds i true) (a.put oi.dst v) w) (hs : Region.noSelect ops = true := by kernel_rfl) (hw : waitB md ops L i = true := by kernel_rfl) (hf : Region.free md ops listed i = true := by kernel_rfl) (hr : (Region.ready md ops listed).contains i = true := by kernel_rfl) (hg : Region.wanted oi (yielded ops a.tmps) = true := by first | kernel_rfl | rfl) (hQ : ∀ c a w, Q (.panic c) (a.put oi.dst v) w → Q (.panic c) a w := by exact fun _ _ _ h => h) (hy : ∀ w, S w → (execOp a.eval oi).run P w = .ok (.value v) w := by (intro w hSw; (try dsimp only at hSw); (try go_split_ands); go_simp; (try with_reducible rfl))) : AnyBut P md ops Q S L (f + 1) listed a w :=
 but_take hi hs hw hf hr hQ (.inl ⟨hg, hy⟩) hS h
theorem but_one {i : Nat} {oi : Oper} {f : Nat} {listed : Array Bool} {a : Act} {w : World} (hr : Region.ready md ops listed = [i]) (hi : ops[i]? = some oi)
  (h : ∀ K : Act → World → Prop, (∀ a' w', (i ≠ L → S w') → AnyBut P md ops Q S L f (listed.setIfInBounds i true) a' w' → K a' w') → if Region.wanted oi (yielded ops a.tmps) = true then oi.wp P a w K Q else K (a.put oi.dst undef) w) : AnyBut P md ops Q S L (f + 1) listed a w := by
 refine ⟨fun e => absurd (hr.symm.trans e) (by simp), fun j hj => ?_⟩
 rw [hr] at hj
 obtain rfl := List.mem_singleton.1 hj
 have h1 := h (fun a' w' => (j ≠ L → S w') ∧ AnyBut P md ops Q S L f (listed.setIfInBounds j true) a' w') fun a' w' q r => ⟨q, r⟩
 unfold wpOp
 rw [hi]
 dsimp only
 split
 · rename_i c; rw [if_pos c] at h1; exact .inl h1
 · rename_i c; rw [if_neg c] at h1; exact h1
theorem but_two {i j : Nat} {oi oj : Oper} {f : Nat} {listed : Array Bool} {a : Act} {w : World} (hr : Region.ready md ops listed = [i, j]) (hi : ops[i]? = some oi) (hj : ops[j]? = some oj)
  (h : ∀ K : Act → World → Prop, (∀ a' w', (i ≠ L → S w') → AnyBut P md ops Q S L f (listed.setIfInBounds i true) a' w' → K a' w') → if Region.wanted oi (yielded ops a.tmps) = true then oi.wp P a w K Q else K (a.put oi.dst undef) w)
  (g : ∀ K : Act → World → Prop, (∀ a' w', (j ≠ L → S w') → AnyBut P md ops Q S L f (listed.setIfInBounds j true) a' w' → K a' w') → if Region.wanted oj (yielded ops a.tmps) = true then oj.wp P a w K Q else K (a.put oj.dst undef) w) : AnyBut P md ops Q S L (f + 1) listed a w := by
 refine ⟨fun e => absurd (hr.symm.trans e) (by simp), fun k hk => ?_⟩
 rw [hr] at hk
 unfold wpOp
 rcases List.mem_cons.1 hk with rfl | hk
 · have h1 := h (fun a' w' => (k ≠ L → S w') ∧ AnyBut P md ops Q S L f (listed.setIfInBounds k true) a' w') fun a' w' q r => ⟨q, r⟩
   rw [hi]
   dsimp only
   split
   · rename_i c; rw [if_pos c] at h1; exact .inl h1
   · rename_i c; rw [if_neg c] at h1; exact h1
 · obtain rfl := List.mem_singleton.1 hk
   have h1 := g (fun a' w' => (k ≠ L → S w') ∧ AnyBut P md ops Q S L f (listed.setIfInBounds k true) a' w') fun a' w' q r => ⟨q, r⟩
   rw [hj]
   dsimp only
   split
   · rename_i c; rw [if_pos c] at h1; exact .inl h1
   · rename_i c; rw [if_neg c] at h1; exact h1
theorem but_done {listed : Array Bool} {a : Act} {w : World} (hr : Region.ready md ops listed = []) (h : Q .normal a w) : AnyBut P md ops Q S L 0 listed a w := ⟨hr, h⟩
theorem but_start {id : Nat} {a : Act} {w : World} (L : Nat) (S : World → Prop) (hm : P.follows .mixedOrders = true) (h : AnyBut P .any ops Q S L ops.size (Array.replicate ops.size false) a w.drew) : (Code.region id ops true).wp P Q a w :=
 wp_region_any hm (AnyBut.any _ _ _ _ h)
end
end Go.Proofs.YtdpapnfjpefhkaaGreat
namespace Go.Proofs.YtdpapnfjpefhkaaGreat
open Go.RowKit
set_option linter.unusedVariables false
set_option maxRecDepth 100000
def Gon (wh per now : Int) : Prop := nxB wh per now = true ∧ now < nx wh per now
instance (wh per now : Int) : Decidable (Gon wh per now) := inferInstanceAs (Decidable (_ ∧ _))
theorem nxB_all {wh per now : Int} (h : nxB wh per now = true) : 1 ≤ per ∧ 0 ≤ wh ∧ 0 ≤ now ∧ wh ≤ 4611686018427387904 ∧ per ≤ 4611686018427387904 ∧ now ≤ 4611686018427387904 := by
 simpa [nxB] using h
section
variable {B t o b c n n' N N' : Nat} {vA vL : Value} {p p' : Option Nat} {S S' : List It} {g g' : Int → Int} {w w' : World} {e : Ending} {v : Value}
def Far (s o b c : Nat) (p : Option Nat) : Prop := s ≠ o ∧ s ≠ b ∧ s ≠ c ∧ p ≠ some s
theorem TT.far (h : TT B t vA vL o b c p n N S g w) : Far w.heap.size o b c p := by
 have h1 := h.hg.lo
 have h2 := h.hg.lb
 have h3 := h.pm.lt
 exact ⟨by omega, by omega, by omega, fun e => by have := (h.hg.lp e).2; omega⟩
theorem Blk.tc {s : Nat} {x : It} (h : Blk w s x) (f : Far s o b c p) (hc : TC o b c p p' w w') : Blk w' s x := (hc.block s (lt_of_blk h) f.1 f.2.1 f.2.2.1 f.2.2.2).trans h
theorem XC.two {s : Nat} {x : It} (h : XC B t vA vL o b c p n N S g v w e w') (hb : Blk w s x) (f : Far s o b c p) : w'.cell? ⟨s, 0, none⟩ = some (.int .i64 x.id) ∧ w'.cell? ⟨t, 1, none⟩ = some (.pointer (some ⟨o, 0, none⟩)) := by
 obtain ⟨_, p1, h1, h2⟩ := h
 exact ⟨(hb.tc f h2).cells.1, h1.c0⟩
set_option maxHeartbeats 4000000 in
theorem again_end {x : It} {now : Int} (h : TT B t vA vL o b c p n N S g w) (hx : x ∈ S) (hl : S.length ≤ 1000) (hg : ¬ Gon x.w (g x.id) now) :
  Calls Tryz.prog 87 #[.pointer (some ⟨t, 1, none⟩), vI x, .int .i64 now] w (XC B t vA vL o b c p n N (del x.id S) (fput g x.id 0) (.tuple #[]) w) := by
 have HA := Lib.hid h
 have hk := h.hg.wf hx
 clear h
 have HB2 := Lib.hid (below_al w (.cells #[.int .i64 x.id, .int .i64 x.w, .int .i64 x.s] 203))
 obtain ⟨s, hs⟩ : ∃ s, s = w.heap.size := ⟨_, rfl⟩
 have X1 := Lib.hid (Blk.new w x)
 have H1 := Lib.hid (HA.out.later HB2.out)
 obtain ⟨en, xn, hcl, hor⟩ : ∃ en xn : Int, (∀ w, Calls Tryz.prog 107 #[.int .i64 x.w, .int .i64 (g x.id), .int .i64 now] w fun e w' => e = .returned (.tuple #[.int .i64 xn, .int .i64 en]) ∧ w = w') ∧ (en = 1 ∨ en = 0 ∧ xn ≤ now) := by
  by_cases hb : nxB x.w (g x.id) now = true
  · obtain ⟨a1, a2, a3, a4, a5, a6⟩ := nxB_all hb
    exact ⟨0, nx x.w (g x.id) now, fun w => next_yes _ _ _ w a1 a2 a3 a4 a5 a6, .inr ⟨rfl, by
     have h9 : ¬ now < nx x.w (g x.id) now := fun e => hg ⟨hb, e⟩
     omega⟩⟩
  · exact ⟨1, 0, fun w => next_no _ _ _ w (by simpa using hb), .inl rfl⟩
 go_enter Tryz.func87, Tryz.ntmps87
 go_upto_region 1 with (fail)
 rw [← hs] at X1 ⊢
 clear hs
 generalize w.alloc (.cells #[.int .i64 x.id, .int .i64 x.w, .int .i64 x.s] 203) = w2 at *
 have KP : Hid (∀ w', Below w2.heap.size w2 w' → w'.cell? ⟨s, 0, none⟩ = some (.int .i64 x.id) ∧ w'.cell? ⟨s, 1, none⟩ = some (.int .i64 x.w) ∧ w'.cell? ⟨t, 2, none⟩ = some (.map (some c)) ∧ (Instr.lookup 142 (.map (some c)) (.int .i64 x.id) false).run Tryz.prog w' = .ok (.int .i64 (g x.id)) w') := fun w' hb => by
  have h1 := H1.out.later hb
  have h2 := (X1.out.later hb).cells
  exact ⟨h2.1, h2.2.1, h1.c1, h1.pm.get hk⟩
 refine but_start 1000 (fun w' => w'.cell? ⟨s, 0, none⟩ = some (.int .i64 x.id) ∧ w'.cell? ⟨s, 1, none⟩ = some (.int .i64 x.w) ∧ w'.cell? ⟨t, 2, none⟩ = some (.map (some c)) ∧ (Instr.lookup 142 (.map (some c)) (.int .i64 x.id) false).run Tryz.prog w' = .ok (.int .i64 (g x.id)) w') (by kernel_rfl) ?_
 have hHeld := KP.out w2.drew (Below.refl _ _).drew
 change AnyBut _ _ _ _ _ _ 16 _ _ _
 refine tkT 0 rfl hHeld ?_
 refine tkT 1 rfl hHeld ?_
 refine tkT 2 rfl hHeld ?_
 refine tkT 3 rfl hHeld ?_
 refine tkT 4 rfl hHeld ?_
 refine tkT 5 rfl hHeld ?_
 refine tkT 6 rfl hHeld ?_
 refine tkT 7 rfl hHeld ?_
 refine tkT 8 rfl hHeld ?_
 refine tkT 9 rfl hHeld ?_
 try simp only [l1, l2, l3, Act.put, l4, l5, l6]
 refine but_one (i := 10) (by kernel_rfl) rfl ?_
 intro K hK
 go_simp
 go_at_call 107
 refine (hcl _).mono ?_
 rintro e w9 ⟨rfl, rfl⟩
 try dsimp only
 have hHeld2 := hHeld
 refine hK _ _ (fun _ => hHeld2) ?_
 clear hK K hHeld
 have hHeld := hHeld2
 clear hHeld2
 refine tkT 11 rfl hHeld ?_
 refine tkT 12 rfl hHeld ?_
 refine tkT 13 rfl hHeld ?_
 refine tkT 14 rfl hHeld ?_
 refine tkT 15 rfl hHeld ?_
 try simp only [l1, l2, l3, Act.put, l4, l5, l6]
 refine but_done (by kernel_rfl) ?_
 try clear hHeld
 clear KP
 have H3 := Lib.hid (H1.out.later (Below.refl _ _).drew)
 have HB3 := Lib.hid (HB2.out.trans ((Below.refl _ _).drew.mono HB2.out.size))
 have X3 := Lib.hid (X1.out.later (Below.refl _ _).drew)
 clear H1 HB2 X1 hcl HA
 generalize w2.drew = w3 at *
 obtain ⟨x0, x1, x2, _⟩ := X3.out.cells
 rcases hor with rfl | ⟨rfl, hle⟩
 · go_wp2_with fail
   refine (stop_yes H3.out hx hl).mono ?_
   rintro e w4 hr
   have HR := Lib.hid hr.2
   obtain rfl := hr.1
   clear hr
   go_wp2_with fail
   go_end0
   obtain ⟨p1, r1, r2⟩ := HR.out
   exact ⟨rfl, p1, r1, (TC.of_below p HB3.out).trans r2⟩
 · go_wp2_with fail
   refine (stop_yes H3.out hx hl).mono ?_
   rintro e w4 hr
   have HR := Lib.hid hr.2
   obtain rfl := hr.1
   clear hr
   go_wp2_with fail
   go_end0
   obtain ⟨p1, r1, r2⟩ := HR.out
   exact ⟨rfl, p1, r1, (TC.of_below p HB3.out).trans r2⟩
set_option maxHeartbeats 4000000 in
theorem again_on {x : It} {now : Int} (h : TT B t vA vL o b c p n N S g w) (hx : x ∈ S) (hn : n ≤ 1000000) (hl : S.length ≤ 1000) (hg : Gon x.w (g x.id) now) :
  Calls Tryz.prog 87 #[.pointer (some ⟨t, 1, none⟩), vI x, .int .i64 now] w (XC B t vA vL o b c p (n + 1) N (ins ⟨x.id, nx x.w (g x.id) now, (n : Int) + 1⟩ (del x.id S)) g (.tuple #[]) w) := by
 have HA := Lib.hid h
 have hk := h.hg.wf hx
 clear h
 have HB2 := Lib.hid (below_al w (.cells #[.int .i64 x.id, .int .i64 x.w, .int .i64 x.s] 203))
 have NS := Lib.hid HA.out.far
 obtain ⟨s, hs⟩ : ∃ s, s = w.heap.size := ⟨_, rfl⟩
 have X1 := Lib.hid (Blk.new w x)
 have H1 := Lib.hid (HA.out.later HB2.out)
 obtain ⟨xn, hxn⟩ : ∃ xn, xn = nx x.w (g x.id) now := ⟨_, rfl⟩
 have hlt : ¬ xn ≤ now := by have := hg.2; omega
 obtain ⟨a1, a2, a3, a4, a5, a6⟩ := nxB_all hg.1
 have hcl := fun w => next_yes _ _ _ w a1 a2 a3 a4 a5 a6
 rw [← hxn] at hcl ⊢
 clear a1 a2 a3 a4 a5 a6 hg hxn
 go_enter Tryz.func87, Tryz.ntmps87
 go_upto_region 1 with (fail)
 rw [← hs] at X1 NS ⊢
 clear hs
 generalize w.alloc (.cells #[.int .i64 x.id, .int .i64 x.w, .int .i64 x.s] 203) = w2 at *
 have KP : Hid (∀ w', Below w2.heap.size w2 w' → w'.cell? ⟨s, 0, none⟩ = some (.int .i64 x.id) ∧ w'.cell? ⟨s, 1, none⟩ = some (.int .i64 x.w) ∧ w'.cell? ⟨t, 2, none⟩ = some (.map (some c)) ∧ (Instr.lookup 142 (.map (some c)) (.int .i64 x.id) false).run Tryz.prog w' = .ok (.int .i64 (g x.id)) w') := fun w' hb => by
  have h1 := H1.out.later hb
  have h2 := (X1.out.later hb).cells
  exact ⟨h2.1, h2.2.1, h1.c1, h1.pm.get hk⟩
 refine but_start 1000 (fun w' => w'.cell? ⟨s, 0, none⟩ = some (.int .i64 x.id) ∧ w'.cell? ⟨s, 1, none⟩ = some (.int .i64 x.w) ∧ w'.cell? ⟨t, 2, none⟩ = some (.map (some c)) ∧ (Instr.lookup 142 (.map (some c)) (.int .i64 x.id) false).run Tryz.prog w' = .ok (.int .i64 (g x.id)) w') (by kernel_rfl) ?_
 have hHeld := KP.out w2.drew (Below.refl _ _).drew
 change AnyBut _ _ _ _ _ _ 16 _ _ _
 refine tkT 0 rfl hHeld ?_
 refine tkT 1 rfl hHeld ?_
 refine tkT 2 rfl hHeld ?_
 refine tkT 3 rfl hHeld ?_
 refine tkT 4 rfl hHeld ?_
 refine tkT 5 rfl hHeld ?_
 refine tkT 6 rfl hHeld ?_
 refine tkT 7 rfl hHeld ?_
 refine tkT 8 rfl hHeld ?_
 refine tkT 9 rfl hHeld ?_
 try simp only [l1, l2, l3, Act.put, l4, l5, l6]
 refine but_one (i := 10) (by kernel_rfl) rfl ?_
 intro K hK
 go_simp
 go_at_call 107
 refine (hcl _).mono ?_
 rintro e w9 ⟨rfl, rfl⟩
 try dsimp only
 have hHeld2 := hHeld
 refine hK _ _ (fun _ => hHeld2) ?_
 clear hK K hHeld
 have hHeld := hHeld2
 clear hHeld2
 refine tkT 11 rfl hHeld ?_
 refine tkT 12 rfl hHeld ?_
 refine tkT 13 rfl hHeld ?_
 refine tkT 14 rfl hHeld ?_
 refine tkT 15 rfl hHeld ?_
 try simp only [l1, l2, l3, Act.put, l4, l5, l6]
 refine but_done (by kernel_rfl) ?_
 try clear hHeld
 clear KP
 have H3 := Lib.hid (H1.out.later (Below.refl _ _).drew)
 have HB3 := Lib.hid (HB2.out.trans ((Below.refl _ _).drew.mono HB2.out.size))
 have X3 := Lib.hid (X1.out.later (Below.refl _ _).drew)
 clear H1 HB2 X1 hcl HA
 generalize w2.drew = w3 at *
 obtain ⟨x0, x1, x2, _⟩ := X3.out.cells
 have c0 := H3.out.c0
 have hm := mem_ids hx
 have H4 := Lib.hid (H3.out.later (Below.refl _ _).drew)
 go_wp2_with fail
 refine but_start 1000 (fun w' => w'.cell? ⟨s, 0, none⟩ = some (.int .i64 x.id) ∧ w'.cell? ⟨t, 1, none⟩ = some (.pointer (some ⟨o, 0, none⟩))) (by kernel_rfl) ?_
 have hHeld := And.intro x0 c0
 change AnyBut _ _ _ _ _ _ 8 _ _ _
 refine tkT 0 rfl hHeld ?_
 refine tkT 1 rfl hHeld ?_
 refine tkT 2 rfl hHeld ?_
 refine tkT 3 rfl hHeld ?_
 refine tkT 4 rfl hHeld ?_
 refine tkT 5 rfl hHeld ?_
 refine tkT 6 rfl hHeld ?_
 try simp only [l1, l2, l3, Act.put, l4, l5, l6]
 refine but_one (i := 7) (by kernel_rfl) rfl ?_
 intro K hK
 go_simp
 go_at_call 109
 refine (move_yes x.id xn H4.out.hg H4.out.ok hk hm hn hl).mono ?_
 rintro e w4 hr
 have HR := Lib.hid (H4.out.go ((H4.out.ok.del x.id).ins x.id xn del_ids) hr)
 obtain rfl := hr.1
 clear hr
 try dsimp only
 have hHeld2 := HR.out.two (X3.out.later (Below.refl _ _).drew) NS.out
 refine hK _ _ (fun _ => hHeld2) ?_
 clear hK K hHeld
 clear hHeld2
 try simp only [l1, l2, l3, Act.put, l4, l5, l6]
 refine but_done (by kernel_rfl) ?_
 try clear hHeld
 go_wp2_with fail
 go_end0
 obtain ⟨_, p1, r1, r2⟩ := HR.out
 exact ⟨rfl, p1, r1, (TC.of_below p HB3.out.drew).trans r2⟩
end
end Go.Proofs.YtdpapnfjpefhkaaGreat
