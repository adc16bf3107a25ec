/- What the rows' condition on the laid table gives a walk, and a world that meets it. No condition. -/
import Derived.Test.YtgojnhbmelnpnaaDoorPMem
import Derived.Test.YtgojnhbmelnpnaaDoorRows
import Derived.OpenShut
import Derived.ChangeSame
import Derived.ChangeVars
import Derived.JoinedOf
import Derived.RowKit
import Derived.RowKitTokens
import Derived.LaidLaws
import Derived.LaidHandle
import Derived.Stop.Joined
import Derived.LaidMore
import Derived.Lib.LaidTab
namespace Go.Proofs.YtgojnhbmelnpnaaDoor.Pg
open Go.ChangeShapes Go.WideShapes Go.RowKit

theorem Tryd.own : ownKnob Tryd.prog.godebug = none := by kernel_rfl
theorem Tryd.laidOut : laidOutB Tryd.prog = true := by kernel_rfl
theorem Tryd.g0 : Tryd.prog.globalNamed "tarpaulin/prog.forms" = some 0 := by kernel_rfl
theorem Tryd.cells60 : Tryd.prog.cellsOf 60 = 4 := by kernel_rfl
theorem Tryd.cells64 : Tryd.prog.cellsOf 64 = 132 := by kernel_rfl
theorem Tryd.cells5 : Tryd.prog.cellsOf 5 = 1 := by kernel_rfl
theorem Tryd.cells9 : Tryd.prog.cellsOf 9 = 1 := by kernel_rfl

abbrev laid1 : List (String × DataW Unit) := [("tarpaulin/prog.forms", Rows.laid_tarpaulin_prog_forms)]
def fD (f : Fm) : DataW Unit := .agg [.lit (.string f.nm), .lit (.int .u8 f.a), .lit (.int .u8 f.b), .lit (.int .u8 f.c)]
theorem laid_tab : (Rows.laid_tarpaulin_prog_forms : DataW Unit) = .agg (tab.map fD) := rfl

section
variable {enc : TypeId × Value → Unit} {w : World} {base : Nat} {spare : Nat → Bool} {held : Bool}
theorem open_form {n : Nat} {cs : List Value} {f : Fm} {p : List MemPlace} (h : DataW.trod enc Tryd.prog w base spare held n 60 cs = some (fD f, p)) : cs = fV f := by
  obtain ⟨xs, m, _, hx, hl, hlen, hf⟩ := DataW.trod_struct Tryd.underlying60 h
  rw [Tryd.cells60] at hl
  match cs, hl with
  | [c0, c1, c2, c3], _ =>
    have h0 : DataW.trod enc Tryd.prog w base spare held m 9 (List.take (Tryd.prog.cellsOf 9) (List.drop 0 [c0, c1, c2, c3])) = xs[0]? := hf 0 _ rfl
    have h1 : DataW.trod enc Tryd.prog w base spare held m 5 (List.take (Tryd.prog.cellsOf 5) (List.drop 1 [c0, c1, c2, c3])) = xs[1]? := hf 1 _ rfl
    have h2 : DataW.trod enc Tryd.prog w base spare held m 5 (List.take (Tryd.prog.cellsOf 5) (List.drop 2 [c0, c1, c2, c3])) = xs[2]? := hf 2 _ rfl
    have h3 : DataW.trod enc Tryd.prog w base spare held m 5 (List.take (Tryd.prog.cellsOf 5) (List.drop 3 [c0, c1, c2, c3])) = xs[3]? := hf 3 _ rfl
    rw [Tryd.cells5] at h1 h2 h3
    rw [Tryd.cells9] at h0
    match xs, hlen with
    | [y0, y1, y2, y3], _ =>
      obtain ⟨s, e0, x0, _⟩ := DataW.trod_string Tryd.underlying9 h0
      obtain ⟨z1, e1, x1, _⟩ := DataW.trod_int Tryd.underlying5 h1
      obtain ⟨z2, e2, x2, _⟩ := DataW.trod_int Tryd.underlying5 h2
      obtain ⟨z3, e3, x3, _⟩ := DataW.trod_int Tryd.underlying5 h3
      subst x0 x1 x2 x3
      simp only [fD, List.map_cons, List.map_nil, Prod.mk.injEq, DataW.agg.injEq, List.cons.injEq, DataW.lit.injEq, Lit.string.injEq, Lit.int.injEq, true_and, and_true] at hx
      obtain ⟨⟨g0, g1, g2, g3⟩, _⟩ := hx
      simp only [List.drop_zero, List.take_succ_cons, List.take_zero, List.drop_succ_cons, List.cons.injEq, and_true] at e0 e1 e2 e3
      subst e0 e1 e2 e3
      obtain ⟨nm, fa, fb, fc⟩ := f
      simp only at g0 g1 g2 g3
      subst g0 g1 g2 g3
      rfl
theorem open_tab {n : Nat} {cs : List Value} {p : List MemPlace} (h : DataW.trod enc Tryd.prog w base spare held n 64 cs = some (.agg (tab.map fD), p)) : cs = tab.flatMap fV := by
  obtain ⟨xs, m, _, hx, hl, hlen, hf⟩ := DataW.trod_array Tryd.underlying64 h
  rw [Tryd.cells64] at hl
  simp only [Tryd.cells60] at hf
  have hxs : xs.map (·.1) = tab.map fD := by
    have h9 : DataW.agg (tab.map fD) = DataW.agg (xs.map (·.1)) := congrArg Prod.fst hx
    injection h9 with h9
    exact h9.symm
  have htl : tab.length = 33 := rfl
  apply List.ext_getElem?
  intro j
  by_cases hj : j < 132
  · have hi : j / 4 < 33 := by omega
    have hy : (xs.map (·.1))[j / 4]? = (tab.map fD)[j / 4]? := by rw [hxs]
    have hxi : j / 4 < xs.length := by rw [hlen]; exact hi
    have hti : j / 4 < tab.length := by rw [htl]; exact hi
    rw [List.getElem?_map, List.getElem?_map, List.getElem?_eq_getElem hxi, List.getElem?_eq_getElem hti] at hy
    simp only [Option.map_some, Option.some.injEq] at hy
    have h1 := hf (j / 4) hi
    rw [List.getElem?_eq_getElem hxi] at h1
    have h2 := open_form (f := tab[j / 4]'hti) (p := (xs[j / 4]'hxi).2) (by rw [h1, ← hy])
    have h3 := flat_at fV 4 fV_len tab (j / 4) _ (List.getElem?_eq_getElem hti) (j % 4) (Nat.mod_lt _ (by omega))
    rw [← h2, List.getElem?_take, if_pos (Nat.mod_lt _ (by omega)), List.getElem?_drop, show j / 4 * 4 + j % 4 = j from by omega] at h3
    exact h3.symm
  · rw [List.getElem?_eq_none (by omega), List.getElem?_eq_none (by rw [flat_len fV 4 fV_len, htl]; omega)]
end
theorem ft_of_laid {W : World} (h : laidMetH Tryd.prog laid1 W) : FT W := by
  have h' : laidMet Tryd.prog laid1 W := h
  obtain ⟨ps, ⟨g', t', cs, fuel, p, q, hg', ht', hvar, hd, _, _⟩, _⟩ := h'
  obtain rfl := Option.some.inj (Tryd.g0.symm.trans hg')
  obtain rfl := Option.some.inj ((show (Tryd.prog.globals[0]?).map (·.type) = some 64 by kernel_rfl).symm.trans ht')
  rw [laid_tab] at hd
  have hc := open_tab hd
  have hat : ∀ j, W.cell? ⟨0, j, none⟩ = (tab.flatMap fV)[j]? := fun j => by
    rw [World.var?_cell Tryd.g0 hvar j, ← hc, Array.getElem?_toList]
  have h0 : W.cell? ⟨0, 0, none⟩ = some (.string ⟨#[]⟩) := (hat 0).trans rfl
  exact ⟨World.block_lt_of_cell? W _ h0, fun j u hu => (hat j).trans hu⟩
theorem door_met (os : Os) (args : Array Value) : laidMetH Tryd.prog laid1 ((World.doorLaid Tryd.prog 200 os).forCall (fun _ _ => 0) ⟨#[], args, []⟩).memory :=
  show laidMet Tryd.prog laid1 _ from laidMet_of_run' 8 (by kernel_rfl) (by kernel_rfl)
end Go.Proofs.YtgojnhbmelnpnaaDoor.Pg
