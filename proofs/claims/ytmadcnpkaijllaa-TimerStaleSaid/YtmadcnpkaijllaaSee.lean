/- What Len, Find and Min of package heap answer. Conditions: each theorem's own premises. -/
import Derived.Test.YtmadcnpkaijllaaStl
namespace Go.Proofs.Ytmadcnpkaijllaa
open Go.RowKit
set_option linter.unusedVariables false
set_option maxRecDepth 100000
def zI : It := ⟨0, 0, 0⟩
/-- An item and a bool. -/
def IbR (x : It) (d : Bool) (w : World) (e : Ending) (w' : World) : Prop := e = .returned (.tuple #[.agg #[.int .i64 x.id, .int .i64 x.w, .int .i64 x.s], .bool d]) ∧ Below w.heap.size w w'
theorem min_nil (w : World) : Calls Try.prog 53 #[.pointer none] w (IbR zI false w) := by
  go_enter Try.func53, Try.ntmps53
  go_wp2_with fail
  refine (len_nil _).mono ?_
  rintro e w' ⟨rfl, rfl⟩
  go_wp2_with fail
  refine bodyPost_ret (v := .tuple #[.agg #[.int .i64 0, .int .i64 0, .int .i64 0], .bool false]) ?_ rfl ⟨rfl, ?_⟩
  · rw [results_cell_tmp rfl]; go_simp; try rfl
  · first | exact below_al _ _ | (repeat' (first | exact below_al _ _ | refine Below.alloc ?_ (by omega) _))
section
variable {B o b n : Nat} {p : Option Nat} {S : List It} {w : World}
theorem glen (h : HG B w o b p n S) : Calls Try.prog 64 #[.pointer (some ⟨o, 0, none⟩)] w fun e w' => e = .returned (.int .i64 (S.length : Int)) ∧ w = w' := by
  obtain ⟨P, c, m, f, _, h1, _, _, h4⟩ := h
  rw [← h4.length_eq]
  exact len_any w h1
theorem gmin_none (h : HG B w o b p n []) : Calls Try.prog 53 #[.pointer (some ⟨o, 0, none⟩)] w (IbR zI false w) := by
  have HA := Lib.hid h
  clear h
  go_enter Try.func53, Try.ntmps53
  go_wp2_with fail
  refine (glen (HA.out.later (below_al _ _))).mono ?_
  rintro e w' ⟨rfl, rfl⟩
  go_wp2_with fail
  refine bodyPost_ret (v := .tuple #[.agg #[.int .i64 0, .int .i64 0, .int .i64 0], .bool false]) ?_ rfl ⟨rfl, ?_⟩
  · rw [results_cell_tmp rfl]; go_simp; try rfl
  · first | exact below_al _ _ | (repeat' (first | exact below_al _ _ | refine Below.alloc ?_ (by omega) _))
theorem gmin_some {x : It} (h : HG B w o b p n (x :: S)) (hs : Srt (x :: S)) (hl : (x :: S).length ≤ 1000) : Calls Try.prog 53 #[.pointer (some ⟨o, 0, none⟩)] w (IbR x true w) := by
  obtain ⟨P, c, m, f, e0, h1, h2, h3, h4⟩ := h
  have hx := srt_head hs h3 h4
  have hm := h4.length_eq
  have hn : (m.length == 0) = false := by have := at_lt hx; simp; intro e; rw [e] at this; simp at this
  have hn2 : ((m.length : Int) == 0) = false := by have := at_lt hx; simp; intro e; rw [e] at this; simp at this
  have hpos := at_lt hx
  obtain ⟨g, rfl, d0, d1, d2⟩ := h1.at hx
  simp only [Nat.zero_mul, Nat.zero_add] at d0 d1 d2
  have c0 := h1.c0
  have ho := h1.lo
  have hg := (row_lt h1.own (k := g) rfl).2
  have HA := Lib.hid h1
  clear h1 hx h4 hm
  go_enter Try.func53, Try.ntmps53
  go_wp2_with fail
  refine (len_any _ (HA.out.later (below_al _ _))).mono ?_
  rintro e w' ⟨rfl, rfl⟩
  go_wp2_with fail
  refine bodyPost_ret (v := .tuple #[.agg #[.int .i64 x.id, .int .i64 x.w, .int .i64 x.s], .bool true]) ?_ rfl ⟨rfl, ?_⟩
  · rw [results_cell_tmp rfl]; go_simp; try rfl
  · first | exact below_al _ _ | (repeat' (first | exact below_al _ _ | refine Below.alloc ?_ (by omega) _))
end
theorem inf36 : (Try.prog.info? 106).map (fun i => (i.zero, i.size, i.bytes)) = some (some (.agg #[.int .i64 0, .int .i64 0, .int .i64 0]), 3, 24) := by kernel_rfl
end Go.Proofs.Ytmadcnpkaijllaa
