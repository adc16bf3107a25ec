/- What the small calls of package heap do. Conditions: each theorem's own premises. -/
import Derived.Test.YtmadcnpkaijllaaOrd
namespace Go.Proofs.Ytmadcnpkaijllaa
open Go.RowKit
set_option linter.unusedVariables false
set_option maxRecDepth 100000

/-- A new heap. -/
def NewR (w : World) (e : Ending) (w' : World) : Prop := e = .returned (.pointer (some ⟨w.heap.size + 1, 0, none⟩)) ∧ (∀ B, B ≤ w.heap.size → HG B w' (w.heap.size + 1) w.heap.size none 0 []) ∧ Below w.heap.size w w'
theorem new_at (w : World) : NewR w (.returned (.pointer (some ⟨w.heap.size + 1, 0, none⟩))) ((w.alloc (.map #[] 0)).alloc (.cells #[.slice none 0 0, .map (some w.heap.size), .int .i64 0] 120)) :=
  ⟨rfl, fun B hB => ⟨none, 0, [], fun _ => 0, rfl, HB.new w hB _, fun p x h => by simp at h, hp_nil, List.Perm.refl _⟩, (below_al w _).alloc (by simp) _⟩
theorem new_any (w : World) : Calls Try.prog 77 #[] w (NewR w) := by
  have hmm := @run_makeMap Try.prog
  go_enter Try.func77, Try.ntmps77
  go_wp2
  go_ret
  exact new_at w

theorem len_nil (w : World) : Calls Try.prog 64 #[.pointer none] w fun e w' => e = .returned (.int .i64 0) ∧ w = w' := by
  go_enter Try.func64, Try.ntmps64
  go_wp2
  go_ret
  exact ⟨rfl, rfl⟩
theorem place_nil (k : Int) (w : World) : Calls Try.prog 74 #[.pointer none, .int .i64 k] w fun e w' => e = .returned (.tuple #[.int .i64 0, .bool false]) ∧ w = w' := by
  go_enter Try.func74, Try.ntmps74
  go_wp2
  go_ret2
  exact ⟨rfl, rfl⟩
theorem add_nil (k t : Int) (w : World) : Calls Try.prog 72 #[.pointer none, .int .i64 k, .int .i64 t] w fun e w' => e = .returned (.int .i64 1) ∧ w = w' := by
  go_enter Try.func72, Try.ntmps72
  go_wp2_with fail
  refine (place_nil k w).mono ?_
  rintro e w' ⟨rfl, rfl⟩
  go_wp2_with fail
  go_ret
  exact ⟨rfl, rfl⟩
theorem above_any (i : Nat) (w : World) (h0 : 0 < i) (hi : i ≤ 1000) : Calls Try.prog 80 #[.int .i64 i] w fun e w' => e = .returned (.int .i64 (((i - 1) / 4 : Nat) : Int)) ∧ w = w' := by
  have b1 : IntKind.i64.wrap ((i : Int) - 1) = (i : Int) - 1 := by rw [IntKind.wrap_i64]; omega
  have b2 : IntKind.i64.wrap (((i : Int) - 1).tdiv 4) = (((i - 1) / 4 : Nat) : Int) := by
    rw [show (i : Int) - 1 = ((i - 1 : Nat) : Int) by omega, IntKind.wrap_i64]
    have : ((i - 1 : Nat) : Int).tdiv 4 = (((i - 1) / 4 : Nat) : Int) := by
      rw [Int.tdiv_eq_ediv_of_nonneg (by omega)]; omega
    rw [this]; omega
  go_enter Try.func80, Try.ntmps80
  go_wp2
  go_ret
  exact ⟨by first | rfl | (simp; omega), rfl⟩
section
variable {B o b c n : Nat} {P : Option Addr} {m : List It} {K : List Int} {f : Int → Int}
theorem len_any (w : World) (h : HB B w o b P c n m K f) : Calls Try.prog 64 #[.pointer (some ⟨o, 0, none⟩)] w fun e w' => e = .returned (.int .i64 (m.length : Int)) ∧ w = w' := by
  have h0 := h.c0
  clear h
  go_enter Try.func64, Try.ntmps64
  go_wp2
  go_ret
  exact ⟨rfl, rfl⟩
/-- Where one stands. -/
theorem place_any (k : Int) (w : World) (h : HB B w o b P c n m K f) (hk : Wf k) : Calls Try.prog 74 #[.pointer (some ⟨o, 0, none⟩), .int .i64 k] w fun e w' => (∃ v, e = .returned (.tuple #[.int .i64 v, .bool (decide (k ∈ K))]) ∧ (k ∈ K → v = f k)) ∧ w = w' := by
  obtain ⟨v, hrun, hv⟩ : ∃ v, (Instr.lookup 69 (.map (some b)) (.int .i64 k) true).run Try.prog w = .ok (.tuple #[.int .i64 v, .bool (decide (k ∈ K))]) w ∧ (k ∈ K → v = f k) := by
    obtain ⟨D, h1, h2, h3, h4⟩ := h.tm
    obtain ⟨v, ps, hrun, hv⟩ := h1.look_ok law Try.underlying69 (zeroI w) (elI (wf_of (by omega) (by omega))) (keyI hk)
    obtain ⟨cc, rfl, _, e2⟩ := plainElem_int_inv Try.underlying3 hv
    rw [h3] at hrun
    refine ⟨cc, hrun, fun hm => ?_⟩
    rename_i e3
    have e4 := congrArg Prod.fst e3
    have e5 : dL (f k) = dL cc := (h4 k hm).symm.trans e4
    exact (dL_inj e5).symm
  have h1 := h.c1
  clear h
  generalize decide (k ∈ K) = d at *
  go_enter Try.func74, Try.ntmps74
  go_wp2
  go_ret2
  exact ⟨⟨v, rfl, hv⟩, rfl⟩
set_option maxHeartbeats 2000000 in
theorem put_any (i : Nat) (x : It) (w : World) (h : HB B w o b P c n m K f) (hi : i < m.length) (hx : Wf x.id) (hl : m.length ≤ 1000) (hK : K.length ≤ 1000) :
    Calls Try.prog 82 #[.pointer (some ⟨o, 0, none⟩), .int .i64 i, .agg #[.int .i64 x.id, .int .i64 x.w, .int .i64 x.s]] w fun e w' => e = .returned (.tuple #[]) ∧ HB B w' o b P c n (m.set i x) (if x.id ∈ K then K else K ++ [x.id]) (fput f x.id i) ∧ Chg o b (blk P) (blk P) w w' := by
  obtain ⟨g, rfl, hc⟩ := row_form h.own (by omega)
  have hc0 := h.c0
  have hc1 := h.c1
  have ho := h.lo
  have hg := (row_lt h.own (k := g) rfl).2
  have hf0 := h.own.frozenAt (i * 3)
  have hf1 := h.own.frozenAt (i * 3 + 1)
  have hf2 := h.own.frozenAt (i * 3 + 2)
  obtain ⟨y, hy⟩ := ex_at hi
  obtain ⟨g', e', d0, d1, d2⟩ := h.at hy
  obtain rfl : g' = g := by injection e' with e'; injection e' with e'; exact e'.symm
  have HA := Lib.hid h
  clear h hy e'
  obtain ⟨ws, hws⟩ : ∃ ws, ws = ((w.setCell ⟨g', i * 3, none⟩ (.int .i64 x.id)).setCell ⟨g', i * 3 + 1, none⟩ (.int .i64 x.w)).setCell ⟨g', i * 3 + 2, none⟩ (.int .i64 x.s) := ⟨_, rfl⟩
  have A0 : HB B ws o b (some ⟨g', 0, none⟩) c n (m.set i x) K f ∧ Chg o b (some g') (some g') w ws := by rw [hws]; exact HA.out.stored hi x hx
  have sz : ws.heap.size = w.heap.size := by rw [hws]; simp
  obtain ⟨w1, hw1⟩ : ∃ w1, w1 = (ws.alloc (.cells #[.int .i64 x.id, .int .i64 x.w, .int .i64 x.s] 106)).drew := ⟨_, rfl⟩
  have A1 : HB B w1 o b (some ⟨g', 0, none⟩) c n (m.set i x) K f ∧ Chg o b (some g') (some g') w w1 := by
    rw [hw1]
    exact ⟨A0.1.later (below_al ws _).drew, A0.2.trans (Chg.of_below _ (below_al ws _).drew)⟩
  have k0 : w1.cell? ⟨w.heap.size, 0, none⟩ = some (.int .i64 x.id) := by rw [hw1]; exact new_cell rfl sz.symm
  obtain ⟨w2, hrun, ht, tm⟩ := (A1.1.tm.keep (w' := w1.drew) rfl).store hx (v := (i : Int)) (wf_of (by omega) (by omega)) (by unfold maxLen; omega)
  have A2 := (A1.1.drewN 1).mapped ht tm
  have HR := Lib.hid (And.intro A2.1 ((A1.2.trans (Chg.of_below _ (below_drewN w1 1))).trans A2.2))
  have c1 := A1.1.c1
  clear A0 A1 A2 ht tm hc
  go_enter Try.func82, Try.ntmps82
  go_wp2_with fail
  go_region
  rw [← hws, ← hw1]
  clear hw1 hws d0 d1 d2 hf0 hf1 hf2 hc0 hc1
  go_wp2_with fail
  go_region
  go_end0
  exact ⟨rfl, HR.out⟩
end
end Go.Proofs.Ytmadcnpkaijllaa
