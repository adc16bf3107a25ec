/- What cmp.Compare, cmp.Or and order of package heap answer. No condition.
What the small calls of package heap do. Conditions: each theorem's own premises. -/
import Derived.Test.YtdpapnfjpefhkaaGreatMemm
import Derived.Sort.Grow
import Derived.Deep.RegionHeld3
namespace Go.Proofs.YtdpapnfjpefhkaaGreat
open Go.RowKit Go.Sort
set_option linter.unusedVariables false
set_option maxRecDepth 100000
def cmpI (x y : Int) : Int := if x < y then -1 else if y < x then 1 else 0
def orI (a b : Int) : Int := if a ≠ 0 then a else b
def ordI (x y : It) : Int := orI (cmpI x.w y.w) (cmpI x.s y.s)
theorem ord_neg (x y : It) : ordI x y < 0 ↔ x.lt y := by
 unfold ordI orI cmpI It.lt
 by_cases h1 : x.w < y.w
 · simp [h1]
 · by_cases h2 : y.w < x.w
   · simp [h1, h2]; omega
   · have : x.w = y.w := by omega
     simp [h1, h2]
     repeat' split
     all_goals omega
theorem ord_pos (x y : It) : 0 < ordI x y ↔ y.lt x := by
 unfold ordI orI cmpI It.lt
 by_cases h1 : x.w < y.w
 · simp [h1]; omega
 · by_cases h2 : y.w < x.w
   · simp [h1, h2]
   · have : x.w = y.w := by omega
     simp [h1, h2]
     repeat' split
     all_goals omega
theorem nan_any (x : Int) (w : World) : Calls Tryz.prog 144 #[.int .i64 x] w fun e w' => e = .returned (.bool false) ∧ w = w' := by
 go_enter Tryz.func144, Tryz.ntmps144
 go_wp2
 go_ret
 exact ⟨by simp, rfl⟩
set_option maxHeartbeats 1000000 in
theorem cmp_any (x y : Int) (w : World) : Calls Tryz.prog 141 #[.int .i64 x, .int .i64 y] w fun e w' => e = .returned (.int .i64 (cmpI x y)) ∧ w = w' := by
 go_enter Tryz.func141, Tryz.ntmps141
 go_wp2_with (go_at_call 144; refine (nan_any _ _).mono ?_; rintro e w' ⟨rfl, rfl⟩)
 all_goals (go_ret; refine ⟨?_, rfl⟩; unfold cmpI; (repeat' split) <;> first | rfl | (exfalso; omega))
theorem or_any (x y : Int) (g c : Nat) (w : World) (h0 : w.cell? ⟨g, 0, none⟩ = some (.int .i64 x)) (h1 : w.cell? ⟨g, 1, none⟩ = some (.int .i64 y)) :
  Calls Tryz.prog 140 #[.slice (some ⟨g, 0, none⟩) 2 c] w fun e w' => e = .returned (.int .i64 (orI x y)) ∧ w = w' := by
 have q0 : (0 : Int) < 2 := by decide
 go_enter Tryz.func140, Tryz.ntmps140
 go_wp2_with fail
 go_loopw [8] (fun i wr => ∃ k : Nat, k ≤ 2 ∧ i = .int .i64 k ∧ (0 < k → x = 0) ∧ (1 < k → y = 0) ∧ wr = w) (fun i _ => 2 - (intOf i).toNat)
 case atStart => exact ⟨0, by omega, rfl, fun h => absurd h (by omega), fun h => absurd h (by omega), rfl⟩
 case round =>
  obtain ⟨k, hk, rfl, hz, hy, rfl⟩ := hrel
  match k, hk with
  | 0, _ =>
   by_cases c1 : x = 0
   · have e1 : (x == 0) = true := by simp [c1]
     go_wp2
     go_roundw
     case rel => exact ⟨1, by omega, by go_num, by first | trivial | exact fun _ => c1, by first | trivial | exact fun h => absurd h (by omega), by first | rfl | trivial⟩
     case measure => simp [intOf]
   · have e1 : (x == 0) = false := by simp [c1]
     have e2 : orI x y = x := by simp [orI, c1]
     go_wp2
     go_ret
     exact ⟨by rw [e2]; rfl, rfl⟩
  | 1, _ =>
   have cx := hz (by omega)
   have e2 : orI x y = y := by simp [orI, cx]
   by_cases c1 : y = 0
   · have e1 : (y == 0) = true := by simp [c1]
     go_wp2
     go_roundw
     case rel => exact ⟨2, by omega, by go_num, fun _ => cx, fun _ => c1, by first | rfl | trivial⟩
     case measure => simp [intOf]
   · have e1 : (y == 0) = false := by simp [c1]
     go_wp2
     go_ret
     exact ⟨by rw [e2]; rfl, rfl⟩
  | 2, _ =>
   have cx := hz (by omega)
   have cy := hy (by omega)
   have e2 : orI x y = 0 := by simp [orI, cx, cy]
   go_wp2
   go_ret
   exact ⟨by rw [e2]; rfl, rfl⟩
theorem new_cell {w : World} {cs : Array Value} {t : TypeId} {n i : Nat} {v : Value} (h : cs[i]? = some v) (hn : n = w.heap.size) : (w.alloc (.cells cs t)).drew.cell? ⟨n, i, none⟩ = some v := by
 show (w.alloc (.cells cs t)).cell? ⟨n, i, none⟩ = some v
 rw [World.cell?_alloc_at _ _ _ _ hn]; exact h
def Adds (w w' : World) : Prop := ∃ q os, w' = grow (w.drewN q) os
set_option maxHeartbeats 4000000 in
theorem order_any (x y : It) (w : World) : Calls Tryz.prog 133 #[.agg #[.int .i64 x.id, .int .i64 x.w, .int .i64 x.s], .agg #[.int .i64 y.id, .int .i64 y.w, .int .i64 y.s]] w fun e w' => e = .returned (.int .i64 (ordI x y)) ∧ Adds w w' := by
 have e3 : ordI x y = orI (cmpI x.w y.w) (cmpI x.s y.s) := rfl
 rw [e3]
 obtain ⟨a, b, c⟩ := x
 obtain ⟨a', b', c'⟩ := y
 dsimp only
 have h1 := fun W => cmp_any b b' W
 have h2 := fun W => cmp_any c c' W
 generalize cmpI b b' = r1 at *
 generalize cmpI c c' = r2 at *
 go_enter Tryz.func133, Tryz.ntmps133
 go_wp2_with fail
 have KP : Hid (∀ v, Below (w.heap.size + 2) ((w.alloc (.cells #[.int .i64 a, .int .i64 b, .int .i64 c] 203)).alloc (.cells #[.int .i64 a', .int .i64 b', .int .i64 c'] 203)) v → v.cell? ⟨w.heap.size, 1, none⟩ = some (.int .i64 b) ∧ v.cell? ⟨w.heap.size + 1, 1, none⟩ = some (.int .i64 b') ∧ v.cell? ⟨w.heap.size, 2, none⟩ = some (.int .i64 c) ∧ v.cell? ⟨w.heap.size + 1, 2, none⟩ = some (.int .i64 c')) := fun v hb => by
  refine ⟨?_, ?_, ?_, ?_⟩
  · rw [cell_blk (hb.block _ (by omega))]; simp
  · rw [cell_blk (hb.block _ (by omega))]; simp
  · rw [cell_blk (hb.block _ (by omega))]; simp
  · rw [cell_blk (hb.block _ (by omega))]; simp
 go_region_held3 (fun w' => w'.cell? ⟨w.heap.size, 1, none⟩ = some (.int .i64 b) ∧ w'.cell? ⟨w.heap.size + 1, 1, none⟩ = some (.int .i64 b') ∧ w'.cell? ⟨w.heap.size, 2, none⟩ = some (.int .i64 c) ∧ w'.cell? ⟨w.heap.size + 1, 2, none⟩ = some (.int .i64 c'))
  (first | (refine KP.out _ ?_; repeat' (first | exact Below.refl _ _ | (with_reducible assumption) | refine Below.drew ?_ | refine Below.alloc ?_ (by first | omega | (simp <;> omega)) _)))
  (first
  | (go_at_call 141; (with_reducible refine (h1 _).mono ?_); rintro e w' ⟨rfl, rfl⟩)
  | (go_at_call 141; (with_reducible refine (h2 _).mono ?_); rintro e w' ⟨rfl, rfl⟩)
  | (go_at_call 140; go_loud (refine (or_any r1 r2 _ _ _ (new_cell rfl (by simp)) (new_cell rfl (by simp))).mono ?_; rintro e w' ⟨rfl, rfl⟩)))
 all_goals go_wp2_with fail
 all_goals go_ret
 all_goals exact ⟨rfl, 1, _, by rw [alloc_eq_grow, alloc_eq_grow, alloc_eq_grow, grow_grow, grow_grow]; rfl⟩
theorem Adds.below {w w' : World} (h : Adds w w') : Below w.heap.size w w' := by
 obtain ⟨q, os, rfl⟩ := h
 refine ⟨rfl, rfl, rfl, ?_, fun k hk => ?_⟩
 · show w.heap.size ≤ (w.heap ++ os).size
   rw [Array.size_append]; omega
 · show (w.heap ++ os)[k]? = w.heap[k]?
   exact Array.getElem?_append_left hk
theorem order_bel (x y : It) (w : World) : Calls Tryz.prog 133 #[.agg #[.int .i64 x.id, .int .i64 x.w, .int .i64 x.s], .agg #[.int .i64 y.id, .int .i64 y.w, .int .i64 y.s]] w fun e w' => e = .returned (.int .i64 (ordI x y)) ∧ Below w.heap.size w w' :=
 (order_any x y w).mono fun _ _ h => ⟨h.1, h.2.below⟩
end Go.Proofs.YtdpapnfjpefhkaaGreat
namespace Go.Proofs.YtdpapnfjpefhkaaGreat
open Go.RowKit
set_option linter.unusedVariables false
set_option maxRecDepth 100000
def NewR (w : World) (e : Ending) (w' : World) : Prop := e = .returned (.pointer (some ⟨w.heap.size + 1, 0, none⟩)) ∧ (∀ B, B ≤ w.heap.size → HG B w' (w.heap.size + 1) w.heap.size none 0 []) ∧ Below w.heap.size w w'
theorem new_at (w : World) : NewR w (.returned (.pointer (some ⟨w.heap.size + 1, 0, none⟩))) ((w.alloc (.map #[] 0)).alloc (.cells #[.slice none 0 0, .map (some w.heap.size), .int .i64 0] 228)) :=
 ⟨rfl, fun B hB => ⟨none, 0, [], fun _ => 0, rfl, HB.new w hB _, fun p x h => by simp at h, hp_nil, List.Perm.refl _⟩, (below_al w _).alloc (by simp) _⟩
theorem len_nil (w : World) : Calls Tryz.prog 102 #[.pointer none] w fun e w' => e = .returned (.int .i64 0) ∧ w = w' := by
 go_enter Tryz.func102, Tryz.ntmps102
 go_wp2
 go_ret
 exact ⟨rfl, rfl⟩
theorem place_nil (k : Int) (w : World) : Calls Tryz.prog 121 #[.pointer none, .int .i64 k] w fun e w' => e = .returned (.tuple #[.int .i64 0, .bool false]) ∧ w = w' := by
 go_enter Tryz.func121, Tryz.ntmps121
 go_wp2
 go_ret2
 exact ⟨rfl, rfl⟩
theorem above_any (i : Nat) (w : World) (h0 : 0 < i) (hi : i ≤ 1000) : Calls Tryz.prog 134 #[.int .i64 i] w fun e w' => e = .returned (.int .i64 (((i - 1) / 4 : Nat) : Int)) ∧ w = w' := by
 have b1 : IntKind.i64.wrap ((i : Int) - 1) = (i : Int) - 1 := by rw [IntKind.wrap_i64]; omega
 have b2 : IntKind.i64.wrap (((i : Int) - 1).tdiv 4) = (((i - 1) / 4 : Nat) : Int) := by
  rw [show (i : Int) - 1 = ((i - 1 : Nat) : Int) by omega, IntKind.wrap_i64]
  have : ((i - 1 : Nat) : Int).tdiv 4 = (((i - 1) / 4 : Nat) : Int) := by
   rw [Int.tdiv_eq_ediv_of_nonneg (by omega)]; omega
  rw [this]; omega
 go_enter Tryz.func134, Tryz.ntmps134
 go_wp2
 go_ret
 exact ⟨by first | rfl | (simp; omega), rfl⟩
section
variable {B o b c n : Nat} {P : Option Addr} {m : List It} {K : List Int} {f : Int → Int}
theorem len_any (w : World) (h : HB B w o b P c n m K f) : Calls Tryz.prog 102 #[.pointer (some ⟨o, 0, none⟩)] w fun e w' => e = .returned (.int .i64 (m.length : Int)) ∧ w = w' := by
 have h0 := h.c0
 clear h
 go_enter Tryz.func102, Tryz.ntmps102
 go_wp2
 go_ret
 exact ⟨rfl, rfl⟩
theorem place_any (k : Int) (w : World) (h : HB B w o b P c n m K f) (hk : Wf k) : Calls Tryz.prog 121 #[.pointer (some ⟨o, 0, none⟩), .int .i64 k] w fun e w' => (∃ v, e = .returned (.tuple #[.int .i64 v, .bool (decide (k ∈ K))]) ∧ (k ∈ K → v = f k)) ∧ w = w' := by
 obtain ⟨v, hrun, hv⟩ : ∃ v, (Instr.lookup 142 (.map (some b)) (.int .i64 k) true).run Tryz.prog w = .ok (.tuple #[.int .i64 v, .bool (decide (k ∈ K))]) w ∧ (k ∈ K → v = f k) := by
  obtain ⟨D, h1, h2, h3, h4⟩ := h.tm
  obtain ⟨v, ps, hrun, hv⟩ := h1.look_ok law Tryz.underlying142 (zeroI w) (elI (wf_of (by omega) (by omega))) (keyI hk)
  obtain ⟨cc, rfl, _, e2⟩ := plainElem_int_inv Tryz.underlying3 hv
  rw [h3] at hrun
  refine ⟨cc, hrun, fun hm => ?_⟩
  rename_i e3
  have e4 := congrArg Prod.fst e3
  have e5 : dL (f k) = dL cc := (h4 k hm).symm.trans e4
  exact (dL_inj e5).symm
 have h1 := h.c1
 clear h
 generalize decide (k ∈ K) = d at *
 go_enter Tryz.func121, Tryz.ntmps121
 go_wp2
 go_ret2
 exact ⟨⟨v, rfl, hv⟩, rfl⟩
set_option maxHeartbeats 2000000 in
theorem put_any (i : Nat) (x : It) (w : World) (h : HB B w o b P c n m K f) (hi : i < m.length) (hx : Wf x.id) (hl : m.length ≤ 1000) (hK : K.length ≤ 1000) :
  Calls Tryz.prog 142 #[.pointer (some ⟨o, 0, none⟩), .int .i64 i, .agg #[.int .i64 x.id, .int .i64 x.w, .int .i64 x.s]] w fun e w' => e = .returned (.tuple #[]) ∧ HB B w' o b P c n (m.set i x) (if x.id ∈ K then K else K ++ [x.id]) (fput f x.id i) ∧ Chg o b (blk P) (blk P) w w' := by
 obtain ⟨g, rfl, hc⟩ := row_form h.own (by omega)
 have hc0 := h.c0
 have hc1 := h.c1
 have ho := h.lo
 have hg := (row_lt h.own (k := g) rfl).2
 have hf0 := h.own.frozenAt (i * 3)
 have hf1 := h.own.frozenAt (i * 3 + 1)
 have hf2 := h.own.frozenAt (i * 3 + 2)
 obtain ⟨y, hy⟩ := ex_at hi
 obtain ⟨g', e', d0, d1, d2⟩ := h.at hy
 obtain rfl : g' = g := by injection e' with e'; injection e' with e'; exact e'.symm
 have HA := Lib.hid h
 clear h hy e'
 obtain ⟨ws, hws⟩ : ∃ ws, ws = ((w.setCell ⟨g', i * 3, none⟩ (.int .i64 x.id)).setCell ⟨g', i * 3 + 1, none⟩ (.int .i64 x.w)).setCell ⟨g', i * 3 + 2, none⟩ (.int .i64 x.s) := ⟨_, rfl⟩
 have A0 : HB B ws o b (some ⟨g', 0, none⟩) c n (m.set i x) K f ∧ Chg o b (some g') (some g') w ws := by rw [hws]; exact HA.out.stored hi x hx
 have sz : ws.heap.size = w.heap.size := by rw [hws]; simp
 obtain ⟨w1, hw1⟩ : ∃ w1, w1 = (ws.alloc (.cells #[.int .i64 x.id, .int .i64 x.w, .int .i64 x.s] 203)).drew := ⟨_, rfl⟩
 have A1 : HB B w1 o b (some ⟨g', 0, none⟩) c n (m.set i x) K f ∧ Chg o b (some g') (some g') w w1 := by
  rw [hw1]
  exact ⟨A0.1.later (below_al ws _).drew, A0.2.trans (Chg.of_below _ (below_al ws _).drew)⟩
 have k0 : w1.cell? ⟨w.heap.size, 0, none⟩ = some (.int .i64 x.id) := by rw [hw1]; exact new_cell rfl sz.symm
 obtain ⟨w2, hrun, ht, tm⟩ := (A1.1.tm.keep (w' := w1.drew) rfl).store hx (v := (i : Int)) (wf_of (by omega) (by omega)) (by unfold maxLen; omega)
 have A2 := (A1.1.drewN 1).mapped ht tm
 have HR := Lib.hid (And.intro A2.1 ((A1.2.trans (Chg.of_below _ (below_drewN w1 1))).trans A2.2))
 have c1 := A1.1.c1
 clear A0 A1 A2 ht tm hc
 go_enter Tryz.func142, Tryz.ntmps142
 go_wp2_with fail
 go_region
 rw [← hws, ← hw1]
 clear hw1 hws d0 d1 d2 hf0 hf1 hf2 hc0 hc1
 go_wp2_with fail
 go_region
 go_end0
 exact ⟨rfl, HR.out⟩
end
end Go.Proofs.YtdpapnfjpefhkaaGreat
