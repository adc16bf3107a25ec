/- What anew and firstBelow of package heap answer. Conditions: each theorem's own premises. -/
import Derived.Test.YtmadcnpkaijllaaOps
import Derived.Laws.ResultCell
import Derived.Deep.RegionHeld3
namespace Go.Proofs.Ytmadcnpkaijllaa
open Go.RowKit
set_option linter.unusedVariables false
set_option maxRecDepth 100000
section
variable {B o b c n : Nat} {P : Option Addr} {m : List It} {K : List Int} {f : Int → Int}
set_option maxHeartbeats 1000000 in
theorem anew_any (k t : Int) (w : World) (h : HB B w o b P c n m K f) (hn : n ≤ 1000000) :
    Calls Try.prog 76 #[.pointer (some ⟨o, 0, none⟩), .int .i64 k, .int .i64 t] w fun e w' => e = .returned (.agg #[.int .i64 k, .int .i64 t, .int .i64 ((n : Int) + 1)]) ∧ HB B w' o b P c (n + 1) m K f ∧ Chg o b (blk P) (blk P) w w' := by
  have ho := h.lo
  have c2 := h.c2
  have f2 := h.fo 2
  have b1 : IntKind.i64.wrap ((n : Int) + 1) = (n : Int) + 1 := by rw [IntKind.wrap_i64]; omega
  have HR := Lib.hid (h.turned (n + 1))
  clear h
  go_enter Try.func76, Try.ntmps76
  go_wp2_with fail
  refine bodyPost_ret (v := .agg #[.int .i64 k, .int .i64 t, .int .i64 ((n : Int) + 1)]) ?_ rfl ⟨rfl, ?_⟩
  · rw [results_cell_row rfl _ _ w.heap.size 106 #[.int .i64 k, .int .i64 t, .int .i64 ((n : Int) + 1)] (0, 0) _ rfl (by rw [← World.size_setCell (w := w)]; exact heap_alloc_new _ _) Try.underlying106 rfl (by kernel_rfl)]
  · rw [show (n : Int) + 1 = ((n + 1 : Nat) : Int) by omega]
    exact ⟨HR.out.1.later (below_al _ _), HR.out.2.trans (Chg.of_below _ (below_al _ _))⟩
/-- None below a place. -/
theorem first_none (p : Nat) (w : World) (h : HB B w o b P c n m K f) (hl : m.length ≤ 4 * p + 1) (hp : p ≤ 1000) : Calls Try.prog 85 #[.pointer (some ⟨o, 0, none⟩), .int .i64 p] w fun e w' => e = .returned (.tuple #[.int .i64 0, .bool false]) ∧ w = w' := by
  have c0 := h.c0
  have b1 : IntKind.i64.wrap (4 * (p : Int)) = 4 * (p : Int) := by rw [IntKind.wrap_i64]; omega
  have b2 : IntKind.i64.wrap (4 * (p : Int) + 1) = 4 * (p : Int) + 1 := by rw [IntKind.wrap_i64]; omega
  have b3 : IntKind.i64.wrap (4 * (p : Int) + 1 + 4) = 4 * (p : Int) + 5 := by rw [IntKind.wrap_i64]; omega
  have q1 : (m.length : Int) ≤ 4 * (p : Int) + 1 := by omega
  clear h
  go_enter Try.func85, Try.ntmps85
  go_wp2_with fail
  go_ret2
  exact ⟨rfl, rfl⟩
/-- The one that is ahead of the others of those from .. to .. -/
def Fs (m : List It) (a k j : Nat) : Prop := ∃ y, m[j]? = some y ∧ ∀ c, a ≤ c → c < k → ∀ v, m[c]? = some v → y.le v
theorem Fs.one {m : List It} {a : Nat} (h : a < m.length) : Fs m a (a + 1) a := by
  obtain ⟨y, hy⟩ := ex_at h
  refine ⟨y, hy, fun c h1 h2 v hv => ?_⟩
  obtain rfl : c = a := by omega
  rw [hy] at hv; injection hv with hv; subst hv; exact y.le_refl
theorem Fs.new {m : List It} {a k j : Nat} {x y : It} (h : Fs m a k j) (hx : m[k]? = some x) (hy : m[j]? = some y) (e : x.lt y) : Fs m a (k + 1) k := by
  obtain ⟨y', h1, h2⟩ := h
  rw [hy] at h1; injection h1 with h1; subst h1
  refine ⟨x, hx, fun c h3 h4 v hv => ?_⟩
  by_cases e2 : c = k
  · subst e2; rw [hx] at hv; injection hv with hv; subst hv; exact x.le_refl
  · exact It.le_trans (It.le_of_lt e) (h2 c h3 (by omega) v hv)
theorem Fs.old {m : List It} {a k j : Nat} {x y : It} (h : Fs m a k j) (hx : m[k]? = some x) (hy : m[j]? = some y) (e : ¬ x.lt y) : Fs m a (k + 1) j := by
  obtain ⟨y', h1, h2⟩ := h
  rw [hy] at h1; injection h1 with h1; subst h1
  refine ⟨y, hy, fun c h3 h4 v hv => ?_⟩
  by_cases e2 : c = k
  · subst e2; rw [hx] at hv; injection hv with hv; subst hv; exact It.le_of_not e
  · exact h2 c h3 (by omega) v hv
/-- Some below a place: the one ahead of the others. -/
def FstR (m : List It) (p : Nat) (w : World) (e : Ending) (w' : World) : Prop :=
  ∃ (j : Nat) (y : It), e = .returned (.tuple #[.int .i64 (j : Int), .bool true]) ∧ 0 < j ∧ (j - 1) / 4 = p ∧ m[j]? = some y ∧ (∀ c, 0 < c → c < m.length → (c - 1) / 4 = p → ∀ v, m[c]? = some v → y.le v) ∧ Below w.heap.size w w'
theorem Fs.done {w w' : World} {m : List It} {p t j : Nat} (h : Fs m (4 * p + 1) t j) (h1 : 4 * p + 1 ≤ j) (h2 : j < t) (ht : t ≤ 4 * p + 5) (h3 : 4 * p + 5 ≤ t ∨ m.length ≤ t) (hb : Below w.heap.size w w') : FstR m p w (.returned (.tuple #[.int .i64 (j : Int), .bool true])) w' := by
  obtain ⟨y, hy, hm⟩ := h
  refine ⟨j, y, rfl, by omega, by omega, hy, fun c c1 c2 c3 v hv => hm c (by omega) (by omega) v hv, hb⟩
set_option maxHeartbeats 4000000 in
theorem first_some (p : Nat) (w : World) (h : HB B w o b P c n m K f) (hl : 4 * p + 1 < m.length) (hm : m.length ≤ 1000) : Calls Try.prog 85 #[.pointer (some ⟨o, 0, none⟩), .int .i64 p] w (FstR m p w) := by
  have c0 := h.c0
  have b1 : IntKind.i64.wrap (4 * (p : Int)) = 4 * (p : Int) := by rw [IntKind.wrap_i64]; omega
  have b2 : IntKind.i64.wrap (4 * (p : Int) + 1) = 4 * (p : Int) + 1 := by rw [IntKind.wrap_i64]; omega
  have b3 : IntKind.i64.wrap (4 * (p : Int) + 1 + 4) = 4 * (p : Int) + 5 := by rw [IntKind.wrap_i64]; omega
  have b4 : IntKind.i64.wrap (4 * (p : Int) + 1 + 1) = 4 * (p : Int) + 2 := by rw [IntKind.wrap_i64]; omega
  have HA := Lib.hid h
  clear h
  by_cases hc : m.length < 4 * p + 5
  · have q2 : (m.length : Int) < 4 * (p : Int) + 5 := by omega
    have q1 : ¬ (m.length : Int) ≤ 4 * (p : Int) + 1 := by omega
    go_enter Try.func85, Try.ntmps85
    go_wp2_with fail
    go_loopw [8, 9] (fun u v wr => ∃ j k : Nat, 4 * p + 1 ≤ j ∧ j < k ∧ k ≤ m.length ∧ u = .int .i64 j ∧ v = .int .i64 k ∧ Fs m (4 * p + 1) k j ∧ Hid (Below w.heap.size w wr)) (fun _ v _ => m.length - (intOf v).toNat)
    case atStart => exact ⟨4 * p + 1, 4 * p + 2, by omega, by omega, by omega, by go_num, by go_num, Fs.one hl, Below.refl _ _⟩
    case round =>
      obtain ⟨j, k, h1, h2, h3, rfl, rfl, hF, HK⟩ := hrel
      by_cases hlt : k < m.length
      · have hlc : (k : Int) < (m.length : Int) := by omega
        have A := HA.out.later HK.out
        obtain ⟨x, hx⟩ := ex_at (l := m) (p := k) (by omega)
        obtain ⟨y, hy⟩ := ex_at (l := m) (p := j) (by omega)
        obtain ⟨g, rfl, x0, x1, x2⟩ := A.at hx
        obtain ⟨g', e', y0, y1, y2⟩ := A.at hy
        obtain rfl : g' = g := by injection e' with e'; injection e' with e'; exact e'.symm
        have a0 := A.c0
        have s1 : IntKind.i64.wrap ((k : Int) + 1) = (k : Int) + 1 := by rw [IntKind.wrap_i64]; omega
        have hkl : k < m.length := by omega
        have hjl : j < m.length := by omega
        clear A e' b1 b2 b3 b4 c0
        go_wp2_with fail
        go_still_tail 14, (by kernel_rfl)
        change wpList _ _ _ _ _ wr.drew
        have HK2 : Hid (Below w.heap.size w wr.drew) := HK.out.drew
        generalize wr.drew = wq at *
        have HF := Lib.hid hF
        have HX := Lib.hid hx
        have HY := Lib.hid hy
        clear HK hF hx hy x0 x1 x2 y0 y1 y2 a0
        go_wp2_with fail
        refine (order_bel x y wq).mono ?_
        rintro e w3 ⟨rfl, hb3⟩
        have HK3 : Hid (Below w.heap.size w w3) := HK2.out.trans (hb3.mono HK2.out.size)
        by_cases hxy : x.lt y
        · have hq := (ord_neg x y).2 hxy
          have HN := Lib.hid (Fs.new HF.out HX.out HY.out hxy)
          generalize ordI x y = r at *
          clear HK2 hb3 HF HX HY hxy
          go_wp2_with fail
          go_roundw
          case rel => exact ⟨k, k + 1, by omega, by omega, by omega, rfl, by go_num, HN.out, HK3⟩
          case measure => simp [intOf]; omega
        · have hq : ¬ ordI x y < 0 := fun e => hxy ((ord_neg x y).1 e)
          have HN := Lib.hid (Fs.old HF.out HX.out HY.out hxy)
          generalize ordI x y = r at *
          clear HK2 hb3 HF HX HY hxy
          go_wp2_with fail
          go_roundw
          case rel => exact ⟨j, k + 1, by omega, by omega, by omega, rfl, by go_num, HN.out, HK3⟩
          case measure => simp [intOf]; omega
      · obtain rfl : k = m.length := by omega
        have hlc : ¬ ((m.length : Int)) < (m.length : Int) := by omega
        have HD := Lib.hid (Fs.done hF h1 h2 (by omega) (by omega) HK.out)
        clear HK hF HA
        go_wp2_with fail
        go_ret2
        exact HD.out
  · have q2 : ¬ (m.length : Int) < 4 * (p : Int) + 5 := by omega
    have q1 : ¬ 4 * (p : Int) + 5 ≤ 4 * (p : Int) + 1 := by omega
    go_enter Try.func85, Try.ntmps85
    go_wp2_with fail
    go_loopw [8, 9] (fun u v wr => ∃ j k : Nat, 4 * p + 1 ≤ j ∧ j < k ∧ k ≤ 4 * p + 5 ∧ u = .int .i64 j ∧ v = .int .i64 k ∧ Fs m (4 * p + 1) k j ∧ Hid (Below w.heap.size w wr)) (fun _ v _ => 4 * p + 5 - (intOf v).toNat)
    case atStart => exact ⟨4 * p + 1, 4 * p + 2, by omega, by omega, by omega, by go_num, by go_num, Fs.one hl, Below.refl _ _⟩
    case round =>
      obtain ⟨j, k, h1, h2, h3, rfl, rfl, hF, HK⟩ := hrel
      by_cases hlt : k < 4 * p + 5
      · have hlc : (k : Int) < 4 * (p : Int) + 5 := by omega
        have A := HA.out.later HK.out
        obtain ⟨x, hx⟩ := ex_at (l := m) (p := k) (by omega)
        obtain ⟨y, hy⟩ := ex_at (l := m) (p := j) (by omega)
        obtain ⟨g, rfl, x0, x1, x2⟩ := A.at hx
        obtain ⟨g', e', y0, y1, y2⟩ := A.at hy
        obtain rfl : g' = g := by injection e' with e'; injection e' with e'; exact e'.symm
        have a0 := A.c0
        have s1 : IntKind.i64.wrap ((k : Int) + 1) = (k : Int) + 1 := by rw [IntKind.wrap_i64]; omega
        have hkl : k < m.length := by omega
        have hjl : j < m.length := by omega
        clear A e' b1 b2 b3 b4 c0
        go_wp2_with fail
        go_still_tail 14, (by kernel_rfl)
        change wpList _ _ _ _ _ wr.drew
        have HK2 : Hid (Below w.heap.size w wr.drew) := HK.out.drew
        generalize wr.drew = wq at *
        have HF := Lib.hid hF
        have HX := Lib.hid hx
        have HY := Lib.hid hy
        clear HK hF hx hy x0 x1 x2 y0 y1 y2 a0
        go_wp2_with fail
        refine (order_bel x y wq).mono ?_
        rintro e w3 ⟨rfl, hb3⟩
        have HK3 : Hid (Below w.heap.size w w3) := HK2.out.trans (hb3.mono HK2.out.size)
        by_cases hxy : x.lt y
        · have hq := (ord_neg x y).2 hxy
          have HN := Lib.hid (Fs.new HF.out HX.out HY.out hxy)
          generalize ordI x y = r at *
          clear HK2 hb3 HF HX HY hxy
          go_wp2_with fail
          go_roundw
          case rel => exact ⟨k, k + 1, by omega, by omega, by omega, rfl, by go_num, HN.out, HK3⟩
          case measure => simp [intOf]; omega
        · have hq : ¬ ordI x y < 0 := fun e => hxy ((ord_neg x y).1 e)
          have HN := Lib.hid (Fs.old HF.out HX.out HY.out hxy)
          generalize ordI x y = r at *
          clear HK2 hb3 HF HX HY hxy
          go_wp2_with fail
          go_roundw
          case rel => exact ⟨j, k + 1, by omega, by omega, by omega, rfl, by go_num, HN.out, HK3⟩
          case measure => simp [intOf]; omega
      · obtain rfl : k = 4 * p + 5 := by omega
        have hlc : ¬ (4 * (p : Int) + 5) < 4 * (p : Int) + 5 := by omega
        have HD := Lib.hid (Fs.done hF h1 h2 (by omega) (by omega) HK.out)
        clear HK hF HA
        go_wp2_with fail
        go_ret2
        exact HD.out
end
end Go.Proofs.Ytmadcnpkaijllaa
