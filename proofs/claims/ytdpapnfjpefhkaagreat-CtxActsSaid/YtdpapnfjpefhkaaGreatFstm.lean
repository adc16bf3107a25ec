/- What anew and firstBelow of package heap answer. Conditions: each theorem's own premises.
What rise of package heap does. Conditions: each theorem's own premises.
What sink and settle of package heap do. Conditions: each theorem's own premises.
What settle of package heap does. Conditions: each theorem's own premises.
What Len, Find and Min of package heap answer. Conditions: each theorem's own premises.
What Add and Move of package heap do. Conditions: each theorem's own premises. -/
import Derived.Test.YtdpapnfjpefhkaaGreatOrdm
import Derived.Laws.ResultCell
import Derived.Deep.RegionHeld3
namespace Go.Proofs.YtdpapnfjpefhkaaGreat
open Go.RowKit
set_option linter.unusedVariables false
set_option maxRecDepth 100000
section
variable {B o b c n : Nat} {P : Option Addr} {m : List It} {K : List Int} {f : Int → Int}
set_option maxHeartbeats 1000000 in
theorem anew_any (k t : Int) (w : World) (h : HB B w o b P c n m K f) (hn : n ≤ 1000000) :
  Calls Tryz.prog 123 #[.pointer (some ⟨o, 0, none⟩), .int .i64 k, .int .i64 t] w fun e w' => e = .returned (.agg #[.int .i64 k, .int .i64 t, .int .i64 ((n : Int) + 1)]) ∧ HB B w' o b P c (n + 1) m K f ∧ Chg o b (blk P) (blk P) w w' := by
 have ho := h.lo
 have c2 := h.c2
 have f2 := h.fo 2
 have b1 : IntKind.i64.wrap ((n : Int) + 1) = (n : Int) + 1 := by rw [IntKind.wrap_i64]; omega
 have HR := Lib.hid (h.turned (n + 1))
 clear h
 go_enter Tryz.func123, Tryz.ntmps123
 go_wp2_with fail
 refine bodyPost_ret (v := .agg #[.int .i64 k, .int .i64 t, .int .i64 ((n : Int) + 1)]) ?_ rfl ⟨rfl, ?_⟩
 · rw [results_cell_row rfl _ _ w.heap.size 203 #[.int .i64 k, .int .i64 t, .int .i64 ((n : Int) + 1)] (0, 0) _ rfl (by rw [← World.size_setCell (w := w)]; exact heap_alloc_new _ _) Tryz.underlying203 rfl (by kernel_rfl)]
 · rw [show (n : Int) + 1 = ((n + 1 : Nat) : Int) by omega]
   exact ⟨HR.out.1.later (below_al _ _), HR.out.2.trans (Chg.of_below _ (below_al _ _))⟩
theorem first_none (p : Nat) (w : World) (h : HB B w o b P c n m K f) (hl : m.length ≤ 4 * p + 1) (hp : p ≤ 1000) : Calls Tryz.prog 143 #[.pointer (some ⟨o, 0, none⟩), .int .i64 p] w fun e w' => e = .returned (.tuple #[.int .i64 0, .bool false]) ∧ w = w' := by
 have c0 := h.c0
 have b1 : IntKind.i64.wrap (4 * (p : Int)) = 4 * (p : Int) := by rw [IntKind.wrap_i64]; omega
 have b2 : IntKind.i64.wrap (4 * (p : Int) + 1) = 4 * (p : Int) + 1 := by rw [IntKind.wrap_i64]; omega
 have b3 : IntKind.i64.wrap (4 * (p : Int) + 1 + 4) = 4 * (p : Int) + 5 := by rw [IntKind.wrap_i64]; omega
 have q1 : (m.length : Int) ≤ 4 * (p : Int) + 1 := by omega
 clear h
 go_enter Tryz.func143, Tryz.ntmps143
 go_wp2_with fail
 go_ret2
 exact ⟨rfl, rfl⟩
def Fs (m : List It) (a k j : Nat) : Prop := ∃ y, m[j]? = some y ∧ ∀ c, a ≤ c → c < k → ∀ v, m[c]? = some v → y.le v
theorem Fs.one {m : List It} {a : Nat} (h : a < m.length) : Fs m a (a + 1) a := by
 obtain ⟨y, hy⟩ := ex_at h
 refine ⟨y, hy, fun c h1 h2 v hv => ?_⟩
 obtain rfl : c = a := by omega
 rw [hy] at hv; injection hv with hv; subst hv; exact y.le_refl
theorem Fs.new {m : List It} {a k j : Nat} {x y : It} (h : Fs m a k j) (hx : m[k]? = some x) (hy : m[j]? = some y) (e : x.lt y) : Fs m a (k + 1) k := by
 obtain ⟨y', h1, h2⟩ := h
 rw [hy] at h1; injection h1 with h1; subst h1
 refine ⟨x, hx, fun c h3 h4 v hv => ?_⟩
 by_cases e2 : c = k
 · subst e2; rw [hx] at hv; injection hv with hv; subst hv; exact x.le_refl
 · exact It.le_trans (It.le_of_lt e) (h2 c h3 (by omega) v hv)
theorem Fs.old {m : List It} {a k j : Nat} {x y : It} (h : Fs m a k j) (hx : m[k]? = some x) (hy : m[j]? = some y) (e : ¬ x.lt y) : Fs m a (k + 1) j := by
 obtain ⟨y', h1, h2⟩ := h
 rw [hy] at h1; injection h1 with h1; subst h1
 refine ⟨y, hy, fun c h3 h4 v hv => ?_⟩
 by_cases e2 : c = k
 · subst e2; rw [hx] at hv; injection hv with hv; subst hv; exact It.le_of_not e
 · exact h2 c h3 (by omega) v hv
def FstR (m : List It) (p : Nat) (w : World) (e : Ending) (w' : World) : Prop :=
 ∃ (j : Nat) (y : It), e = .returned (.tuple #[.int .i64 (j : Int), .bool true]) ∧ 0 < j ∧ (j - 1) / 4 = p ∧ m[j]? = some y ∧ (∀ c, 0 < c → c < m.length → (c - 1) / 4 = p → ∀ v, m[c]? = some v → y.le v) ∧ Below w.heap.size w w'
theorem Fs.done {w w' : World} {m : List It} {p t j : Nat} (h : Fs m (4 * p + 1) t j) (h1 : 4 * p + 1 ≤ j) (h2 : j < t) (ht : t ≤ 4 * p + 5) (h3 : 4 * p + 5 ≤ t ∨ m.length ≤ t) (hb : Below w.heap.size w w') : FstR m p w (.returned (.tuple #[.int .i64 (j : Int), .bool true])) w' := by
 obtain ⟨y, hy, hm⟩ := h
 refine ⟨j, y, rfl, by omega, by omega, hy, fun c c1 c2 c3 v hv => hm c (by omega) (by omega) v hv, hb⟩
set_option maxHeartbeats 4000000 in
theorem first_some (p : Nat) (w : World) (h : HB B w o b P c n m K f) (hl : 4 * p + 1 < m.length) (hm : m.length ≤ 1000) : Calls Tryz.prog 143 #[.pointer (some ⟨o, 0, none⟩), .int .i64 p] w (FstR m p w) := by
 have c0 := h.c0
 have b1 : IntKind.i64.wrap (4 * (p : Int)) = 4 * (p : Int) := by rw [IntKind.wrap_i64]; omega
 have b2 : IntKind.i64.wrap (4 * (p : Int) + 1) = 4 * (p : Int) + 1 := by rw [IntKind.wrap_i64]; omega
 have b3 : IntKind.i64.wrap (4 * (p : Int) + 1 + 4) = 4 * (p : Int) + 5 := by rw [IntKind.wrap_i64]; omega
 have b4 : IntKind.i64.wrap (4 * (p : Int) + 1 + 1) = 4 * (p : Int) + 2 := by rw [IntKind.wrap_i64]; omega
 have HA := Lib.hid h
 clear h
 by_cases hc : m.length < 4 * p + 5
 · have q2 : (m.length : Int) < 4 * (p : Int) + 5 := by omega
   have q1 : ¬ (m.length : Int) ≤ 4 * (p : Int) + 1 := by omega
   go_enter Tryz.func143, Tryz.ntmps143
   go_wp2_with fail
   go_loopw [8, 9] (fun u v wr => ∃ j k : Nat, 4 * p + 1 ≤ j ∧ j < k ∧ k ≤ m.length ∧ u = .int .i64 j ∧ v = .int .i64 k ∧ Fs m (4 * p + 1) k j ∧ Hid (Below w.heap.size w wr)) (fun _ v _ => m.length - (intOf v).toNat)
   case atStart => exact ⟨4 * p + 1, 4 * p + 2, by omega, by omega, by omega, by go_num, by go_num, Fs.one hl, Below.refl _ _⟩
   case round =>
    obtain ⟨j, k, h1, h2, h3, rfl, rfl, hF, HK⟩ := hrel
    by_cases hlt : k < m.length
    · have hlc : (k : Int) < (m.length : Int) := by omega
      have A := HA.out.later HK.out
      obtain ⟨x, hx⟩ := ex_at (l := m) (p := k) (by omega)
      obtain ⟨y, hy⟩ := ex_at (l := m) (p := j) (by omega)
      obtain ⟨g, rfl, x0, x1, x2⟩ := A.at hx
      obtain ⟨g', e', y0, y1, y2⟩ := A.at hy
      obtain rfl : g' = g := by injection e' with e'; injection e' with e'; exact e'.symm
      have a0 := A.c0
      have s1 : IntKind.i64.wrap ((k : Int) + 1) = (k : Int) + 1 := by rw [IntKind.wrap_i64]; omega
      have hkl : k < m.length := by omega
      have hjl : j < m.length := by omega
      clear A e' b1 b2 b3 b4 c0
      go_wp2_with fail
      go_still_tail 14, (by kernel_rfl)
      change wpList _ _ _ _ _ wr.drew
      have HK2 : Hid (Below w.heap.size w wr.drew) := HK.out.drew
      generalize wr.drew = wq at *
      have HF := Lib.hid hF
      have HX := Lib.hid hx
      have HY := Lib.hid hy
      clear HK hF hx hy x0 x1 x2 y0 y1 y2 a0
      go_wp2_with fail
      refine (order_bel x y wq).mono ?_
      rintro e w3 ⟨rfl, hb3⟩
      have HK3 : Hid (Below w.heap.size w w3) := HK2.out.trans (hb3.mono HK2.out.size)
      by_cases hxy : x.lt y
      · have hq := (ord_neg x y).2 hxy
        have HN := Lib.hid (Fs.new HF.out HX.out HY.out hxy)
        generalize ordI x y = r at *
        clear HK2 hb3 HF HX HY hxy
        go_wp2_with fail
        go_roundw
        case rel => exact ⟨k, k + 1, by omega, by omega, by omega, rfl, by go_num, HN.out, HK3⟩
        case measure => simp [intOf]; omega
      · have hq : ¬ ordI x y < 0 := fun e => hxy ((ord_neg x y).1 e)
        have HN := Lib.hid (Fs.old HF.out HX.out HY.out hxy)
        generalize ordI x y = r at *
        clear HK2 hb3 HF HX HY hxy
        go_wp2_with fail
        go_roundw
        case rel => exact ⟨j, k + 1, by omega, by omega, by omega, rfl, by go_num, HN.out, HK3⟩
        case measure => simp [intOf]; omega
    · obtain rfl : k = m.length := by omega
      have hlc : ¬ ((m.length : Int)) < (m.length : Int) := by omega
      have HD := Lib.hid (Fs.done hF h1 h2 (by omega) (by omega) HK.out)
      clear HK hF HA
      go_wp2_with fail
      go_ret2
      exact HD.out
 · have q2 : ¬ (m.length : Int) < 4 * (p : Int) + 5 := by omega
   have q1 : ¬ 4 * (p : Int) + 5 ≤ 4 * (p : Int) + 1 := by omega
   go_enter Tryz.func143, Tryz.ntmps143
   go_wp2_with fail
   go_loopw [8, 9] (fun u v wr => ∃ j k : Nat, 4 * p + 1 ≤ j ∧ j < k ∧ k ≤ 4 * p + 5 ∧ u = .int .i64 j ∧ v = .int .i64 k ∧ Fs m (4 * p + 1) k j ∧ Hid (Below w.heap.size w wr)) (fun _ v _ => 4 * p + 5 - (intOf v).toNat)
   case atStart => exact ⟨4 * p + 1, 4 * p + 2, by omega, by omega, by omega, by go_num, by go_num, Fs.one hl, Below.refl _ _⟩
   case round =>
    obtain ⟨j, k, h1, h2, h3, rfl, rfl, hF, HK⟩ := hrel
    by_cases hlt : k < 4 * p + 5
    · have hlc : (k : Int) < 4 * (p : Int) + 5 := by omega
      have A := HA.out.later HK.out
      obtain ⟨x, hx⟩ := ex_at (l := m) (p := k) (by omega)
      obtain ⟨y, hy⟩ := ex_at (l := m) (p := j) (by omega)
      obtain ⟨g, rfl, x0, x1, x2⟩ := A.at hx
      obtain ⟨g', e', y0, y1, y2⟩ := A.at hy
      obtain rfl : g' = g := by injection e' with e'; injection e' with e'; exact e'.symm
      have a0 := A.c0
      have s1 : IntKind.i64.wrap ((k : Int) + 1) = (k : Int) + 1 := by rw [IntKind.wrap_i64]; omega
      have hkl : k < m.length := by omega
      have hjl : j < m.length := by omega
      clear A e' b1 b2 b3 b4 c0
      go_wp2_with fail
      go_still_tail 14, (by kernel_rfl)
      change wpList _ _ _ _ _ wr.drew
      have HK2 : Hid (Below w.heap.size w wr.drew) := HK.out.drew
      generalize wr.drew = wq at *
      have HF := Lib.hid hF
      have HX := Lib.hid hx
      have HY := Lib.hid hy
      clear HK hF hx hy x0 x1 x2 y0 y1 y2 a0
      go_wp2_with fail
      refine (order_bel x y wq).mono ?_
      rintro e w3 ⟨rfl, hb3⟩
      have HK3 : Hid (Below w.heap.size w w3) := HK2.out.trans (hb3.mono HK2.out.size)
      by_cases hxy : x.lt y
      · have hq := (ord_neg x y).2 hxy
        have HN := Lib.hid (Fs.new HF.out HX.out HY.out hxy)
        generalize ordI x y = r at *
        clear HK2 hb3 HF HX HY hxy
        go_wp2_with fail
        go_roundw
        case rel => exact ⟨k, k + 1, by omega, by omega, by omega, rfl, by go_num, HN.out, HK3⟩
        case measure => simp [intOf]; omega
      · have hq : ¬ ordI x y < 0 := fun e => hxy ((ord_neg x y).1 e)
        have HN := Lib.hid (Fs.old HF.out HX.out HY.out hxy)
        generalize ordI x y = r at *
        clear HK2 hb3 HF HX HY hxy
        go_wp2_with fail
        go_roundw
        case rel => exact ⟨j, k + 1, by omega, by omega, by omega, rfl, by go_num, HN.out, HK3⟩
        case measure => simp [intOf]; omega
    · obtain rfl : k = 4 * p + 5 := by omega
      have hlc : ¬ (4 * (p : Int) + 5) < 4 * (p : Int) + 5 := by omega
      have HD := Lib.hid (Fs.done hF h1 h2 (by omega) (by omega) HK.out)
      clear HK hF HA
      go_wp2_with fail
      go_ret2
      exact HD.out
end
end Go.Proofs.YtdpapnfjpefhkaaGreat
namespace Go.Proofs.YtdpapnfjpefhkaaGreat
open Go.RowKit
set_option linter.unusedVariables false
set_option maxRecDepth 100000
def SetR (B o b : Nat) (P : Option Addr) (c n : Nat) (l0 : List It) (w : World) (e : Ending) (w' : World) : Prop :=
 e = .returned (.tuple #[]) ∧ ∃ m f, HB B w' o b P c n m (ids m) f ∧ Pl m f ∧ Hp m ∧ m.Perm l0 ∧ Chg o b (blk P) (blk P) w w'
structure Way (Q : List It → Nat → Prop) (B o b : Nat) (P : Option Addr) (c n : Nat) (K : List Int) (l0 : List It) (x : It) (w : World) (m : List It) (f : Int → Int) (i : Nat) (wr : World) : Prop where
 hb : HB B wr o b P c n m K f
 mid : Mid (ids l0) m i x K f
 hp : Q (m.set i x) i
 pm : (m.set i x).Perm l0
 ch : Chg o b (blk P) (blk P) w wr
def Box (w : World) (s : Nat) (x : It) : Prop := s < w.heap.size ∧ w.cell? ⟨s, 0, none⟩ = some (.int .i64 x.id) ∧ w.cell? ⟨s, 1, none⟩ = some (.int .i64 x.w) ∧ w.cell? ⟨s, 2, none⟩ = some (.int .i64 x.s)
section
variable {Q : List It → Nat → Prop} {B o b c n s : Nat} {P : Option Addr} {m : List It} {K : List Int} {f : Int → Int} {l0 : List It} {x y : It} {w w' wr : World} {i j : Nat}
theorem Box.keep (h : Box w s x) (hs : w.heap.size ≤ w'.heap.size) (e : w'.heap[s]? = w.heap[s]?) : Box w' s x := by
 unfold Box; rw [cell_blk e, cell_blk e, cell_blk e]; exact ⟨Nat.lt_of_lt_of_le h.1 hs, h.2⟩
theorem Box.later (h : Box w s x) (hb : Below w.heap.size w w') : Box w' s x := h.keep hb.size (hb.block _ h.1)
theorem Box.chg {p p' : Option Nat} (h : Box w s x) (hc : Chg o b p p' w w') (hn : o ≠ s ∧ b ≠ s ∧ p ≠ some s) : Box w' s x := h.keep hc.size (hc.block s h.1 (fun e => hn.1 e.symm) (fun e => hn.2.1 e.symm) hn.2.2)
theorem Box.new (w : World) (x : It) : Box (w.alloc (.cells #[.int .i64 x.id, .int .i64 x.w, .int .i64 x.s] 203)) w.heap.size x :=
 ⟨by simp, new_cell (w := w) rfl rfl, new_cell (w := w) rfl rfl, new_cell (w := w) rfl rfl⟩
theorem Way.klen (h : Way Q B o b P c n K l0 x w m f i wr) (hl : l0.length ≤ 1000) : m.length = l0.length ∧ K.length ≤ 1000 ∧ i < m.length := by
 have h1 := h.pm.length_eq
 have h2 := h.mid.len
 rw [List.length_set] at h1
 exact ⟨h1, by omega, h.mid.hi⟩
theorem Way.end (h : Way Q B o b P c n K l0 x w m f i wr) (hp : Hp (m.set i x)) (h1 : HB B w' o b P c n (m.set i x) (if x.id ∈ K then K else K ++ [x.id]) (fput f x.id i)) (h2 : Chg o b (blk P) (blk P) wr w') :
  SetR B o b P c n l0 w (.returned (.tuple #[])) w' :=
 ⟨rfl, _, _, h1.perm h.mid.last.1, h.mid.last.2, hp, h.pm, h.ch.trans h2⟩
theorem Way.step {Q' : List It → Nat → Prop} (h : Way Q B o b P c n K l0 x w m f i wr) (hj : j ≠ i) (hy : m[j]? = some y) (hq : Q' (sw (m.set i x) i j x y) j) (h1 : HB B w' o b P c n (m.set i y) (if y.id ∈ K then K else K ++ [y.id]) (fput f y.id i)) (h2 : Chg o b (blk P) (blk P) wr w') :
  Way Q' B o b P c n K l0 x w (m.set i y) (fput f y.id i) j w' := by
 obtain ⟨k1, k2⟩ := h.mid.step hj hy
 have hi := h.mid.hi
 have e1 : (m.set i y).set j x = sw (m.set i x) i j x y := by simp [sw]
 rw [if_pos k1] at h1
 refine ⟨h1, k2, by rw [e1]; exact hq, by rw [e1]; exact (sw_perm (by simp [hi]) (by rw [List.getElem?_set_ne (Ne.symm hj)]; exact hy)).trans h.pm, h.ch.trans h2⟩
theorem Way.later (h : Way Q B o b P c n K l0 x w m f i wr) (hb : Below wr.heap.size wr w') : Way Q B o b P c n K l0 x w m f i w' := ⟨h.hb.later hb, h.mid, h.hp, h.pm, h.ch.trans (Chg.of_below _ hb)⟩
theorem up_end (h : HpUp (m.set i x) i) (hi : i < m.length) (e : 0 < i → ∃ y, m[(i - 1) / 4]? = some y ∧ ¬ x.lt y) : Hp (m.set i x) := by
 refine hp_of_up h fun h0 => ?_
 obtain ⟨y, hy, hn⟩ := e h0
 exact edge_of (x := x) (y := y) (by simp [hi]) (by rw [List.getElem?_set_ne (by omega)]; exact hy) hn
theorem up_next (h : HpUp (m.set i x) i) (hi : i < m.length) (h0 : 0 < i) (hy : m[(i - 1) / 4]? = some y) (e : x.lt y) : HpUp (sw (m.set i x) i ((i - 1) / 4) x y) ((i - 1) / 4) :=
 up_step h h0 (by simp [hi]) (by rw [List.getElem?_set_ne (by omega)]; exact hy) e
theorem after_put {g : Nat} (h : HB B w' o b (some ⟨g, 0, none⟩) c n (m.set i x) K f) (hy : m[j]? = some y) (hj : j ≠ i) :
  w'.cell? ⟨o, 0, none⟩ = some (.slice (some ⟨g, 0, none⟩) m.length c) ∧ w'.cell? ⟨g, j * 3, none⟩ = some (.int .i64 y.id) ∧ w'.cell? ⟨g, j * 3 + 1, none⟩ = some (.int .i64 y.w) ∧ w'.cell? ⟨g, j * 3 + 2, none⟩ = some (.int .i64 y.s) := by
 obtain ⟨g', e', h1⟩ := h.at (j := j) (x := y) (by rw [List.getElem?_set_ne (Ne.symm hj)]; exact hy)
 obtain rfl : g' = g := by injection e' with e'; injection e' with e'; exact e'.symm
 have := h.c0
 rw [List.length_set] at this
 exact ⟨this, h1⟩
set_option maxHeartbeats 8000000 in
theorem rise_any (i : Nat) (x : It) (w : World) (h : Way HpUp B o b P c n K l0 x w m f i w) (hx : Wf x.id) (hl : l0.length ≤ 1000) :
  Calls Tryz.prog 135 #[.pointer (some ⟨o, 0, none⟩), .int .i64 i, .agg #[.int .i64 x.id, .int .i64 x.w, .int .i64 x.s]] w (SetR B o b P c n l0 w) := by
 have hB1 : Below w.heap.size w (w.alloc (.cells #[.int .i64 x.id, .int .i64 x.w, .int .i64 x.s] 203)) := below_al w _
 have H1 := Lib.hid (h.later hB1)
 have X1 : Hid (Box (w.alloc (.cells #[.int .i64 x.id, .int .i64 x.w, .int .i64 x.s] 203)) w.heap.size x) := Box.new w x
 have n1 : Hid (o ≠ w.heap.size ∧ b ≠ w.heap.size ∧ blk P ≠ some w.heap.size) := ⟨by have := h.hb.lo; omega, by have := h.hb.tm.lt; omega, fun e => by have := (row_lt h.hb.own e).2; omega⟩
 clear h hB1
 go_enter Tryz.func135, Tryz.ntmps135
 go_wp2_with fail
 go_loopw [1] (fun u wr => ∃ (i : Nat) (m : List It) (f : Int → Int), u = .int .i64 i ∧ Hid (Way HpUp B o b P c n K l0 x w m f i wr) ∧ Hid (Box wr w.heap.size x)) (fun u _ => (intOf u).toNat)
 case atStart => exact ⟨i, m, f, rfl, H1, X1⟩
 case round =>
  clear H1 X1
  obtain ⟨i, m, f, rfl, HW, HX⟩ := hrel
  obtain ⟨q1, q2, q3⟩ := HW.out.klen hl
  by_cases h0 : i = 0
  · subst h0
    have HE : Hid (Hp (m.set 0 x)) := up_end HW.out.hp q3 fun h => absurd h (by omega)
    have e9 : ((0 : Nat) : Int) = 0 := rfl
    rw [e9]
    go_wp2_with fail
    go_quiet (fail)
    have HW2 := Lib.hid (HW.out.later (below_drewN wr nq))
    have HX2 := Lib.hid (HX.out.later (below_drewN wr nq))
    generalize wr.drewN nq = w2 at *
    obtain ⟨xs, x0, x1, x2⟩ := HX2.out
    clear HW HX
    go_wp2_with fail
    refine (put_any 0 x w2 HW2.out.hb q3 hx (by omega) q2).mono ?_
    rintro e w3 ⟨rfl, r1, r2⟩
    have HR := Lib.hid (HW2.out.end HE.out r1 r2)
    clear r1 r2 HW2 HX2 HE x0 x1 x2
    go_wp2_with fail
    go_end0
    exact HR.out
  · have hj : (i - 1) / 4 < m.length := by omega
    have hji : (i - 1) / 4 < i := by omega
    obtain ⟨j, hjj⟩ : ∃ j, j = (i - 1) / 4 := ⟨_, rfl⟩
    rw [← hjj] at hj hji
    obtain ⟨y, hy⟩ := ex_at hj
    have HY := Lib.hid hy
    have hA := fun W => above_any i W (by omega) (by omega)
    rw [← hjj] at hA
    have HJ := Lib.hid hjj
    have HL := Lib.hid q1
    have q4 : m.length ≤ 1000 := by omega
    clear hjj q1
    obtain ⟨g, rfl, y0, y1, y2⟩ := HW.out.hb.at hy
    have hpos : (0 : Int) < (i : Int) := by omega
    have hpn : 0 < i := by omega
    have dpos : decide (0 < i) = true := decide_eq_true hpn
    obtain ⟨xs, x0, x1, x2⟩ := HX.out
    have a0 := HW.out.hb.c0
    have KP : Hid (∀ v, Below wr.heap.size wr v → v.cell? ⟨o, 0, none⟩ = some (.slice (some ⟨g, 0, none⟩) m.length c) ∧ v.cell? ⟨w.heap.size, 0, none⟩ = some (.int .i64 x.id) ∧ v.cell? ⟨w.heap.size, 1, none⟩ = some (.int .i64 x.w) ∧ v.cell? ⟨w.heap.size, 2, none⟩ = some (.int .i64 x.s) ∧ v.cell? ⟨g, j * 3, none⟩ = some (.int .i64 y.id) ∧ v.cell? ⟨g, j * 3 + 1, none⟩ = some (.int .i64 y.w) ∧ v.cell? ⟨g, j * 3 + 2, none⟩ = some (.int .i64 y.s)) := fun v hb => by
     have hs := HX.out.1
     have hg := (row_lt HW.out.hb.own (k := g) rfl).2
     exact ⟨(cell_blk (hb.block _ HW.out.hb.lo) _).trans a0, (cell_blk (hb.block _ hs) _).trans x0, (cell_blk (hb.block _ hs) _).trans x1, (cell_blk (hb.block _ hs) _).trans x2, (cell_blk (hb.block _ hg) _).trans y0, (cell_blk (hb.block _ hg) _).trans y1, (cell_blk (hb.block _ hg) _).trans y2⟩
    go_wp2_with fail
    go_region_held3 (fun v => v.cell? ⟨o, 0, none⟩ = some (.slice (some ⟨g, 0, none⟩) m.length c) ∧ v.cell? ⟨w.heap.size, 0, none⟩ = some (.int .i64 x.id) ∧ v.cell? ⟨w.heap.size, 1, none⟩ = some (.int .i64 x.w) ∧ v.cell? ⟨w.heap.size, 2, none⟩ = some (.int .i64 x.s) ∧ v.cell? ⟨g, j * 3, none⟩ = some (.int .i64 y.id) ∧ v.cell? ⟨g, j * 3 + 1, none⟩ = some (.int .i64 y.w) ∧ v.cell? ⟨g, j * 3 + 2, none⟩ = some (.int .i64 y.s))
     (first | exact KP.out _ (Below.refl _ _).drew | exact KP.out _ ((Below.refl _ _).drew.trans hb3))
     (first
     | (go_at_call 134; (with_reducible refine (hA _).mono ?_); rintro e w' ⟨rfl, rfl⟩)
     | (go_at_call 133; go_loud ((with_reducible refine (order_bel x y _).mono ?_); rintro e w3 ⟨rfl, hb3⟩)))
    have hb4 : Below wr.heap.size wr w3 := (Below.refl _ _).drew.trans hb3
    obtain ⟨a0', x0', x1', x2', y0', y1', y2'⟩ := KP.out _ hb4
    have HW3 := Lib.hid (HW.out.later hb4)
    have HX3 := Lib.hid (HX.out.later hb4)
    clear HW HX KP a0 x0 x1 x2 y0 y1 y2 hb3 hb4
    by_cases hxy : x.lt y
    · have hq := (ord_neg x y).2 hxy
      have HU : Hid (HpUp (sw (m.set i x) i j x y) j) := by rw [HJ.out]; exact up_next HW3.out.hp q3 hpn (by rw [← HJ.out]; exact HY.out) hxy
      generalize ordI x y = r at *
      have hP := fun W hb => put_any i y W (HW3.out.hb.later (w' := W) hb) q3 (HW3.out.hb.wf y (at_mem HY.out)) q4 q2
      go_wp2_with fail
      go_region_held3 (fun v => v.cell? ⟨o, 0, none⟩ = some (.slice (some ⟨g, 0, none⟩) m.length c) ∧ v.cell? ⟨g, j * 3, none⟩ = some (.int .i64 y.id) ∧ v.cell? ⟨g, j * 3 + 1, none⟩ = some (.int .i64 y.w) ∧ v.cell? ⟨g, j * 3 + 2, none⟩ = some (.int .i64 y.s))
       (first | exact ⟨a0', y0', y1', y2'⟩ | exact HZ4.out)
       (first
       | (go_at_call 134; (with_reducible refine (hA _).mono ?_); rintro e w' ⟨rfl, rfl⟩)
       | (go_at_call 142; go_loud ((with_reducible refine (hP _ (Below.refl _ _).drew).mono ?_); rintro e w4 ⟨rfl, r1, r2⟩; have HZ4 : Hid (w4.cell? ⟨o, 0, none⟩ = some (.slice (some ⟨g, 0, none⟩) m.length c) ∧ w4.cell? ⟨g, j * 3, none⟩ = some (.int .i64 y.id) ∧ w4.cell? ⟨g, j * 3 + 1, none⟩ = some (.int .i64 y.w) ∧ w4.cell? ⟨g, j * 3 + 2, none⟩ = some (.int .i64 y.s)) := (after_put r1 HY.out (by omega)))))
      have HW4 : Hid (Way HpUp B o b (some ⟨g, 0, none⟩) c n K l0 x w (m.set i y) (fput f y.id i) j w4) := (HW3.out.later (Below.refl _ _).drew).step (by omega) HY.out HU.out r1 r2
      have HX4 : Hid (Box w4 w.heap.size x) := (HX3.out.later (Below.refl _ _).drew).chg r2 n1.out
      clear r1 r2 HW3 HX3 HU HZ4 a0' x0' x1' x2' y0' y1' y2' hP
      go_wp2_with (go_at_call 134; (with_reducible refine (hA _).mono ?_); rintro e w' ⟨rfl, rfl⟩)
      go_roundw
      case rel => exact ⟨j, m.set i y, fput f y.id i, rfl, HW4, HX4⟩
      case measure => simp [intOf]; omega
    · have hq : ¬ ordI x y < 0 := fun e => hxy ((ord_neg x y).1 e)
      have HE : Hid (Hp (m.set i x)) := up_end HW3.out.hp q3 fun _ => ⟨y, by rw [← HJ.out]; exact HY.out, hxy⟩
      generalize ordI x y = r at *
      go_wp2_with fail
      refine (put_any i x w3 HW3.out.hb q3 hx q4 q2).mono ?_
      rintro e w4 ⟨rfl, r1, r2⟩
      have HR := Lib.hid (HW3.out.end HE.out r1 r2)
      clear r1 r2 HW3 HX3 HE a0' x0' x1' x2' y0' y1' y2'
      go_wp2_with fail
      go_end0
      exact HR.out
end
end Go.Proofs.YtdpapnfjpefhkaaGreat
namespace Go.Proofs.YtdpapnfjpefhkaaGreat
open Go.RowKit
set_option linter.unusedVariables false
set_option maxRecDepth 100000
section
variable {Q : List It → Nat → Prop} {B o b c n s : Nat} {P : Option Addr} {m : List It} {K : List Int} {f : Int → Int} {l0 : List It} {x y : It} {w w' wr : World} {i j : Nat}
theorem dn_end (h : HpDn (m.set i x) i) (hi : i < m.length) (e : ∀ c, 0 < c → c < m.length → (c - 1) / 4 = i → ∀ v, m[c]? = some v → x.le v) : Hp (m.set i x) := by
 refine hp_of_dn h (below_of (x := x) (by simp [hi]) fun c h1 h2 h3 v hv => ?_)
 rw [List.length_set] at h2
 rw [List.getElem?_set_ne (by omega)] at hv
 exact e c h1 h2 h3 v hv
theorem dn_next (h : HpDn (m.set i x) i) (hi : i < m.length) (h0 : 0 < j) (hj : (j - 1) / 4 = i) (hy : m[j]? = some y) (e : ∀ c, 0 < c → c < m.length → (c - 1) / 4 = i → ∀ v, m[c]? = some v → y.le v) (hxy : ¬ x.lt y) : HpDn (sw (m.set i x) i j x y) j := by
 refine dn_step h h0 hj (by simp [hi]) (by rw [List.getElem?_set_ne (by omega)]; exact hy) (It.le_of_not hxy) fun c h1 h2 h3 v hv => ?_
 rw [List.length_set] at h2
 rw [List.getElem?_set_ne (by omega)] at hv
 exact e c h1 h2 h3 v hv
set_option maxHeartbeats 8000000 in
theorem sink_any (i : Nat) (x : It) (w : World) (h : Way HpDn B o b P c n K l0 x w m f i w) (hx : Wf x.id) (hl : l0.length ≤ 1000) :
  Calls Tryz.prog 136 #[.pointer (some ⟨o, 0, none⟩), .int .i64 i, .agg #[.int .i64 x.id, .int .i64 x.w, .int .i64 x.s]] w (SetR B o b P c n l0 w) := by
 have hB1 : Below w.heap.size w (w.alloc (.cells #[.int .i64 x.id, .int .i64 x.w, .int .i64 x.s] 203)) := below_al w _
 have H1 := Lib.hid (h.later hB1)
 have X1 : Hid (Box (w.alloc (.cells #[.int .i64 x.id, .int .i64 x.w, .int .i64 x.s] 203)) w.heap.size x) := Box.new w x
 have n1 : Hid (o ≠ w.heap.size ∧ b ≠ w.heap.size ∧ blk P ≠ some w.heap.size) := ⟨by have := h.hb.lo; omega, by have := h.hb.tm.lt; omega, fun e => by have := (row_lt h.hb.own e).2; omega⟩
 clear h hB1
 go_enter Tryz.func136, Tryz.ntmps136
 go_wp2_with fail
 go_loopw [1] (fun u wr => ∃ (i : Nat) (m : List It) (f : Int → Int), u = .int .i64 i ∧ Hid (Way HpDn B o b P c n K l0 x w m f i wr) ∧ Hid (Box wr w.heap.size x)) (fun u _ => l0.length - (intOf u).toNat)
 case atStart => exact ⟨i, m, f, rfl, H1, X1⟩
 case round =>
  clear H1 X1
  obtain ⟨i, m, f, rfl, HW, HX⟩ := hrel
  obtain ⟨q1, q2, q3⟩ := HW.out.klen hl
  have HL := Lib.hid q1
  have q4 : m.length ≤ 1000 := by omega
  clear q1
  by_cases h0 : m.length ≤ 4 * i + 1
  · have HE : Hid (Hp (m.set i x)) := dn_end HW.out.hp q3 fun c h1 h2 h3 => absurd h2 (by omega)
    go_wp2_with fail
    refine (first_none i wr HW.out.hb h0 (by omega)).mono ?_
    rintro e w1 ⟨rfl, rfl⟩
    go_wp2_with fail
    go_quiet (fail)
    have HW2 := Lib.hid (HW.out.later (below_drewN wr nq))
    have HX2 := Lib.hid (HX.out.later (below_drewN wr nq))
    generalize wr.drewN nq = w2 at *
    obtain ⟨xs, x0, x1, x2⟩ := HX2.out
    clear HW HX h0
    go_wp2_with fail
    refine (put_any i x w2 HW2.out.hb q3 hx q4 q2).mono ?_
    rintro e w3 ⟨rfl, r1, r2⟩
    have HR := Lib.hid (HW2.out.end HE.out r1 r2)
    clear r1 r2 HW2 HX2 HE x0 x1 x2
    go_wp2_with fail
    go_end0
    exact HR.out
  · go_wp2_with fail
    refine (first_some i wr HW.out.hb (by omega) q4).mono ?_
    rintro e w1 ⟨j, y, rfl, hj0, hji, hy, hmin, hb1⟩
    have hj := at_lt hy
    have hne : i < j := by omega
    have HJ := Lib.hid (And.intro hj0 (And.intro hji hmin))
    have HY := Lib.hid hy
    have HW1 := Lib.hid (HW.out.later hb1)
    have HX1 := Lib.hid (HX.out.later hb1)
    clear HW HX hb1 hji hmin hj0
    obtain ⟨g, rfl, y0, y1, y2⟩ := HW1.out.hb.at hy
    obtain ⟨xs, x0, x1, x2⟩ := HX1.out
    have a0 := HW1.out.hb.c0
    clear hy
    have KP : Hid (∀ v, Below w1.heap.size w1 v → v.cell? ⟨o, 0, none⟩ = some (.slice (some ⟨g, 0, none⟩) m.length c) ∧ v.cell? ⟨w.heap.size, 0, none⟩ = some (.int .i64 x.id) ∧ v.cell? ⟨w.heap.size, 1, none⟩ = some (.int .i64 x.w) ∧ v.cell? ⟨w.heap.size, 2, none⟩ = some (.int .i64 x.s) ∧ v.cell? ⟨g, j * 3, none⟩ = some (.int .i64 y.id) ∧ v.cell? ⟨g, j * 3 + 1, none⟩ = some (.int .i64 y.w) ∧ v.cell? ⟨g, j * 3 + 2, none⟩ = some (.int .i64 y.s)) := fun v hb => by
     have hs := HX1.out.1
     have hg := (row_lt HW1.out.hb.own (k := g) rfl).2
     exact ⟨(cell_blk (hb.block _ HW1.out.hb.lo) _).trans a0, (cell_blk (hb.block _ hs) _).trans x0, (cell_blk (hb.block _ hs) _).trans x1, (cell_blk (hb.block _ hs) _).trans x2, (cell_blk (hb.block _ hg) _).trans y0, (cell_blk (hb.block _ hg) _).trans y1, (cell_blk (hb.block _ hg) _).trans y2⟩
    go_wp2_with fail
    go_region_held3 (fun v => v.cell? ⟨o, 0, none⟩ = some (.slice (some ⟨g, 0, none⟩) m.length c) ∧ v.cell? ⟨w.heap.size, 0, none⟩ = some (.int .i64 x.id) ∧ v.cell? ⟨w.heap.size, 1, none⟩ = some (.int .i64 x.w) ∧ v.cell? ⟨w.heap.size, 2, none⟩ = some (.int .i64 x.s) ∧ v.cell? ⟨g, j * 3, none⟩ = some (.int .i64 y.id) ∧ v.cell? ⟨g, j * 3 + 1, none⟩ = some (.int .i64 y.w) ∧ v.cell? ⟨g, j * 3 + 2, none⟩ = some (.int .i64 y.s))
     (first | exact KP.out _ (Below.refl _ _).drew | exact KP.out _ ((Below.refl _ _).drew.trans hb3))
     (first
     | (go_at_call 133; go_loud ((with_reducible refine (order_bel y x _).mono ?_); rintro e w3 ⟨rfl, hb3⟩)))
    have hb4 : Below w1.heap.size w1 w3 := (Below.refl _ _).drew.trans hb3
    obtain ⟨a0', x0', x1', x2', y0', y1', y2'⟩ := KP.out _ hb4
    have HW3 := Lib.hid (HW1.out.later hb4)
    have HX3 := Lib.hid (HX1.out.later hb4)
    clear HW1 HX1 KP a0 x0 x1 x2 y0 y1 y2 hb3 hb4
    by_cases hxy : x.lt y
    · have hq := (ord_pos y x).2 hxy
      have HE : Hid (Hp (m.set i x)) := dn_end HW3.out.hp q3 fun c h1 h2 h3 v hv => It.le_trans (It.le_of_lt hxy) (HJ.out.2.2 c h1 h2 h3 v hv)
      generalize ordI y x = r at *
      go_wp2_with fail
      refine (put_any i x w3 HW3.out.hb q3 hx q4 q2).mono ?_
      rintro e w4 ⟨rfl, r1, r2⟩
      have HR := Lib.hid (HW3.out.end HE.out r1 r2)
      clear r1 r2 HW3 HX3 HE a0' x0' x1' x2' y0' y1' y2'
      go_wp2_with fail
      go_end0
      exact HR.out
    · have hq : ¬ 0 < ordI y x := fun e => hxy ((ord_pos y x).1 e)
      have HU : Hid (HpDn (sw (m.set i x) i j x y) j) := dn_next HW3.out.hp q3 HJ.out.1 HJ.out.2.1 HY.out HJ.out.2.2 hxy
      generalize ordI y x = r at *
      go_wp2_with fail
      refine (put_any i y w3 HW3.out.hb q3 (HW3.out.hb.wf y (at_mem HY.out)) q4 q2).mono ?_
      rintro e w4 ⟨rfl, r1, r2⟩
      have HW4 : Hid (Way HpDn B o b (some ⟨g, 0, none⟩) c n K l0 x w (m.set i y) (fput f y.id i) j w4) := HW3.out.step (by omega) HY.out HU.out r1 r2
      have HX4 : Hid (Box w4 w.heap.size x) := HX3.out.chg r2 n1.out
      clear r1 r2 HW3 HX3 HU a0' x0' x1' x2' y0' y1' y2'
      go_wp2_with fail
      go_roundw
      case rel => exact ⟨j, m.set i y, fput f y.id i, rfl, HW4, HX4⟩
      case measure => have := HL.out; simp [intOf]; omega
end
end Go.Proofs.YtdpapnfjpefhkaaGreat
namespace Go.Proofs.YtdpapnfjpefhkaaGreat
open Go.RowKit
set_option linter.unusedVariables false
set_option maxRecDepth 100000
section
variable {Q Q' : List It → Nat → Prop} {B o b c n s : Nat} {P : Option Addr} {m : List It} {K : List Int} {f : Int → Int} {l0 : List It} {x y : It} {w w' w1 wr : World} {i j : Nat} {e : Ending}
theorem SetR.from (h : SetR B o b P c n l0 w1 e w') (hc : Chg o b (blk P) (blk P) w w1) : SetR B o b P c n l0 w e w' := by
 obtain ⟨h1, m, f, h2, h3, h4, h5, h6⟩ := h
 exact ⟨h1, m, f, h2, h3, h4, h5, hc.trans h6⟩
theorem Way.re (h : Way Q B o b P c n K l0 x w m f i wr) (hq : Q' (m.set i x) i) : Way Q' B o b P c n K l0 x wr m f i wr := ⟨h.hb, h.mid, hq, h.pm, Chg.refl _ _⟩
set_option maxHeartbeats 8000000 in
theorem settle_any (i : Nat) (x : It) (w : World) (h : Way HpAt B o b P c n K l0 x w m f i w) (hx : Wf x.id) (hl : l0.length ≤ 1000) :
  Calls Tryz.prog 122 #[.pointer (some ⟨o, 0, none⟩), .int .i64 i, .agg #[.int .i64 x.id, .int .i64 x.w, .int .i64 x.s]] w (SetR B o b P c n l0 w) := by
 have hB1 : Below w.heap.size w (w.alloc (.cells #[.int .i64 x.id, .int .i64 x.w, .int .i64 x.s] 203)) := below_al w _
 have HW := Lib.hid (h.later hB1)
 have HX : Hid (Box (w.alloc (.cells #[.int .i64 x.id, .int .i64 x.w, .int .i64 x.s] 203)) w.heap.size x) := Box.new w x
 obtain ⟨q1, q2, q3⟩ := h.klen hl
 have q4 : m.length ≤ 1000 := by omega
 clear h hB1 q1
 by_cases h0 : i = 0
 · subst h0
   have e9 : ((0 : Nat) : Int) = 0 := rfl
   rw [e9]
   go_enter Tryz.func122, Tryz.ntmps122
   go_wp2_with fail
   generalize w.alloc (.cells #[.int .i64 x.id, .int .i64 x.w, .int .i64 x.s] 203) = w1 at *
   go_quiet (fail)
   have HW2 := Lib.hid (HW.out.later (below_drewN w1 nq))
   have HX2 := Lib.hid (HX.out.later (below_drewN w1 nq))
   generalize w1.drewN nq = w2 at *
   obtain ⟨xs, x0, x1, x2⟩ := HX2.out
   have HS := Lib.hid (sink_any 0 x w2 (HW2.out.re (dn_first HW2.out.hp)) hx hl)
   clear HW HX
   go_wp2_with fail
   refine HS.out.mono ?_
   rintro e w3 hR
   obtain rfl := hR.1
   have HR := Lib.hid (hR.from HW2.out.ch)
   clear hR HS x0 x1 x2
   go_wp2_with fail
   go_end0
   exact HR.out
 · have hj : (i - 1) / 4 < m.length := by omega
   have hji : (i - 1) / 4 < i := by omega
   obtain ⟨j, hjj⟩ : ∃ j, j = (i - 1) / 4 := ⟨_, rfl⟩
   rw [← hjj] at hj hji
   obtain ⟨y, hy⟩ := ex_at hj
   have HY := Lib.hid hy
   have hA := fun W => above_any i W (by omega) (by omega)
   rw [← hjj] at hA
   have HJ := Lib.hid hjj
   obtain ⟨g, rfl, y0, y1, y2⟩ := HW.out.hb.at hy
   have hpos : (0 : Int) < (i : Int) := by omega
   have hpn : 0 < i := by omega
   have dpos : decide (0 < i) = true := decide_eq_true hpn
   obtain ⟨xs, x0, x1, x2⟩ := HX.out
   have a0 := HW.out.hb.c0
   clear hjj hy
   go_enter Tryz.func122, Tryz.ntmps122
   go_wp2_with fail
   generalize w.alloc (.cells #[.int .i64 x.id, .int .i64 x.w, .int .i64 x.s] 203) = wr at *
   have KP : Hid (∀ v, Below wr.heap.size wr v → v.cell? ⟨o, 0, none⟩ = some (.slice (some ⟨g, 0, none⟩) m.length c) ∧ v.cell? ⟨w.heap.size, 0, none⟩ = some (.int .i64 x.id) ∧ v.cell? ⟨w.heap.size, 1, none⟩ = some (.int .i64 x.w) ∧ v.cell? ⟨w.heap.size, 2, none⟩ = some (.int .i64 x.s) ∧ v.cell? ⟨g, j * 3, none⟩ = some (.int .i64 y.id) ∧ v.cell? ⟨g, j * 3 + 1, none⟩ = some (.int .i64 y.w) ∧ v.cell? ⟨g, j * 3 + 2, none⟩ = some (.int .i64 y.s)) := fun v hb => by
    have hs := HX.out.1
    have hg := (row_lt HW.out.hb.own (k := g) rfl).2
    exact ⟨(cell_blk (hb.block _ HW.out.hb.lo) _).trans a0, (cell_blk (hb.block _ hs) _).trans x0, (cell_blk (hb.block _ hs) _).trans x1, (cell_blk (hb.block _ hs) _).trans x2, (cell_blk (hb.block _ hg) _).trans y0, (cell_blk (hb.block _ hg) _).trans y1, (cell_blk (hb.block _ hg) _).trans y2⟩
   go_region_held3 (fun v => v.cell? ⟨o, 0, none⟩ = some (.slice (some ⟨g, 0, none⟩) m.length c) ∧ v.cell? ⟨w.heap.size, 0, none⟩ = some (.int .i64 x.id) ∧ v.cell? ⟨w.heap.size, 1, none⟩ = some (.int .i64 x.w) ∧ v.cell? ⟨w.heap.size, 2, none⟩ = some (.int .i64 x.s) ∧ v.cell? ⟨g, j * 3, none⟩ = some (.int .i64 y.id) ∧ v.cell? ⟨g, j * 3 + 1, none⟩ = some (.int .i64 y.w) ∧ v.cell? ⟨g, j * 3 + 2, none⟩ = some (.int .i64 y.s))
    (first | exact KP.out _ (Below.refl _ _).drew | exact KP.out _ ((Below.refl _ _).drew.trans hb3))
    (first
    | (go_at_call 134; (with_reducible refine (hA _).mono ?_); rintro e w' ⟨rfl, rfl⟩)
    | (go_at_call 133; go_loud ((with_reducible refine (order_bel x y _).mono ?_); rintro e w3 ⟨rfl, hb3⟩)))
   have hb4 : Below wr.heap.size wr w3 := (Below.refl _ _).drew.trans hb3
   obtain ⟨a0', x0', x1', x2', y0', y1', y2'⟩ := KP.out _ hb4
   have HW3 := Lib.hid (HW.out.later hb4)
   clear HW HX KP a0 x0 x1 x2 y0 y1 y2 hb3 hb4
   have ex : (m.set i x)[i]? = some x := by simp [q3]
   have ey : (m.set i x)[(i - 1) / 4]? = some y := by rw [← HJ.out, List.getElem?_set_ne (by omega)]; exact HY.out
   by_cases hxy : x.lt y
   · have hq := (ord_neg x y).2 hxy
     have HS := Lib.hid (rise_any i x w3 (HW3.out.re (up_of_at HW3.out.hp hpn ex ey hxy)) hx hl)
     generalize ordI x y = r at *
     clear ex ey
     go_wp2_with fail
     refine HS.out.mono ?_
     rintro e w4 hR
     obtain rfl := hR.1
     have HR := Lib.hid (hR.from HW3.out.ch)
     clear hR HS a0' x0' x1' x2' y0' y1' y2'
     go_wp2_with fail
     go_end0
     exact HR.out
   · have hq : ¬ ordI x y < 0 := fun e => hxy ((ord_neg x y).1 e)
     have HS := Lib.hid (sink_any i x w3 (HW3.out.re (dn_of_at HW3.out.hp ex ey hxy)) hx hl)
     generalize ordI x y = r at *
     clear ex ey
     go_wp2_with fail
     refine HS.out.mono ?_
     rintro e w4 hR
     obtain rfl := hR.1
     have HR := Lib.hid (hR.from HW3.out.ch)
     clear hR HS a0' x0' x1' x2' y0' y1' y2'
     go_wp2_with fail
     go_end0
     exact HR.out
end
end Go.Proofs.YtdpapnfjpefhkaaGreat
namespace Go.Proofs.YtdpapnfjpefhkaaGreat
open Go.RowKit
set_option linter.unusedVariables false
set_option maxRecDepth 100000
def zI : It := ⟨0, 0, 0⟩
def IbR (x : It) (d : Bool) (w : World) (e : Ending) (w' : World) : Prop := e = .returned (.tuple #[.agg #[.int .i64 x.id, .int .i64 x.w, .int .i64 x.s], .bool d]) ∧ Below w.heap.size w w'
theorem min_nil (w : World) : Calls Tryz.prog 82 #[.pointer none] w (IbR zI false w) := by
 go_enter Tryz.func82, Tryz.ntmps82
 go_wp2_with fail
 refine (len_nil _).mono ?_
 rintro e w' ⟨rfl, rfl⟩
 go_wp2_with fail
 refine bodyPost_ret (v := .tuple #[.agg #[.int .i64 0, .int .i64 0, .int .i64 0], .bool false]) ?_ rfl ⟨rfl, ?_⟩
 · rw [results_cell_tmp rfl]; go_simp; try rfl
 · first | exact below_al _ _ | (repeat' (first | exact below_al _ _ | refine Below.alloc ?_ (by omega) _))
section
variable {B o b n : Nat} {p : Option Nat} {S : List It} {w : World}
theorem glen (h : HG B w o b p n S) : Calls Tryz.prog 102 #[.pointer (some ⟨o, 0, none⟩)] w fun e w' => e = .returned (.int .i64 (S.length : Int)) ∧ w = w' := by
 obtain ⟨P, c, m, f, _, h1, _, _, h4⟩ := h
 rw [← h4.length_eq]
 exact len_any w h1
theorem gmin_none (h : HG B w o b p n []) : Calls Tryz.prog 82 #[.pointer (some ⟨o, 0, none⟩)] w (IbR zI false w) := by
 have HA := Lib.hid h
 clear h
 go_enter Tryz.func82, Tryz.ntmps82
 go_wp2_with fail
 refine (glen (HA.out.later (below_al _ _))).mono ?_
 rintro e w' ⟨rfl, rfl⟩
 go_wp2_with fail
 refine bodyPost_ret (v := .tuple #[.agg #[.int .i64 0, .int .i64 0, .int .i64 0], .bool false]) ?_ rfl ⟨rfl, ?_⟩
 · rw [results_cell_tmp rfl]; go_simp; try rfl
 · first | exact below_al _ _ | (repeat' (first | exact below_al _ _ | refine Below.alloc ?_ (by omega) _))
theorem gmin_some {x : It} (h : HG B w o b p n (x :: S)) (hs : Srt (x :: S)) (hl : (x :: S).length ≤ 1000) : Calls Tryz.prog 82 #[.pointer (some ⟨o, 0, none⟩)] w (IbR x true w) := by
 obtain ⟨P, c, m, f, e0, h1, h2, h3, h4⟩ := h
 have hx := srt_head hs h3 h4
 have hm := h4.length_eq
 have hn : (m.length == 0) = false := by have := at_lt hx; simp; intro e; rw [e] at this; simp at this
 have hn2 : ((m.length : Int) == 0) = false := by have := at_lt hx; simp; intro e; rw [e] at this; simp at this
 have hpos := at_lt hx
 obtain ⟨g, rfl, d0, d1, d2⟩ := h1.at hx
 simp only [Nat.zero_mul, Nat.zero_add] at d0 d1 d2
 have c0 := h1.c0
 have ho := h1.lo
 have hg := (row_lt h1.own (k := g) rfl).2
 have HA := Lib.hid h1
 clear h1 hx h4 hm
 go_enter Tryz.func82, Tryz.ntmps82
 go_wp2_with fail
 refine (len_any _ (HA.out.later (below_al _ _))).mono ?_
 rintro e w' ⟨rfl, rfl⟩
 go_wp2_with fail
 refine bodyPost_ret (v := .tuple #[.agg #[.int .i64 x.id, .int .i64 x.w, .int .i64 x.s], .bool true]) ?_ rfl ⟨rfl, ?_⟩
 · rw [results_cell_tmp rfl]; go_simp; try rfl
 · first | exact below_al _ _ | (repeat' (first | exact below_al _ _ | refine Below.alloc ?_ (by omega) _))
end
theorem inf36 : (Tryz.prog.info? 203).map (fun i => (i.zero, i.size, i.bytes)) = some (some (.agg #[.int .i64 0, .int .i64 0, .int .i64 0]), 3, 24) := by kernel_rfl
end Go.Proofs.YtdpapnfjpefhkaaGreat
namespace Go.Proofs.YtdpapnfjpefhkaaGreat
open Go.RowKit
set_option linter.unusedVariables false
set_option maxRecDepth 100000
def ChR (B o b : Nat) (p : Option Nat) (n : Nat) (S : List It) (v : Value) (w : World) (e : Ending) (w' : World) : Prop :=
 e = .returned v ∧ ∃ p', HG B w' o b p' n S ∧ Chg o b p p' w w'
theorem map_nil (w : World) (b : Nat) : (binOp .eql 142 (.map (some b)) (.map none)).run Tryz.prog w = .ok (.bool false) w := by kernel_rfl
section
variable {B o b c n : Nat} {p : Option Nat} {P : Option Addr} {S m : List It} {K : List Int} {f : Int → Int} {w w' w1 : World} {e : Ending} {v : Value}
theorem SetR.chr {l0 : List It} (h : SetR B o b P c n l0 w1 e w') (hp : l0.Perm S) (hc : Chg o b p (blk P) w w1) (he : v = .tuple #[]) : ChR B o b p n S v w e w' := by
 obtain ⟨h1, m, f, h2, h3, h4, h5, h6⟩ := h
 exact ⟨by rw [h1, he], blk P, ⟨P, c, m, f, rfl, h2, h3, h4, h5.trans hp⟩, hc.trans h6⟩
theorem rise_c0 {g : Nat} {x : It} (h : SetR B o b (some ⟨g, 0, none⟩) c n (m ++ [x]) w e w') : w'.cell? ⟨o, 0, none⟩ = some (.slice (some ⟨g, 0, none⟩) (m.length + 1) c) := by
 obtain ⟨h1, m', f, h2, h3, h4, h5, h6⟩ := h
 have := h2.c0
 rwa [h5.length_eq, List.length_append] at this
theorem ChR.but {u : Value} (h : ChR B o b p n S v w e w') : ChR B o b p n S u w (.returned u) w' := ⟨rfl, h.2⟩
theorem move_no (k t : Int) (h : HG B w o b p n S) (hk : Wf k) (hm : k ∉ ids S) : Calls Tryz.prog 109 #[.pointer (some ⟨o, 0, none⟩), .int .i64 k, .int .i64 t] w fun e w' => e = .returned (.int .i64 4) ∧ w = w' := by
 obtain ⟨P, c, m, f, e0, h1, h2, h3, h4⟩ := h
 have d := decide_eq_false (fun e => hm ((ids_perm h4).mem_iff.1 e) : k ∉ ids m)
 have HA := Lib.hid h1
 clear h1 h2 h3 h4
 go_enter Tryz.func109, Tryz.ntmps109
 go_wp2_with fail
 refine (place_any k _ HA.out hk).mono ?_
 rintro e w' ⟨⟨v, rfl, _⟩, rfl⟩
 rw [d]
 go_wp2_with fail
 go_ret
 exact ⟨rfl, rfl⟩
set_option maxHeartbeats 4000000 in
theorem move_yes (k t : Int) (h : HG B w o b p n S) (hS : Ok n S) (hk : Wf k) (hm : k ∈ ids S) (hn : n ≤ 1000000) (hl : S.length ≤ 1000) :
  Calls Tryz.prog 109 #[.pointer (some ⟨o, 0, none⟩), .int .i64 k, .int .i64 t] w (ChR B o b p (n + 1) (ins ⟨k, t, (n : Int) + 1⟩ (del k S)) (.int .i64 0) w) := by
 obtain ⟨P, c, m, f, e0, h1, h2, h3, h4⟩ := h
 subst e0
 have hmm := (ids_perm h4).mem_iff.2 hm
 have d := decide_eq_true hmm
 have hnd : (ids m).Nodup := (ids_perm h4).nodup_iff.2 hS.ids
 obtain ⟨i, y, hi, hy⟩ := ids_mem hmm
 have hfi := h2 i y hi
 rw [hy] at hfi
 have hil := at_lt hi
 have hlen := h4.length_eq
 let x : It := ⟨k, t, (n : Int) + 1⟩
 have hset : ids (m.set i x) = ids m := by
  apply List.ext_getElem?
  intro j
  by_cases ej : j = i
  · subst ej; rw [ids_at hi, ids_at (x := x) (by simp [hil]), hy]
  · simp [ids, List.getElem?_set_ne (Ne.symm ej)]
 have HW : Hid (∀ w2, HB B w2 o b P c (n + 1) m (ids m) f → Way HpAt B o b P c (n + 1) (ids m) (m.set i x) x w2 m f i w2) := fun w2 hb =>
  ⟨hb, ⟨hil, List.Perm.refl _, by rw [hset]; exact hnd, .inl (by rw [hset]), fun q z _ hz => h2 q z hz⟩, at_set (at_of_hp h3 i hil) x, List.Perm.refl _, Chg.refl _ _⟩
 have HP : Hid ((m.set i x).Perm (ins x (del k S))) := by
  have e1 : (m.set i x).Perm (x :: m.eraseIdx i) := by
   have e2 := List.set_eq_take_append_cons_drop (l := m) (i := i) (a := x)
   rw [if_pos hil] at e2
   rw [e2, List.eraseIdx_eq_take_drop_succ]
   exact List.perm_middle
  refine e1.trans (List.Perm.trans ?_ (ins_perm x _).symm)
  rw [← del_at hnd hi hy]
  exact (del_perm h4).cons x
 have hlen2 : (m.set i x).length ≤ 1000 := by rw [List.length_set]; omega
 have HA := Lib.hid h1
 have HM := Lib.hid hmm
 clear h1 h2 h3 h4 hi hy hset hnd hmm hlen
 go_enter Tryz.func109, Tryz.ntmps109
 go_wp2_with fail
 refine (place_any k _ HA.out hk).mono ?_
 rintro e w' ⟨⟨v, rfl, hv⟩, rfl⟩
 rw [d]
 have hv2 := hv HM.out
 rw [hfi] at hv2
 subst hv2
 clear hv hfi d
 go_wp2_with fail
 refine (anew_any k t w HA.out hn).mono ?_
 rintro e w2 ⟨rfl, r1, r2⟩
 have HS := Lib.hid (settle_any i x w2 (HW.out w2 r1) hk hlen2)
 have HC := Lib.hid r2
 clear r1 r2 HW
 go_wp2_with fail
 refine HS.out.mono ?_
 rintro e w3 hR
 obtain rfl := hR.1
 have HR : Hid (ChR B o b (blk P) (n + 1) (ins x (del k S)) (.tuple #[]) w (.returned (.tuple #[])) w3) := hR.chr HP.out HC.out rfl
 clear hR HS HC HP
 go_wp2_with fail
 go_ret
 exact HR.out.but
set_option maxHeartbeats 8000000 in
theorem add_new (k t : Int) (h : HG B w o b p n S) (hS : Ok n S) (hk : Wf k) (hm : k ∉ ids S) (hn : n ≤ 1000000) (hl : S.length < 1000) (hB : B ≤ w.heap.size) :
  Calls Tryz.prog 131 #[.pointer (some ⟨o, 0, none⟩), .int .i64 k, .int .i64 t] w (ChR B o b p (n + 1) (ins ⟨k, t, (n : Int) + 1⟩ S) (.int .i64 0) w) := by
 obtain ⟨i0, hi, hz0, hz1, hz2⟩ := info_parts inf36
 obtain ⟨P, c, m, f, e0, h1, h2, h3, h4⟩ := h
 subst e0
 have hmm : k ∉ ids m := fun e => hm ((ids_perm h4).mem_iff.1 e)
 have d := decide_eq_false hmm
 have hnd : (ids m).Nodup := (ids_perm h4).nodup_iff.2 hS.ids
 have hlen := h4.length_eq
 have hml : m.length < 1000 := by omega
 let x : It := ⟨k, t, (n : Int) + 1⟩
 have hset : (m ++ [zI]).set m.length x = m ++ [x] := by simp
 have HW : Hid (∀ P c w2, HB B w2 o b P c (n + 1) (m ++ [zI]) (ids m) f → Way HpUp B o b P c (n + 1) (ids m) (m ++ [x]) x w2 (m ++ [zI]) f m.length w2) := fun P c w2 hb =>
  ⟨hb, ⟨by simp, by rw [hset], by
   unfold ids at *
   rw [List.map_append, List.nodup_append]
   refine ⟨hnd, by simp, fun a ha b hb e => hmm ?_⟩
   simp at hb
   have e2 : b = k := hb
   rw [← e2, ← e]; exact ha, .inr (by unfold ids; rw [List.map_append]; exact List.Perm.refl _), fun q z hq hz => by
    have := at_lt hz
    simp at this
    rw [List.getElem?_append_left (by omega)] at hz
    exact h2 q z hz⟩, by rw [hset]; exact up_add h3 x, by rw [hset], Chg.refl _ _⟩
 have HP : Hid ((m ++ [x]).Perm (ins x S)) := (List.perm_append_comm.trans (h4.cons x)).trans (ins_perm x S).symm
 have hlen2 : (m ++ [x]).length ≤ 1000 := by simp; omega
 have q59 := map_nil w b
 have HA := Lib.hid h1
 have HO : Hid (w.ownsRow B 203 3 (.slice P m.length c) m.length (iV m)) := h1.own
 have HX := Lib.hid (below_al w (.cells #[.int .i64 0, .int .i64 0, .int .i64 0] 203))
 have c0 := h1.c0
 have c1 := h1.c1
 have f0 := h1.fo 0
 have ho := h1.lo
 have b1 : (m.length : Int) ≤ 1000 := by omega
 clear h1 h2 h3 h4 hset hnd hmm hlen
 go_enter Tryz.func131, Tryz.ntmps131
 go_wp2_with fail
 refine (place_any k _ HA.out hk).mono ?_
 rintro e w' ⟨⟨v, rfl, _⟩, rfl⟩
 rw [d]
 clear d
 go_wp2_with (at_builtin; go_loud (refine wpList_append_lies _ rfl (.tmp 33) (.tmp 35) 226 rfl B 203 i0 _ 3 24 Tryz.underlying226 hi hz0 hz1 hz2 rfl (by omega) (.slice P m.length c) m.length (iV m) rfl (row_later HO.out HX.out) ⟨w.heap.size, 0, none⟩ 1 1 (eI zI) rfl rfl (World.news_of_block (cs := #[.int .i64 0, .int .i64 0, .int .i64 0]) (heap_alloc_new w _)) (eI_one zI) (by omega) (by unfold maxLen; omega) (by omega) (by have := HX.out.size; omega) (w.heap.size + 1) (by first | (simp; done) | (simp; rfl)) ?_; intro g cap w2 hown hgrow hat hlt1; have HE := Lib.hid (HB.added (x := zI) HA.out (wf_of (by decide) (by decide)) HX.out hown hgrow (hat.imp id (by omega))); have hc2 : w2.cell? ⟨o, 0, none⟩ = some (.slice P m.length c) := (cell_blk ((hgrow.block o (by have := HX.out.size; omega) (by rw [own_blk]; exact fun e => HA.out.npo e.symm)).trans (HX.out.block o ho)) 0).trans c0; have hf2 : w2.frozen? ⟨o, 0, none⟩ = false := (frozen_blk ((hgrow.block o (by have := HX.out.size; omega) (by rw [own_blk]; exact fun e => HA.out.npo e.symm)).trans (HX.out.block o ho)) 0).trans f0; clear hown hgrow hat hlt1 HX c0 f0))
 have HK : Hid (w2.setCell ⟨o, 0, none⟩ (.slice (some ⟨g, 0, none⟩) (m.length + 1) cap) = w2.setCell ⟨o, 0, none⟩ (.slice (some ⟨g, 0, none⟩) (m.length + 1) cap)) := rfl
 generalize w2.setCell ⟨o, 0, none⟩ (.slice (some ⟨g, 0, none⟩) (m.length + 1) cap) = w3 at *
 have a0 : w3.cell? ⟨o, 0, none⟩ = some (.slice (some ⟨g, 0, none⟩) (m.length + 1) cap) := by
  have := HE.out.1.c0; rwa [List.length_append] at this
 clear hc2 hf2 c1 q59 HO hi hz0 hz1 hz2
 have b2 : IntKind.i64.wrap ((m.length : Int) + 1 - 1) = (m.length : Int) := by rw [IntKind.wrap_i64]; omega
 have b3 : IntKind.i64.wrap (m.length : Int) = (m.length : Int) := by rw [IntKind.wrap_i64]; omega
 have HY := Lib.hid (HE.out.1.later (Below.refl _ _).drew)
 have hR := fun W hb => rise_any (B := B) (o := o) (b := b) (P := some ⟨g, 0, none⟩) (c := cap) (n := n + 1) (l0 := m ++ [x]) m.length x W (HW.out (some ⟨g, 0, none⟩) cap W hb) hk hlen2
 go_region_held3 (fun v => v.cell? ⟨o, 0, none⟩ = some (.slice (some ⟨g, 0, none⟩) (m.length + 1) cap))
  (first | exact a0 | exact HZ4.out | exact HZ5.out)
  (first
  | (go_at_call 123; go_loud ((with_reducible refine (anew_any k t _ HY.out hn).mono ?_); rintro e w4 ⟨rfl, r1, r2⟩; have HZ4 : Hid (w4.cell? ⟨o, 0, none⟩ = some (.slice (some ⟨g, 0, none⟩) (m.length + 1) cap)) := (by have := r1.c0; rwa [List.length_append] at this)))
  | (go_at_call 135; go_loud ((with_reducible refine (hR _ r1).mono ?_); rintro e w5 hq; have HZ5 : Hid (w5.cell? ⟨o, 0, none⟩ = some (.slice (some ⟨g, 0, none⟩) (m.length + 1) cap)) := (rise_c0 hq); obtain rfl := hq.1)))
 have HR : Hid (ChR B o b (blk P) (n + 1) (ins x S) (.tuple #[]) w (.returned (.tuple #[])) w5) := hq.chr HP.out ((HE.out.2.trans (Chg.of_below _ (Below.refl _ _).drew)).trans r2) rfl
 clear r1 r2 hq HZ4 HZ5 HE HY hR HW HP HA HK a0
 go_wp2_with fail
 go_ret
 exact HR.out.but
end
end Go.Proofs.YtdpapnfjpefhkaaGreat
