/- What anew and firstBelow of package heap answer. Conditions: each theorem's own premises.
What rise of package heap does. Conditions: each theorem's own premises.
What sink and settle of package heap do. Conditions: each theorem's own premises. -/
import Derived.Test.YtdpapnfjpefhkaaMemm
import Derived.Laws.ResultCell
import Derived.Deep.RegionHeld3
namespace Go.Proofs.Ytdpapnfjpefhkaa
open Go.RowKit
set_option linter.unusedVariables false
set_option maxRecDepth 100000
section
variable {B o b c n : Nat} {P : Option Addr} {m : List It} {K : List Int} {f : Int → Int}
set_option maxHeartbeats 1000000 in
theorem anew_any (k t : Int) (w : World) (h : HB B w o b P c n m K f) (hn : n ≤ 1000000) :
    Calls Try.prog 88 #[.pointer (some ⟨o, 0, none⟩), .int .i64 k, .int .i64 t] w fun e w' => e = .returned (.agg #[.int .i64 k, .int .i64 t, .int .i64 ((n : Int) + 1)]) ∧ HB B w' o b P c (n + 1) m K f ∧ Chg o b (blk P) (blk P) w w' := by
  have ho := h.lo
  have c2 := h.c2
  have f2 := h.fo 2
  have b1 : IntKind.i64.wrap ((n : Int) + 1) = (n : Int) + 1 := by rw [IntKind.wrap_i64]; omega
  have HR := Lib.hid (h.turned (n + 1))
  clear h
  go_enter Try.func88, Try.ntmps88
  go_wp2_with fail
  refine bodyPost_ret (v := .agg #[.int .i64 k, .int .i64 t, .int .i64 ((n : Int) + 1)]) ?_ rfl ⟨rfl, ?_⟩
  · rw [results_cell_row rfl _ _ w.heap.size 150 #[.int .i64 k, .int .i64 t, .int .i64 ((n : Int) + 1)] (0, 0) _ rfl (by rw [← World.size_setCell (w := w)]; exact heap_alloc_new _ _) Try.underlying150 rfl (by kernel_rfl)]
  · rw [show (n : Int) + 1 = ((n + 1 : Nat) : Int) by omega]
    exact ⟨HR.out.1.later (below_al _ _), HR.out.2.trans (Chg.of_below _ (below_al _ _))⟩
/-- None below a place. -/
theorem first_none (p : Nat) (w : World) (h : HB B w o b P c n m K f) (hl : m.length ≤ 4 * p + 1) (hp : p ≤ 1000) : Calls Try.prog 107 #[.pointer (some ⟨o, 0, none⟩), .int .i64 p] w fun e w' => e = .returned (.tuple #[.int .i64 0, .bool false]) ∧ w = w' := by
  have c0 := h.c0
  have b1 : IntKind.i64.wrap (4 * (p : Int)) = 4 * (p : Int) := by rw [IntKind.wrap_i64]; omega
  have b2 : IntKind.i64.wrap (4 * (p : Int) + 1) = 4 * (p : Int) + 1 := by rw [IntKind.wrap_i64]; omega
  have b3 : IntKind.i64.wrap (4 * (p : Int) + 1 + 4) = 4 * (p : Int) + 5 := by rw [IntKind.wrap_i64]; omega
  have q1 : (m.length : Int) ≤ 4 * (p : Int) + 1 := by omega
  clear h
  go_enter Try.func107, Try.ntmps107
  go_wp2_with fail
  go_ret2
  exact ⟨rfl, rfl⟩
/-- The one that is ahead of the others of those from .. to .. -/
def Fs (m : List It) (a k j : Nat) : Prop := ∃ y, m[j]? = some y ∧ ∀ c, a ≤ c → c < k → ∀ v, m[c]? = some v → y.le v
theorem Fs.one {m : List It} {a : Nat} (h : a < m.length) : Fs m a (a + 1) a := by
  obtain ⟨y, hy⟩ := ex_at h
  refine ⟨y, hy, fun c h1 h2 v hv => ?_⟩
  obtain rfl : c = a := by omega
  rw [hy] at hv; injection hv with hv; subst hv; exact y.le_refl
theorem Fs.new {m : List It} {a k j : Nat} {x y : It} (h : Fs m a k j) (hx : m[k]? = some x) (hy : m[j]? = some y) (e : x.lt y) : Fs m a (k + 1) k := by
  obtain ⟨y', h1, h2⟩ := h
  rw [hy] at h1; injection h1 with h1; subst h1
  refine ⟨x, hx, fun c h3 h4 v hv => ?_⟩
  by_cases e2 : c = k
  · subst e2; rw [hx] at hv; injection hv with hv; subst hv; exact x.le_refl
  · exact It.le_trans (It.le_of_lt e) (h2 c h3 (by omega) v hv)
theorem Fs.old {m : List It} {a k j : Nat} {x y : It} (h : Fs m a k j) (hx : m[k]? = some x) (hy : m[j]? = some y) (e : ¬ x.lt y) : Fs m a (k + 1) j := by
  obtain ⟨y', h1, h2⟩ := h
  rw [hy] at h1; injection h1 with h1; subst h1
  refine ⟨y, hy, fun c h3 h4 v hv => ?_⟩
  by_cases e2 : c = k
  · subst e2; rw [hx] at hv; injection hv with hv; subst hv; exact It.le_of_not e
  · exact h2 c h3 (by omega) v hv
/-- Some below a place: the one ahead of the others. -/
def FstR (m : List It) (p : Nat) (w : World) (e : Ending) (w' : World) : Prop :=
  ∃ (j : Nat) (y : It), e = .returned (.tuple #[.int .i64 (j : Int), .bool true]) ∧ 0 < j ∧ (j - 1) / 4 = p ∧ m[j]? = some y ∧ (∀ c, 0 < c → c < m.length → (c - 1) / 4 = p → ∀ v, m[c]? = some v → y.le v) ∧ Below w.heap.size w w'
theorem Fs.done {w w' : World} {m : List It} {p t j : Nat} (h : Fs m (4 * p + 1) t j) (h1 : 4 * p + 1 ≤ j) (h2 : j < t) (ht : t ≤ 4 * p + 5) (h3 : 4 * p + 5 ≤ t ∨ m.length ≤ t) (hb : Below w.heap.size w w') : FstR m p w (.returned (.tuple #[.int .i64 (j : Int), .bool true])) w' := by
  obtain ⟨y, hy, hm⟩ := h
  refine ⟨j, y, rfl, by omega, by omega, hy, fun c c1 c2 c3 v hv => hm c (by omega) (by omega) v hv, hb⟩
set_option maxHeartbeats 4000000 in
theorem first_some (p : Nat) (w : World) (h : HB B w o b P c n m K f) (hl : 4 * p + 1 < m.length) (hm : m.length ≤ 1000) : Calls Try.prog 107 #[.pointer (some ⟨o, 0, none⟩), .int .i64 p] w (FstR m p w) := by
  have c0 := h.c0
  have b1 : IntKind.i64.wrap (4 * (p : Int)) = 4 * (p : Int) := by rw [IntKind.wrap_i64]; omega
  have b2 : IntKind.i64.wrap (4 * (p : Int) + 1) = 4 * (p : Int) + 1 := by rw [IntKind.wrap_i64]; omega
  have b3 : IntKind.i64.wrap (4 * (p : Int) + 1 + 4) = 4 * (p : Int) + 5 := by rw [IntKind.wrap_i64]; omega
  have b4 : IntKind.i64.wrap (4 * (p : Int) + 1 + 1) = 4 * (p : Int) + 2 := by rw [IntKind.wrap_i64]; omega
  have HA := Lib.hid h
  clear h
  by_cases hc : m.length < 4 * p + 5
  · have q2 : (m.length : Int) < 4 * (p : Int) + 5 := by omega
    have q1 : ¬ (m.length : Int) ≤ 4 * (p : Int) + 1 := by omega
    go_enter Try.func107, Try.ntmps107
    go_wp2_with fail
    go_loopw [8, 9] (fun u v wr => ∃ j k : Nat, 4 * p + 1 ≤ j ∧ j < k ∧ k ≤ m.length ∧ u = .int .i64 j ∧ v = .int .i64 k ∧ Fs m (4 * p + 1) k j ∧ Hid (Below w.heap.size w wr)) (fun _ v _ => m.length - (intOf v).toNat)
    case atStart => exact ⟨4 * p + 1, 4 * p + 2, by omega, by omega, by omega, by go_num, by go_num, Fs.one hl, Below.refl _ _⟩
    case round =>
      obtain ⟨j, k, h1, h2, h3, rfl, rfl, hF, HK⟩ := hrel
      by_cases hlt : k < m.length
      · have hlc : (k : Int) < (m.length : Int) := by omega
        have A := HA.out.later HK.out
        obtain ⟨x, hx⟩ := ex_at (l := m) (p := k) (by omega)
        obtain ⟨y, hy⟩ := ex_at (l := m) (p := j) (by omega)
        obtain ⟨g, rfl, x0, x1, x2⟩ := A.at hx
        obtain ⟨g', e', y0, y1, y2⟩ := A.at hy
        obtain rfl : g' = g := by injection e' with e'; injection e' with e'; exact e'.symm
        have a0 := A.c0
        have s1 : IntKind.i64.wrap ((k : Int) + 1) = (k : Int) + 1 := by rw [IntKind.wrap_i64]; omega
        have hkl : k < m.length := by omega
        have hjl : j < m.length := by omega
        clear A e' b1 b2 b3 b4 c0
        go_wp2_with fail
        go_still_tail 14, (by kernel_rfl)
        change wpList _ _ _ _ _ wr.drew
        have HK2 : Hid (Below w.heap.size w wr.drew) := HK.out.drew
        generalize wr.drew = wq at *
        have HF := Lib.hid hF
        have HX := Lib.hid hx
        have HY := Lib.hid hy
        clear HK hF hx hy x0 x1 x2 y0 y1 y2 a0
        go_wp2_with fail
        refine (order_bel x y wq).mono ?_
        rintro e w3 ⟨rfl, hb3⟩
        have HK3 : Hid (Below w.heap.size w w3) := HK2.out.trans (hb3.mono HK2.out.size)
        by_cases hxy : x.lt y
        · have hq := (ord_neg x y).2 hxy
          have HN := Lib.hid (Fs.new HF.out HX.out HY.out hxy)
          generalize ordI x y = r at *
          clear HK2 hb3 HF HX HY hxy
          go_wp2_with fail
          go_roundw
          case rel => exact ⟨k, k + 1, by omega, by omega, by omega, rfl, by go_num, HN.out, HK3⟩
          case measure => simp [intOf]; omega
        · have hq : ¬ ordI x y < 0 := fun e => hxy ((ord_neg x y).1 e)
          have HN := Lib.hid (Fs.old HF.out HX.out HY.out hxy)
          generalize ordI x y = r at *
          clear HK2 hb3 HF HX HY hxy
          go_wp2_with fail
          go_roundw
          case rel => exact ⟨j, k + 1, by omega, by omega, by omega, rfl, by go_num, HN.out, HK3⟩
          case measure => simp [intOf]; omega
      · obtain rfl : k = m.length := by omega
        have hlc : ¬ ((m.length : Int)) < (m.length : Int) := by omega
        have HD := Lib.hid (Fs.done hF h1 h2 (by omega) (by omega) HK.out)
        clear HK hF HA
        go_wp2_with fail
        go_ret2
        exact HD.out
  · have q2 : ¬ (m.length : Int) < 4 * (p : Int) + 5 := by omega
    have q1 : ¬ 4 * (p : Int) + 5 ≤ 4 * (p : Int) + 1 := by omega
    go_enter Try.func107, Try.ntmps107
    go_wp2_with fail
    go_loopw [8, 9] (fun u v wr => ∃ j k : Nat, 4 * p + 1 ≤ j ∧ j < k ∧ k ≤ 4 * p + 5 ∧ u = .int .i64 j ∧ v = .int .i64 k ∧ Fs m (4 * p + 1) k j ∧ Hid (Below w.heap.size w wr)) (fun _ v _ => 4 * p + 5 - (intOf v).toNat)
    case atStart => exact ⟨4 * p + 1, 4 * p + 2, by omega, by omega, by omega, by go_num, by go_num, Fs.one hl, Below.refl _ _⟩
    case round =>
      obtain ⟨j, k, h1, h2, h3, rfl, rfl, hF, HK⟩ := hrel
      by_cases hlt : k < 4 * p + 5
      · have hlc : (k : Int) < 4 * (p : Int) + 5 := by omega
        have A := HA.out.later HK.out
        obtain ⟨x, hx⟩ := ex_at (l := m) (p := k) (by omega)
        obtain ⟨y, hy⟩ := ex_at (l := m) (p := j) (by omega)
        obtain ⟨g, rfl, x0, x1, x2⟩ := A.at hx
        obtain ⟨g', e', y0, y1, y2⟩ := A.at hy
        obtain rfl : g' = g := by injection e' with e'; injection e' with e'; exact e'.symm
        have a0 := A.c0
        have s1 : IntKind.i64.wrap ((k : Int) + 1) = (k : Int) + 1 := by rw [IntKind.wrap_i64]; omega
        have hkl : k < m.length := by omega
        have hjl : j < m.length := by omega
        clear A e' b1 b2 b3 b4 c0
        go_wp2_with fail
        go_still_tail 14, (by kernel_rfl)
        change wpList _ _ _ _ _ wr.drew
        have HK2 : Hid (Below w.heap.size w wr.drew) := HK.out.drew
        generalize wr.drew = wq at *
        have HF := Lib.hid hF
        have HX := Lib.hid hx
        have HY := Lib.hid hy
        clear HK hF hx hy x0 x1 x2 y0 y1 y2 a0
        go_wp2_with fail
        refine (order_bel x y wq).mono ?_
        rintro e w3 ⟨rfl, hb3⟩
        have HK3 : Hid (Below w.heap.size w w3) := HK2.out.trans (hb3.mono HK2.out.size)
        by_cases hxy : x.lt y
        · have hq := (ord_neg x y).2 hxy
          have HN := Lib.hid (Fs.new HF.out HX.out HY.out hxy)
          generalize ordI x y = r at *
          clear HK2 hb3 HF HX HY hxy
          go_wp2_with fail
          go_roundw
          case rel => exact ⟨k, k + 1, by omega, by omega, by omega, rfl, by go_num, HN.out, HK3⟩
          case measure => simp [intOf]; omega
        · have hq : ¬ ordI x y < 0 := fun e => hxy ((ord_neg x y).1 e)
          have HN := Lib.hid (Fs.old HF.out HX.out HY.out hxy)
          generalize ordI x y = r at *
          clear HK2 hb3 HF HX HY hxy
          go_wp2_with fail
          go_roundw
          case rel => exact ⟨j, k + 1, by omega, by omega, by omega, rfl, by go_num, HN.out, HK3⟩
          case measure => simp [intOf]; omega
      · obtain rfl : k = 4 * p + 5 := by omega
        have hlc : ¬ (4 * (p : Int) + 5) < 4 * (p : Int) + 5 := by omega
        have HD := Lib.hid (Fs.done hF h1 h2 (by omega) (by omega) HK.out)
        clear HK hF HA
        go_wp2_with fail
        go_ret2
        exact HD.out
end
end Go.Proofs.Ytdpapnfjpefhkaa
namespace Go.Proofs.Ytdpapnfjpefhkaa
open Go.RowKit
set_option linter.unusedVariables false
set_option maxRecDepth 100000
/-- All stand where they may: l0 in some order. -/
def SetR (B o b : Nat) (P : Option Addr) (c n : Nat) (l0 : List It) (w : World) (e : Ending) (w' : World) : Prop :=
  e = .returned (.tuple #[]) ∧ ∃ m f, HB B w' o b P c n m (ids m) f ∧ Pl m f ∧ Hp m ∧ m.Perm l0 ∧ Chg o b (blk P) (blk P) w w'
/-- One is on its way: place i is free for it. -/
structure Way (Q : List It → Nat → Prop) (B o b : Nat) (P : Option Addr) (c n : Nat) (K : List Int) (l0 : List It) (x : It) (w : World) (m : List It) (f : Int → Int) (i : Nat) (wr : World) : Prop where
  hb : HB B wr o b P c n m K f
  mid : Mid (ids l0) m i x K f
  hp : Q (m.set i x) i
  pm : (m.set i x).Perm l0
  ch : Chg o b (blk P) (blk P) w wr
/-- Three cells of a block. -/
def Box (w : World) (s : Nat) (x : It) : Prop := s < w.heap.size ∧ w.cell? ⟨s, 0, none⟩ = some (.int .i64 x.id) ∧ w.cell? ⟨s, 1, none⟩ = some (.int .i64 x.w) ∧ w.cell? ⟨s, 2, none⟩ = some (.int .i64 x.s)
section
variable {Q : List It → Nat → Prop} {B o b c n s : Nat} {P : Option Addr} {m : List It} {K : List Int} {f : Int → Int} {l0 : List It} {x y : It} {w w' wr : World} {i j : Nat}
theorem Box.keep (h : Box w s x) (hs : w.heap.size ≤ w'.heap.size) (e : w'.heap[s]? = w.heap[s]?) : Box w' s x := by
  unfold Box; rw [cell_blk e, cell_blk e, cell_blk e]; exact ⟨Nat.lt_of_lt_of_le h.1 hs, h.2⟩
theorem Box.later (h : Box w s x) (hb : Below w.heap.size w w') : Box w' s x := h.keep hb.size (hb.block _ h.1)
theorem Box.chg {p p' : Option Nat} (h : Box w s x) (hc : Chg o b p p' w w') (hn : o ≠ s ∧ b ≠ s ∧ p ≠ some s) : Box w' s x := h.keep hc.size (hc.block s h.1 (fun e => hn.1 e.symm) (fun e => hn.2.1 e.symm) hn.2.2)
theorem Box.new (w : World) (x : It) : Box (w.alloc (.cells #[.int .i64 x.id, .int .i64 x.w, .int .i64 x.s] 150)) w.heap.size x :=
  ⟨by simp, new_cell (w := w) rfl rfl, new_cell (w := w) rfl rfl, new_cell (w := w) rfl rfl⟩
theorem Way.klen (h : Way Q B o b P c n K l0 x w m f i wr) (hl : l0.length ≤ 1000) : m.length = l0.length ∧ K.length ≤ 1000 ∧ i < m.length := by
  have h1 := h.pm.length_eq
  have h2 := h.mid.len
  rw [List.length_set] at h1
  exact ⟨h1, by omega, h.mid.hi⟩
/-- It is put where it is. -/
theorem Way.end (h : Way Q B o b P c n K l0 x w m f i wr) (hp : Hp (m.set i x)) (h1 : HB B w' o b P c n (m.set i x) (if x.id ∈ K then K else K ++ [x.id]) (fput f x.id i)) (h2 : Chg o b (blk P) (blk P) wr w') :
    SetR B o b P c n l0 w (.returned (.tuple #[])) w' :=
  ⟨rfl, _, _, h1.perm h.mid.last.1, h.mid.last.2, hp, h.pm, h.ch.trans h2⟩
/-- Another takes its place. -/
theorem Way.step {Q' : List It → Nat → Prop} (h : Way Q B o b P c n K l0 x w m f i wr) (hj : j ≠ i) (hy : m[j]? = some y) (hq : Q' (sw (m.set i x) i j x y) j) (h1 : HB B w' o b P c n (m.set i y) (if y.id ∈ K then K else K ++ [y.id]) (fput f y.id i)) (h2 : Chg o b (blk P) (blk P) wr w') :
    Way Q' B o b P c n K l0 x w (m.set i y) (fput f y.id i) j w' := by
  obtain ⟨k1, k2⟩ := h.mid.step hj hy
  have hi := h.mid.hi
  have e1 : (m.set i y).set j x = sw (m.set i x) i j x y := by simp [sw]
  rw [if_pos k1] at h1
  refine ⟨h1, k2, by rw [e1]; exact hq, by rw [e1]; exact (sw_perm (by simp [hi]) (by rw [List.getElem?_set_ne (Ne.symm hj)]; exact hy)).trans h.pm, h.ch.trans h2⟩
theorem Way.later (h : Way Q B o b P c n K l0 x w m f i wr) (hb : Below wr.heap.size wr w') : Way Q B o b P c n K l0 x w m f i w' := ⟨h.hb.later hb, h.mid, h.hp, h.pm, h.ch.trans (Chg.of_below _ hb)⟩
theorem up_end (h : HpUp (m.set i x) i) (hi : i < m.length) (e : 0 < i → ∃ y, m[(i - 1) / 4]? = some y ∧ ¬ x.lt y) : Hp (m.set i x) := by
  refine hp_of_up h fun h0 => ?_
  obtain ⟨y, hy, hn⟩ := e h0
  exact edge_of (x := x) (y := y) (by simp [hi]) (by rw [List.getElem?_set_ne (by omega)]; exact hy) hn
theorem up_next (h : HpUp (m.set i x) i) (hi : i < m.length) (h0 : 0 < i) (hy : m[(i - 1) / 4]? = some y) (e : x.lt y) : HpUp (sw (m.set i x) i ((i - 1) / 4) x y) ((i - 1) / 4) :=
  up_step h h0 (by simp [hi]) (by rw [List.getElem?_set_ne (by omega)]; exact hy) e

theorem after_put {g : Nat} (h : HB B w' o b (some ⟨g, 0, none⟩) c n (m.set i x) K f) (hy : m[j]? = some y) (hj : j ≠ i) :
    w'.cell? ⟨o, 0, none⟩ = some (.slice (some ⟨g, 0, none⟩) m.length c) ∧ w'.cell? ⟨g, j * 3, none⟩ = some (.int .i64 y.id) ∧ w'.cell? ⟨g, j * 3 + 1, none⟩ = some (.int .i64 y.w) ∧ w'.cell? ⟨g, j * 3 + 2, none⟩ = some (.int .i64 y.s) := by
  obtain ⟨g', e', h1⟩ := h.at (j := j) (x := y) (by rw [List.getElem?_set_ne (Ne.symm hj)]; exact hy)
  obtain rfl : g' = g := by injection e' with e'; injection e' with e'; exact e'.symm
  have := h.c0
  rw [List.length_set] at this
  exact ⟨this, h1⟩
set_option maxHeartbeats 8000000 in
theorem rise_any (i : Nat) (x : It) (w : World) (h : Way HpUp B o b P c n K l0 x w m f i w) (hx : Wf x.id) (hl : l0.length ≤ 1000) :
    Calls Try.prog 99 #[.pointer (some ⟨o, 0, none⟩), .int .i64 i, .agg #[.int .i64 x.id, .int .i64 x.w, .int .i64 x.s]] w (SetR B o b P c n l0 w) := by
  have hB1 : Below w.heap.size w (w.alloc (.cells #[.int .i64 x.id, .int .i64 x.w, .int .i64 x.s] 150)) := below_al w _
  have H1 := Lib.hid (h.later hB1)
  have X1 : Hid (Box (w.alloc (.cells #[.int .i64 x.id, .int .i64 x.w, .int .i64 x.s] 150)) w.heap.size x) := Box.new w x
  have n1 : Hid (o ≠ w.heap.size ∧ b ≠ w.heap.size ∧ blk P ≠ some w.heap.size) := ⟨by have := h.hb.lo; omega, by have := h.hb.tm.lt; omega, fun e => by have := (row_lt h.hb.own e).2; omega⟩
  clear h hB1
  go_enter Try.func99, Try.ntmps99
  go_wp2_with fail
  go_loopw [1] (fun u wr => ∃ (i : Nat) (m : List It) (f : Int → Int), u = .int .i64 i ∧ Hid (Way HpUp B o b P c n K l0 x w m f i wr) ∧ Hid (Box wr w.heap.size x)) (fun u _ => (intOf u).toNat)
  case atStart => exact ⟨i, m, f, rfl, H1, X1⟩
  case round =>
    clear H1 X1
    obtain ⟨i, m, f, rfl, HW, HX⟩ := hrel
    obtain ⟨q1, q2, q3⟩ := HW.out.klen hl
    by_cases h0 : i = 0
    · subst h0
      have HE : Hid (Hp (m.set 0 x)) := up_end HW.out.hp q3 fun h => absurd h (by omega)
      have e9 : ((0 : Nat) : Int) = 0 := rfl
      rw [e9]
      go_wp2_with fail
      go_quiet (fail)
      have HW2 := Lib.hid (HW.out.later (below_drewN wr nq))
      have HX2 := Lib.hid (HX.out.later (below_drewN wr nq))
      generalize wr.drewN nq = w2 at *
      obtain ⟨xs, x0, x1, x2⟩ := HX2.out
      clear HW HX
      go_wp2_with fail
      refine (put_any 0 x w2 HW2.out.hb q3 hx (by omega) q2).mono ?_
      rintro e w3 ⟨rfl, r1, r2⟩
      have HR := Lib.hid (HW2.out.end HE.out r1 r2)
      clear r1 r2 HW2 HX2 HE x0 x1 x2
      go_wp2_with fail
      go_end0
      exact HR.out
    · have hj : (i - 1) / 4 < m.length := by omega
      have hji : (i - 1) / 4 < i := by omega
      obtain ⟨j, hjj⟩ : ∃ j, j = (i - 1) / 4 := ⟨_, rfl⟩
      rw [← hjj] at hj hji
      obtain ⟨y, hy⟩ := ex_at hj
      have HY := Lib.hid hy
      have hA := fun W => above_any i W (by omega) (by omega)
      rw [← hjj] at hA
      have HJ := Lib.hid hjj
      have HL := Lib.hid q1
      have q4 : m.length ≤ 1000 := by omega
      clear hjj q1
      obtain ⟨g, rfl, y0, y1, y2⟩ := HW.out.hb.at hy
      have hpos : (0 : Int) < (i : Int) := by omega
      have hpn : 0 < i := by omega
      have dpos : decide (0 < i) = true := decide_eq_true hpn
      obtain ⟨xs, x0, x1, x2⟩ := HX.out
      have a0 := HW.out.hb.c0
      have KP : Hid (∀ v, Below wr.heap.size wr v → v.cell? ⟨o, 0, none⟩ = some (.slice (some ⟨g, 0, none⟩) m.length c) ∧ v.cell? ⟨w.heap.size, 0, none⟩ = some (.int .i64 x.id) ∧ v.cell? ⟨w.heap.size, 1, none⟩ = some (.int .i64 x.w) ∧ v.cell? ⟨w.heap.size, 2, none⟩ = some (.int .i64 x.s) ∧ v.cell? ⟨g, j * 3, none⟩ = some (.int .i64 y.id) ∧ v.cell? ⟨g, j * 3 + 1, none⟩ = some (.int .i64 y.w) ∧ v.cell? ⟨g, j * 3 + 2, none⟩ = some (.int .i64 y.s)) := fun v hb => by
        have hs := HX.out.1
        have hg := (row_lt HW.out.hb.own (k := g) rfl).2
        exact ⟨(cell_blk (hb.block _ HW.out.hb.lo) _).trans a0, (cell_blk (hb.block _ hs) _).trans x0, (cell_blk (hb.block _ hs) _).trans x1, (cell_blk (hb.block _ hs) _).trans x2, (cell_blk (hb.block _ hg) _).trans y0, (cell_blk (hb.block _ hg) _).trans y1, (cell_blk (hb.block _ hg) _).trans y2⟩
      go_wp2_with fail
      go_region_held3 (fun v => v.cell? ⟨o, 0, none⟩ = some (.slice (some ⟨g, 0, none⟩) m.length c) ∧ v.cell? ⟨w.heap.size, 0, none⟩ = some (.int .i64 x.id) ∧ v.cell? ⟨w.heap.size, 1, none⟩ = some (.int .i64 x.w) ∧ v.cell? ⟨w.heap.size, 2, none⟩ = some (.int .i64 x.s) ∧ v.cell? ⟨g, j * 3, none⟩ = some (.int .i64 y.id) ∧ v.cell? ⟨g, j * 3 + 1, none⟩ = some (.int .i64 y.w) ∧ v.cell? ⟨g, j * 3 + 2, none⟩ = some (.int .i64 y.s))
        (first | exact KP.out _ (Below.refl _ _).drew | exact KP.out _ ((Below.refl _ _).drew.trans hb3))
        (first
        | (go_at_call 98; (with_reducible refine (hA _).mono ?_); rintro e w' ⟨rfl, rfl⟩)
        | (go_at_call 97; go_loud ((with_reducible refine (order_bel x y _).mono ?_); rintro e w3 ⟨rfl, hb3⟩)))
      have hb4 : Below wr.heap.size wr w3 := (Below.refl _ _).drew.trans hb3
      obtain ⟨a0', x0', x1', x2', y0', y1', y2'⟩ := KP.out _ hb4
      have HW3 := Lib.hid (HW.out.later hb4)
      have HX3 := Lib.hid (HX.out.later hb4)
      clear HW HX KP a0 x0 x1 x2 y0 y1 y2 hb3 hb4
      by_cases hxy : x.lt y
      · have hq := (ord_neg x y).2 hxy
        have HU : Hid (HpUp (sw (m.set i x) i j x y) j) := by rw [HJ.out]; exact up_next HW3.out.hp q3 hpn (by rw [← HJ.out]; exact HY.out) hxy
        generalize ordI x y = r at *
        have hP := fun W hb => put_any i y W (HW3.out.hb.later (w' := W) hb) q3 (HW3.out.hb.wf y (at_mem HY.out)) q4 q2
        go_wp2_with fail
        go_region_held3 (fun v => v.cell? ⟨o, 0, none⟩ = some (.slice (some ⟨g, 0, none⟩) m.length c) ∧ v.cell? ⟨g, j * 3, none⟩ = some (.int .i64 y.id) ∧ v.cell? ⟨g, j * 3 + 1, none⟩ = some (.int .i64 y.w) ∧ v.cell? ⟨g, j * 3 + 2, none⟩ = some (.int .i64 y.s))
          (first | exact ⟨a0', y0', y1', y2'⟩ | exact HZ4.out)
          (first
          | (go_at_call 98; (with_reducible refine (hA _).mono ?_); rintro e w' ⟨rfl, rfl⟩)
          | (go_at_call 106; go_loud ((with_reducible refine (hP _ (Below.refl _ _).drew).mono ?_); rintro e w4 ⟨rfl, r1, r2⟩; have HZ4 : Hid (w4.cell? ⟨o, 0, none⟩ = some (.slice (some ⟨g, 0, none⟩) m.length c) ∧ w4.cell? ⟨g, j * 3, none⟩ = some (.int .i64 y.id) ∧ w4.cell? ⟨g, j * 3 + 1, none⟩ = some (.int .i64 y.w) ∧ w4.cell? ⟨g, j * 3 + 2, none⟩ = some (.int .i64 y.s)) := (after_put r1 HY.out (by omega)))))
        have HW4 : Hid (Way HpUp B o b (some ⟨g, 0, none⟩) c n K l0 x w (m.set i y) (fput f y.id i) j w4) := (HW3.out.later (Below.refl _ _).drew).step (by omega) HY.out HU.out r1 r2
        have HX4 : Hid (Box w4 w.heap.size x) := (HX3.out.later (Below.refl _ _).drew).chg r2 n1.out
        clear r1 r2 HW3 HX3 HU HZ4 a0' x0' x1' x2' y0' y1' y2' hP
        go_wp2_with (go_at_call 98; (with_reducible refine (hA _).mono ?_); rintro e w' ⟨rfl, rfl⟩)
        go_roundw
        case rel => exact ⟨j, m.set i y, fput f y.id i, rfl, HW4, HX4⟩
        case measure => simp [intOf]; omega
      · have hq : ¬ ordI x y < 0 := fun e => hxy ((ord_neg x y).1 e)
        have HE : Hid (Hp (m.set i x)) := up_end HW3.out.hp q3 fun _ => ⟨y, by rw [← HJ.out]; exact HY.out, hxy⟩
        generalize ordI x y = r at *
        go_wp2_with fail
        refine (put_any i x w3 HW3.out.hb q3 hx q4 q2).mono ?_
        rintro e w4 ⟨rfl, r1, r2⟩
        have HR := Lib.hid (HW3.out.end HE.out r1 r2)
        clear r1 r2 HW3 HX3 HE a0' x0' x1' x2' y0' y1' y2'
        go_wp2_with fail
        go_end0
        exact HR.out
end
end Go.Proofs.Ytdpapnfjpefhkaa
namespace Go.Proofs.Ytdpapnfjpefhkaa
open Go.RowKit
set_option linter.unusedVariables false
set_option maxRecDepth 100000
section
variable {Q : List It → Nat → Prop} {B o b c n s : Nat} {P : Option Addr} {m : List It} {K : List Int} {f : Int → Int} {l0 : List It} {x y : It} {w w' wr : World} {i j : Nat}
theorem dn_end (h : HpDn (m.set i x) i) (hi : i < m.length) (e : ∀ c, 0 < c → c < m.length → (c - 1) / 4 = i → ∀ v, m[c]? = some v → x.le v) : Hp (m.set i x) := by
  refine hp_of_dn h (below_of (x := x) (by simp [hi]) fun c h1 h2 h3 v hv => ?_)
  rw [List.length_set] at h2
  rw [List.getElem?_set_ne (by omega)] at hv
  exact e c h1 h2 h3 v hv
theorem dn_next (h : HpDn (m.set i x) i) (hi : i < m.length) (h0 : 0 < j) (hj : (j - 1) / 4 = i) (hy : m[j]? = some y) (e : ∀ c, 0 < c → c < m.length → (c - 1) / 4 = i → ∀ v, m[c]? = some v → y.le v) (hxy : ¬ x.lt y) : HpDn (sw (m.set i x) i j x y) j := by
  refine dn_step h h0 hj (by simp [hi]) (by rw [List.getElem?_set_ne (by omega)]; exact hy) (It.le_of_not hxy) fun c h1 h2 h3 v hv => ?_
  rw [List.length_set] at h2
  rw [List.getElem?_set_ne (by omega)] at hv
  exact e c h1 h2 h3 v hv

set_option maxHeartbeats 8000000 in
theorem sink_any (i : Nat) (x : It) (w : World) (h : Way HpDn B o b P c n K l0 x w m f i w) (hx : Wf x.id) (hl : l0.length ≤ 1000) :
    Calls Try.prog 100 #[.pointer (some ⟨o, 0, none⟩), .int .i64 i, .agg #[.int .i64 x.id, .int .i64 x.w, .int .i64 x.s]] w (SetR B o b P c n l0 w) := by
  have hB1 : Below w.heap.size w (w.alloc (.cells #[.int .i64 x.id, .int .i64 x.w, .int .i64 x.s] 150)) := below_al w _
  have H1 := Lib.hid (h.later hB1)
  have X1 : Hid (Box (w.alloc (.cells #[.int .i64 x.id, .int .i64 x.w, .int .i64 x.s] 150)) w.heap.size x) := Box.new w x
  have n1 : Hid (o ≠ w.heap.size ∧ b ≠ w.heap.size ∧ blk P ≠ some w.heap.size) := ⟨by have := h.hb.lo; omega, by have := h.hb.tm.lt; omega, fun e => by have := (row_lt h.hb.own e).2; omega⟩
  clear h hB1
  go_enter Try.func100, Try.ntmps100
  go_wp2_with fail
  go_loopw [1] (fun u wr => ∃ (i : Nat) (m : List It) (f : Int → Int), u = .int .i64 i ∧ Hid (Way HpDn B o b P c n K l0 x w m f i wr) ∧ Hid (Box wr w.heap.size x)) (fun u _ => l0.length - (intOf u).toNat)
  case atStart => exact ⟨i, m, f, rfl, H1, X1⟩
  case round =>
    clear H1 X1
    obtain ⟨i, m, f, rfl, HW, HX⟩ := hrel
    obtain ⟨q1, q2, q3⟩ := HW.out.klen hl
    have HL := Lib.hid q1
    have q4 : m.length ≤ 1000 := by omega
    clear q1
    by_cases h0 : m.length ≤ 4 * i + 1
    · have HE : Hid (Hp (m.set i x)) := dn_end HW.out.hp q3 fun c h1 h2 h3 => absurd h2 (by omega)
      go_wp2_with fail
      refine (first_none i wr HW.out.hb h0 (by omega)).mono ?_
      rintro e w1 ⟨rfl, rfl⟩
      go_wp2_with fail
      go_quiet (fail)
      have HW2 := Lib.hid (HW.out.later (below_drewN wr nq))
      have HX2 := Lib.hid (HX.out.later (below_drewN wr nq))
      generalize wr.drewN nq = w2 at *
      obtain ⟨xs, x0, x1, x2⟩ := HX2.out
      clear HW HX h0
      go_wp2_with fail
      refine (put_any i x w2 HW2.out.hb q3 hx q4 q2).mono ?_
      rintro e w3 ⟨rfl, r1, r2⟩
      have HR := Lib.hid (HW2.out.end HE.out r1 r2)
      clear r1 r2 HW2 HX2 HE x0 x1 x2
      go_wp2_with fail
      go_end0
      exact HR.out
    · go_wp2_with fail
      refine (first_some i wr HW.out.hb (by omega) q4).mono ?_
      rintro e w1 ⟨j, y, rfl, hj0, hji, hy, hmin, hb1⟩
      have hj := at_lt hy
      have hne : i < j := by omega
      have HJ := Lib.hid (And.intro hj0 (And.intro hji hmin))
      have HY := Lib.hid hy
      have HW1 := Lib.hid (HW.out.later hb1)
      have HX1 := Lib.hid (HX.out.later hb1)
      clear HW HX hb1 hji hmin hj0
      obtain ⟨g, rfl, y0, y1, y2⟩ := HW1.out.hb.at hy
      obtain ⟨xs, x0, x1, x2⟩ := HX1.out
      have a0 := HW1.out.hb.c0
      clear hy
      have KP : Hid (∀ v, Below w1.heap.size w1 v → v.cell? ⟨o, 0, none⟩ = some (.slice (some ⟨g, 0, none⟩) m.length c) ∧ v.cell? ⟨w.heap.size, 0, none⟩ = some (.int .i64 x.id) ∧ v.cell? ⟨w.heap.size, 1, none⟩ = some (.int .i64 x.w) ∧ v.cell? ⟨w.heap.size, 2, none⟩ = some (.int .i64 x.s) ∧ v.cell? ⟨g, j * 3, none⟩ = some (.int .i64 y.id) ∧ v.cell? ⟨g, j * 3 + 1, none⟩ = some (.int .i64 y.w) ∧ v.cell? ⟨g, j * 3 + 2, none⟩ = some (.int .i64 y.s)) := fun v hb => by
        have hs := HX1.out.1
        have hg := (row_lt HW1.out.hb.own (k := g) rfl).2
        exact ⟨(cell_blk (hb.block _ HW1.out.hb.lo) _).trans a0, (cell_blk (hb.block _ hs) _).trans x0, (cell_blk (hb.block _ hs) _).trans x1, (cell_blk (hb.block _ hs) _).trans x2, (cell_blk (hb.block _ hg) _).trans y0, (cell_blk (hb.block _ hg) _).trans y1, (cell_blk (hb.block _ hg) _).trans y2⟩
      go_wp2_with fail
      go_region_held3 (fun v => v.cell? ⟨o, 0, none⟩ = some (.slice (some ⟨g, 0, none⟩) m.length c) ∧ v.cell? ⟨w.heap.size, 0, none⟩ = some (.int .i64 x.id) ∧ v.cell? ⟨w.heap.size, 1, none⟩ = some (.int .i64 x.w) ∧ v.cell? ⟨w.heap.size, 2, none⟩ = some (.int .i64 x.s) ∧ v.cell? ⟨g, j * 3, none⟩ = some (.int .i64 y.id) ∧ v.cell? ⟨g, j * 3 + 1, none⟩ = some (.int .i64 y.w) ∧ v.cell? ⟨g, j * 3 + 2, none⟩ = some (.int .i64 y.s))
        (first | exact KP.out _ (Below.refl _ _).drew | exact KP.out _ ((Below.refl _ _).drew.trans hb3))
        (first
        | (go_at_call 97; go_loud ((with_reducible refine (order_bel y x _).mono ?_); rintro e w3 ⟨rfl, hb3⟩)))
      have hb4 : Below w1.heap.size w1 w3 := (Below.refl _ _).drew.trans hb3
      obtain ⟨a0', x0', x1', x2', y0', y1', y2'⟩ := KP.out _ hb4
      have HW3 := Lib.hid (HW1.out.later hb4)
      have HX3 := Lib.hid (HX1.out.later hb4)
      clear HW1 HX1 KP a0 x0 x1 x2 y0 y1 y2 hb3 hb4
      by_cases hxy : x.lt y
      · have hq := (ord_pos y x).2 hxy
        have HE : Hid (Hp (m.set i x)) := dn_end HW3.out.hp q3 fun c h1 h2 h3 v hv => It.le_trans (It.le_of_lt hxy) (HJ.out.2.2 c h1 h2 h3 v hv)
        generalize ordI y x = r at *
        go_wp2_with fail
        refine (put_any i x w3 HW3.out.hb q3 hx q4 q2).mono ?_
        rintro e w4 ⟨rfl, r1, r2⟩
        have HR := Lib.hid (HW3.out.end HE.out r1 r2)
        clear r1 r2 HW3 HX3 HE a0' x0' x1' x2' y0' y1' y2'
        go_wp2_with fail
        go_end0
        exact HR.out
      · have hq : ¬ 0 < ordI y x := fun e => hxy ((ord_pos y x).1 e)
        have HU : Hid (HpDn (sw (m.set i x) i j x y) j) := dn_next HW3.out.hp q3 HJ.out.1 HJ.out.2.1 HY.out HJ.out.2.2 hxy
        generalize ordI y x = r at *
        go_wp2_with fail
        refine (put_any i y w3 HW3.out.hb q3 (HW3.out.hb.wf y (at_mem HY.out)) q4 q2).mono ?_
        rintro e w4 ⟨rfl, r1, r2⟩
        have HW4 : Hid (Way HpDn B o b (some ⟨g, 0, none⟩) c n K l0 x w (m.set i y) (fput f y.id i) j w4) := HW3.out.step (by omega) HY.out HU.out r1 r2
        have HX4 : Hid (Box w4 w.heap.size x) := HX3.out.chg r2 n1.out
        clear r1 r2 HW3 HX3 HU a0' x0' x1' x2' y0' y1' y2'
        go_wp2_with fail
        go_roundw
        case rel => exact ⟨j, m.set i y, fput f y.id i, rfl, HW4, HX4⟩
        case measure => have := HL.out; simp [intOf]; omega
end
end Go.Proofs.Ytdpapnfjpefhkaa
