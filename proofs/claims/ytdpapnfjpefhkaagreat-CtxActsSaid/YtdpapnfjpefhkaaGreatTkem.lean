/- What Take of package expire does, whole. Conditions: each theorem's own premises.
What each call of package expire makes of timers, as the laws want it. Conditions: each theorem's own premises.
Timers within a set, made or not made yet. Conditions: each theorem's own premises.
Slices of numbers that came in; the one at n of so many. No condition.
A region that draws its order: what holds of it as a whole, reckoned once. Conditions: each theorem's own premises.
A region that draws its order, where behind several operations nothing is asked. Conditions: each theorem's own premises. -/
import Derived.Test.YtdpapnfjpefhkaaGreatRemm
namespace Go.Proofs.YtdpapnfjpefhkaaGreat
open Go.RowKit
set_option linter.unusedVariables false
set_option maxRecDepth 100000
abbrev vD (i x y : Int) : Value := .agg #[.int .i64 i, .int .i64 x, .int .i64 y]
def Dbk (w : World) (s : Nat) (i x y : Int) : Prop := w.heap[s]? = some (.cells #[.int .i64 i, .int .i64 x, .int .i64 y] 167 (0, 0))
section
variable {B t o b c n n' N N' : Nat} {vA vL : Value} {p p' : Option Nat} {S S' : List It} {g g' : Int → Int} {w w' : World} {e : Ending} {v : Value} {i x y : Int} {s : Nat}
theorem Dbk.new (w : World) (i x y : Int) : Dbk (w.alloc (.cells #[.int .i64 i, .int .i64 x, .int .i64 y] 167)) w.heap.size i x y := heap_alloc_new w _
theorem Dbk.later (h : Dbk w s i x y) (hb : Below w.heap.size w w') : Dbk w' s i x y := (hb.block s (lt_of_blk h)).trans h
theorem Dbk.tc (h : Dbk w s i x y) (f : Far s o b c p) (hc : TC o b c p p' w w') : Dbk w' s i x y := (hc.block s (lt_of_blk h) f.1 f.2.1 f.2.2.1 f.2.2.2).trans h
theorem Dbk.cells (h : Dbk w s i x y) : w.cell? ⟨s, 0, none⟩ = some (.int .i64 i) ∧ w.cell? ⟨s, 1, none⟩ = some (.int .i64 x) ∧ w.cell? ⟨s, 2, none⟩ = some (.int .i64 y) ∧ w.frozen? ⟨s, 0, none⟩ = false ∧ w.frozen? ⟨s, 1, none⟩ = false ∧ w.frozen? ⟨s, 2, none⟩ = false :=
 ⟨by rw [cell_of_row w s 0 _ _ _ h]; rfl, by rw [cell_of_row w s 1 _ _ _ h]; rfl, by rw [cell_of_row w s 2 _ _ _ h]; rfl, frozen_of_row w s 0 _ _ h, frozen_of_row w s 1 _ _ h, frozen_of_row w s 2 _ _ h⟩
theorem TC.set (h : TC o b c p p' w w') (hs : w.heap.size ≤ s) (j : Nat) (v : Value) : TC o b c p p' w (w'.setCell ⟨s, j, none⟩ v) :=
 ⟨h.os, h.tape, h.output, by have := h.size; simpa [World.setCell] using this, fun k hk a1 a2 a3 a4 => (Below.heap_setCell _ _ _ _ (show k ≠ s by omega)).trans (h.block k hk a1 a2 a3 a4), h.new⟩
theorem XC.set3 {w1 : World} {u : Value} (h : XC B t vA vL o b c p n N S g v w1 e w') (h0 : TC o b c p p w w1) (hs : w.heap.size ≤ s) (hd : Dbk w' s i x y) (i' x' y' : Int) :
  XC B t vA vL o b c p n N S g u w (.returned u) (((w'.setCell ⟨s, 0, none⟩ (.int .i64 i')).setCell ⟨s, 1, none⟩ (.int .i64 x')).setCell ⟨s, 2, none⟩ (.int .i64 y')) := by
 obtain ⟨_, p1, h1, h2⟩ := h
 have e1 := heap_setCell_same w' s 0 _ _ (.int .i64 i') hd
 have e2 := heap_setCell_same _ s 1 _ _ (.int .i64 x') e1
 exact ⟨rfl, p1, ((h1.cell hd (by decide) (by decide) (by decide) _).cell e1 (by decide) (by decide) (by decide) _).cell e2 (by decide) (by decide) (by decide) _, (((h0.trans h2).set hs 0 _).set hs 1 _).set hs 2 _⟩
def DbR (i x y : Int) (d : Bool) (w : World) (e : Ending) (w' : World) : Prop := e = .returned (.tuple #[vD i x y, .bool d]) ∧ Below w.heap.size w w'
theorem below_set3 {r : Nat} {a b c : Value} (h : Below w.heap.size w w') (hr : w.heap.size ≤ r) : Below w.heap.size w (((w'.setCell ⟨r, 0, none⟩ a).setCell ⟨r, 1, none⟩ b).setCell ⟨r, 2, none⟩ c) := ((h.setCell hr _).setCell hr _).setCell hr _
set_option maxHeartbeats 4000000 in
theorem take_empty {now : Int} (h : TT B t vA vL o b c p n N [] g w):
  Calls Tryz.prog 65 #[.pointer (some ⟨t, 1, none⟩), .int .i64 now] w (DbR 0 0 0 false w) := by
 have c0 := h.c0
 have ht := h.lt
 have FR := Lib.hid h.far
 have HA := Lib.hid (h.later (below_al w (.cells #[.int .i64 0, .int .i64 0, .int .i64 0] 167)))
 have D1 := Lib.hid (Dbk.new w 0 0 0)
 have HB1 := Lib.hid (below_al w (.cells #[.int .i64 0, .int .i64 0, .int .i64 0] 167))
 clear h
 go_enter Tryz.func65, Tryz.ntmps65
 go_wp2_with fail
 refine (gmin_none HA.out.hg).mono ?_
 rintro e w1 ⟨rfl, hb⟩
 generalize w.alloc (.cells #[.int .i64 0, .int .i64 0, .int .i64 0] 167) = wa at *
 have HA1 := Lib.hid (HA.out.later hb)
 have D1 := Lib.hid (D1.out.later hb)
 have HB1 := Lib.hid (HB1.out.trans (hb.mono HB1.out.size))
 clear hb HA
 have X1 := Lib.hid (Blk.new w1 zI)
 have NS := Lib.hid HA1.out.far
 have HA := Lib.hid (HA1.out.later (below_al w1 (.cells #[.int .i64 zI.id, .int .i64 zI.w, .int .i64 zI.s] 203)))
 have D1 := Lib.hid (D1.out.later (below_al w1 (.cells #[.int .i64 zI.id, .int .i64 zI.w, .int .i64 zI.s] 203)))
 have HB1 := Lib.hid (HB1.out.trans ((below_al w1 (.cells #[.int .i64 zI.id, .int .i64 zI.w, .int .i64 zI.s] 203)).mono HB1.out.size))
 clear HA1
 go_upto_region 4 with (fail)
 generalize w1.alloc (.cells #[.int .i64 zI.id, .int .i64 zI.w, .int .i64 zI.s] 203) = w2 at *
 generalize w1.heap.size = s at *
 clear c0 ht
 have c0 := HA.out.c0
 obtain ⟨x0, x1, x2, _⟩ := X1.out.cells
 obtain ⟨d0, d1, d2, f0, f1, f2⟩ := D1.out.cells
 go_wp2_with fail
 refine bodyPost_ret (v := .tuple #[vD 0 0 0, .bool false]) ?_ rfl ⟨rfl, below_set3 HB1.out (Nat.le_refl _)⟩
 rw [results_cell_tmp rfl]
 go_simp
set_option maxHeartbeats 4000000 in
theorem take_early {x : It} {now : Int} (h : TT B t vA vL o b c p n N (x :: S) g w) (hl : (x :: S).length ≤ 1000) (hw : now < x.w) :
  Calls Tryz.prog 65 #[.pointer (some ⟨t, 1, none⟩), .int .i64 now] w (DbR 0 0 0 false w) := by
 have c0 := h.c0
 have ht := h.lt
 have FR := Lib.hid h.far
 have HA := Lib.hid (h.later (below_al w (.cells #[.int .i64 0, .int .i64 0, .int .i64 0] 167)))
 have D1 := Lib.hid (Dbk.new w 0 0 0)
 have HB1 := Lib.hid (below_al w (.cells #[.int .i64 0, .int .i64 0, .int .i64 0] 167))
 clear h
 go_enter Tryz.func65, Tryz.ntmps65
 go_wp2_with fail
 refine (gmin_some HA.out.hg HA.out.ok.srt hl).mono ?_
 rintro e w1 ⟨rfl, hb⟩
 generalize w.alloc (.cells #[.int .i64 0, .int .i64 0, .int .i64 0] 167) = wa at *
 have HA1 := Lib.hid (HA.out.later hb)
 have D1 := Lib.hid (D1.out.later hb)
 have HB1 := Lib.hid (HB1.out.trans (hb.mono HB1.out.size))
 clear hb HA
 have X1 := Lib.hid (Blk.new w1 x)
 have NS := Lib.hid HA1.out.far
 have HA := Lib.hid (HA1.out.later (below_al w1 (.cells #[.int .i64 x.id, .int .i64 x.w, .int .i64 x.s] 203)))
 have D1 := Lib.hid (D1.out.later (below_al w1 (.cells #[.int .i64 x.id, .int .i64 x.w, .int .i64 x.s] 203)))
 have HB1 := Lib.hid (HB1.out.trans ((below_al w1 (.cells #[.int .i64 x.id, .int .i64 x.w, .int .i64 x.s] 203)).mono HB1.out.size))
 clear HA1
 go_upto_region 4 with (fail)
 generalize w1.alloc (.cells #[.int .i64 x.id, .int .i64 x.w, .int .i64 x.s] 203) = w2 at *
 generalize w1.heap.size = s at *
 clear c0 ht
 have c0 := HA.out.c0
 obtain ⟨x0, x1, x2, _⟩ := X1.out.cells
 obtain ⟨d0, d1, d2, f0, f1, f2⟩ := D1.out.cells
 go_wp2_with fail
 refine bodyPost_ret (v := .tuple #[vD 0 0 0, .bool false]) ?_ rfl ⟨rfl, below_set3 HB1.out (Nat.le_refl _)⟩
 rw [results_cell_tmp rfl]
 go_simp
set_option maxHeartbeats 4000000 in
theorem take_end {x : It} {now : Int} (h : TT B t vA vL o b c p n N (x :: S) g w) (hl : (x :: S).length ≤ 1000) (hw : x.w ≤ now) (hg : ¬ Gon x.w (g x.id) now) :
  Calls Tryz.prog 65 #[.pointer (some ⟨t, 1, none⟩), .int .i64 now] w (XC B t vA vL o b c p n N S (fput g x.id 0) (.tuple #[vD x.id x.w now, .bool true]) w) := by
 have hw2 : ¬ now < x.w := by omega
 clear hw
 have htl := h.ok.tail.1
 have hmem : x ∈ x :: S := by simp
 have c0 := h.c0
 have ht := h.lt
 have FR := Lib.hid h.far
 have HA := Lib.hid (h.later (below_al w (.cells #[.int .i64 0, .int .i64 0, .int .i64 0] 167)))
 have D1 := Lib.hid (Dbk.new w 0 0 0)
 have HB1 := Lib.hid (below_al w (.cells #[.int .i64 0, .int .i64 0, .int .i64 0] 167))
 clear h
 go_enter Tryz.func65, Tryz.ntmps65
 go_wp2_with fail
 refine (gmin_some HA.out.hg HA.out.ok.srt hl).mono ?_
 rintro e w1 ⟨rfl, hb⟩
 generalize w.alloc (.cells #[.int .i64 0, .int .i64 0, .int .i64 0] 167) = wa at *
 have HA1 := Lib.hid (HA.out.later hb)
 have D1 := Lib.hid (D1.out.later hb)
 have HB1 := Lib.hid (HB1.out.trans (hb.mono HB1.out.size))
 clear hb HA
 have X1 := Lib.hid (Blk.new w1 x)
 have NS := Lib.hid HA1.out.far
 have HA := Lib.hid (HA1.out.later (below_al w1 (.cells #[.int .i64 x.id, .int .i64 x.w, .int .i64 x.s] 203)))
 have D1 := Lib.hid (D1.out.later (below_al w1 (.cells #[.int .i64 x.id, .int .i64 x.w, .int .i64 x.s] 203)))
 have HB1 := Lib.hid (HB1.out.trans ((below_al w1 (.cells #[.int .i64 x.id, .int .i64 x.w, .int .i64 x.s] 203)).mono HB1.out.size))
 clear HA1
 go_upto_region 4 with (fail)
 generalize w1.alloc (.cells #[.int .i64 x.id, .int .i64 x.w, .int .i64 x.s] 203) = w2 at *
 generalize w1.heap.size = s at *
 clear c0 ht
 have c0 := HA.out.c0
 obtain ⟨x0, x1, x2, _⟩ := X1.out.cells
 obtain ⟨d0, d1, d2, f0, f1, f2⟩ := D1.out.cells
 go_wp2_with fail
 refine (again_end HA.out hmem hl hg).mono ?_
 rintro e w3 hr3
 have HR := Lib.hid hr3
 obtain rfl := hr3.1
 clear hr3
 obtain ⟨_, p1, h1, h2⟩ := HR.out
 have X3 := Lib.hid (X1.out.tc NS.out h2)
 have D3 := Lib.hid (D1.out.tc FR.out h2)
 clear h1 h2 x0 x1 x2 d0 d1 d2 f0 f1 f2 c0
 obtain ⟨x0, x1, x2, _⟩ := X3.out.cells
 obtain ⟨d0, d1, d2, f0, f1, f2⟩ := D3.out.cells
 have HF : Hid (XC B t vA vL o b c p n N S (fput g x.id 0) (.tuple #[vD x.id x.w now, .bool true]) w (.returned (.tuple #[vD x.id x.w now, .bool true])) (((w3.setCell ⟨w.heap.size, 0, none⟩ (.int .i64 x.id)).setCell ⟨w.heap.size, 1, none⟩ (.int .i64 x.w)).setCell ⟨w.heap.size, 2, none⟩ (.int .i64 now))) := by
  have h9 := HR.out.set3 (u := .tuple #[vD x.id x.w now, .bool true]) (TC.of_below p HB1.out) (Nat.le_refl _) D3.out x.id x.w now
  rw [htl] at h9
  exact h9
 clear HR X1 D1 HA
 go_wp2_with fail
 refine bodyPost_ret (v := .tuple #[vD x.id x.w now, .bool true]) ?_ rfl HF.out
 rw [results_cell_tmp rfl]
 go_simp
set_option maxHeartbeats 4000000 in
theorem take_on {x : It} {now : Int} (h : TT B t vA vL o b c p n N (x :: S) g w) (hn : n ≤ 1000000) (hl : (x :: S).length ≤ 1000) (hw : x.w ≤ now) (hg : Gon x.w (g x.id) now) :
  Calls Tryz.prog 65 #[.pointer (some ⟨t, 1, none⟩), .int .i64 now] w (XC B t vA vL o b c p (n + 1) N (ins ⟨x.id, nx x.w (g x.id) now, (n : Int) + 1⟩ S) g (.tuple #[vD x.id x.w now, .bool true]) w) := by
 have hw2 : ¬ now < x.w := by omega
 clear hw
 have htl := h.ok.tail.1
 have hmem : x ∈ x :: S := by simp
 have c0 := h.c0
 have ht := h.lt
 have FR := Lib.hid h.far
 have HA := Lib.hid (h.later (below_al w (.cells #[.int .i64 0, .int .i64 0, .int .i64 0] 167)))
 have D1 := Lib.hid (Dbk.new w 0 0 0)
 have HB1 := Lib.hid (below_al w (.cells #[.int .i64 0, .int .i64 0, .int .i64 0] 167))
 clear h
 go_enter Tryz.func65, Tryz.ntmps65
 go_wp2_with fail
 refine (gmin_some HA.out.hg HA.out.ok.srt hl).mono ?_
 rintro e w1 ⟨rfl, hb⟩
 generalize w.alloc (.cells #[.int .i64 0, .int .i64 0, .int .i64 0] 167) = wa at *
 have HA1 := Lib.hid (HA.out.later hb)
 have D1 := Lib.hid (D1.out.later hb)
 have HB1 := Lib.hid (HB1.out.trans (hb.mono HB1.out.size))
 clear hb HA
 have X1 := Lib.hid (Blk.new w1 x)
 have NS := Lib.hid HA1.out.far
 have HA := Lib.hid (HA1.out.later (below_al w1 (.cells #[.int .i64 x.id, .int .i64 x.w, .int .i64 x.s] 203)))
 have D1 := Lib.hid (D1.out.later (below_al w1 (.cells #[.int .i64 x.id, .int .i64 x.w, .int .i64 x.s] 203)))
 have HB1 := Lib.hid (HB1.out.trans ((below_al w1 (.cells #[.int .i64 x.id, .int .i64 x.w, .int .i64 x.s] 203)).mono HB1.out.size))
 clear HA1
 go_upto_region 4 with (fail)
 generalize w1.alloc (.cells #[.int .i64 x.id, .int .i64 x.w, .int .i64 x.s] 203) = w2 at *
 generalize w1.heap.size = s at *
 clear c0 ht
 have c0 := HA.out.c0
 obtain ⟨x0, x1, x2, _⟩ := X1.out.cells
 obtain ⟨d0, d1, d2, f0, f1, f2⟩ := D1.out.cells
 go_wp2_with fail
 refine (again_on HA.out hmem hn hl hg).mono ?_
 rintro e w3 hr3
 have HR := Lib.hid hr3
 obtain rfl := hr3.1
 clear hr3
 obtain ⟨_, p1, h1, h2⟩ := HR.out
 have X3 := Lib.hid (X1.out.tc NS.out h2)
 have D3 := Lib.hid (D1.out.tc FR.out h2)
 clear h1 h2 x0 x1 x2 d0 d1 d2 f0 f1 f2 c0
 obtain ⟨x0, x1, x2, _⟩ := X3.out.cells
 obtain ⟨d0, d1, d2, f0, f1, f2⟩ := D3.out.cells
 have HF : Hid (XC B t vA vL o b c p (n + 1) N (ins ⟨x.id, nx x.w (g x.id) now, (n : Int) + 1⟩ S) g (.tuple #[vD x.id x.w now, .bool true]) w (.returned (.tuple #[vD x.id x.w now, .bool true])) (((w3.setCell ⟨w.heap.size, 0, none⟩ (.int .i64 x.id)).setCell ⟨w.heap.size, 1, none⟩ (.int .i64 x.w)).setCell ⟨w.heap.size, 2, none⟩ (.int .i64 now))) := by
  have h9 := HR.out.set3 (u := .tuple #[vD x.id x.w now, .bool true]) (TC.of_below p HB1.out) (Nat.le_refl _) D3.out x.id x.w now
  rw [htl] at h9
  exact h9
 clear HR X1 D1 HA
 go_wp2_with fail
 refine bodyPost_ret (v := .tuple #[vD x.id x.w now, .bool true]) ?_ rfl HF.out
 rw [results_cell_tmp rfl]
 go_simp
end
end Go.Proofs.YtdpapnfjpefhkaaGreat
namespace Go.Proofs.YtdpapnfjpefhkaaGreat
open Go.RowKit
set_option linter.unusedVariables false
set_option maxRecDepth 100000
section
variable {W w w' : World} {B t o b c n : Nat} {vA vL : Value} {S : List It} {g : Int → Int}
abbrev pT (t : Nat) : Value := .pointer (some ⟨t, 1, none⟩)
theorem tn_arm (k x y : Int) (h : TN B t vA vL o b c n S g w) (hk : Wf k) (hx : Fit x) (hy : Fit y) (hn : n ≤ 1000000) (hl : S.length < 1000) : Calls Tryz.prog 117 #[pT t, .int .i64 k, .int .i64 x, .int .i64 y] w (XR B t vA vL o b c (n + 1) (ins ⟨k, x, (n : Int) + 1⟩ (del k S)) (fput g k y) (.int .i64 0) w) := by
 obtain ⟨p, N, hN, h⟩ := h
 exact (arm_any k x y h hk hx hy hn (by omega) hl).mono fun _ _ r => h.xr (by omega) r
theorem tn_stop_yes {x : It} (h : TN B t vA vL o b c n S g w) (hx : x ∈ S) (hl : S.length ≤ 1000) : Calls Tryz.prog 108 #[pT t, .int .i64 x.id] w (XR B t vA vL o b c n (del x.id S) (fput g x.id 0) (.bool true) w) := by
 obtain ⟨p, N, hN, h⟩ := h
 exact (stop_yes h hx hl).mono fun _ _ r => h.xr hN r
theorem tn_stop_no {k : Int} (h : TN B t vA vL o b c n S g w) (hk : Wf k) (hm : k ∉ ids S) : Calls Tryz.prog 108 #[pT t, .int .i64 k] w (XR B t vA vL o b c n S (fput g k 0) (.bool false) w) := by
 obtain ⟨p, N, hN, h⟩ := h
 exact (stop_no h hk hm).mono fun _ _ r => h.xr hN r
theorem tn_next {x : It} (h : TN B t vA vL o b c n (x :: S) g w) (hl : (x :: S).length ≤ 1000) : Calls Tryz.prog 54 #[pT t] w (XR B t vA vL o b c n (x :: S) g (.tuple #[.int .i64 x.w, .bool true]) w) := by
 have H := h
 obtain ⟨p, N, hN, h⟩ := h
 exact (next_some h hl).mono fun _ _ r => H.same r
theorem tn_next_no (h : TN B t vA vL o b c n [] g w) : Calls Tryz.prog 54 #[pT t] w (XR B t vA vL o b c n [] g (.tuple #[.int .i64 0, .bool false]) w) := by
 have H := h
 obtain ⟨p, N, hN, h⟩ := h
 exact (next_none h).mono fun _ _ r => H.same r
def Idle (now : Int) : List It → Prop
 | [] => True
 | x :: _ => now < x.w
theorem tn_take_no {now : Int} (h : TN B t vA vL o b c n S g w) (hl : S.length ≤ 1000) (hi : Idle now S) : Calls Tryz.prog 65 #[pT t, .int .i64 now] w (XR B t vA vL o b c n S g (.tuple #[vD 0 0 0, .bool false]) w) := by
 have H := h
 obtain ⟨p, N, hN, h⟩ := h
 cases S with
 | nil => exact (take_empty h).mono fun _ _ r => H.same r
 | cons x S => exact (take_early h hl hi).mono fun _ _ r => H.same r
theorem tn_take_end {x : It} {now : Int} (h : TN B t vA vL o b c n (x :: S) g w) (hl : (x :: S).length ≤ 1000) (hw : x.w ≤ now) (hg : ¬ Gon x.w (g x.id) now) : Calls Tryz.prog 65 #[pT t, .int .i64 now] w (XR B t vA vL o b c n S (fput g x.id 0) (.tuple #[vD x.id x.w now, .bool true]) w) := by
 obtain ⟨p, N, hN, h⟩ := h
 exact (take_end h hl hw hg).mono fun _ _ r => h.xr hN r
theorem tn_take_on {x : It} {now : Int} (h : TN B t vA vL o b c n (x :: S) g w) (hn : n ≤ 1000000) (hl : (x :: S).length ≤ 1000) (hw : x.w ≤ now) (hg : Gon x.w (g x.id) now) : Calls Tryz.prog 65 #[pT t, .int .i64 now] w (XR B t vA vL o b c (n + 1) (ins ⟨x.id, nx x.w (g x.id) now, (n : Int) + 1⟩ S) g (.tuple #[vD x.id x.w now, .bool true]) w) := by
 obtain ⟨p, N, hN, h⟩ := h
 exact (take_on h hn hl hw hg).mono fun _ _ r => h.xr (by omega) r
end
structure XS (W : World) (t : Nat) (vA vL : Value) (o b c n : Nat) (S : List It) (g : Int → Int) (w : World) : Prop where
 bel : Below W.heap.size W w
 tn : TN W.heap.size t vA vL o b c n S g w
section
variable {W w w' : World} {t o b c n n' : Nat} {vA vL : Value} {S S' : List It} {g g' : Int → Int} {v : Value} {f : Nat} {args : Array Value} {e : Ending}
theorem XS.later (h : XS W t vA vL o b c n S g w) (hb : Below w.heap.size w w') : XS W t vA vL o b c n S g w' := ⟨h.bel.trans (hb.mono h.bel.size), h.tn.later hb⟩
theorem XS.go (h : XS W t vA vL o b c n S g w) (r : XR W.heap.size t vA vL o b c n' S' g' v w e w') : e = .returned v ∧ XS W t vA vL o b c n' S' g' w' ∧ OX w w' := ⟨r.1, ⟨h.bel.trans r.2.2.1, r.2.1⟩, r.2.2.2⟩
theorem XS.run (h : XS W t vA vL o b c n S g w) (hc : Calls Tryz.prog f args w (XR W.heap.size t vA vL o b c n' S' g' v w)) : Calls Tryz.prog f args w (fun e w' => e = .returned v ∧ XS W t vA vL o b c n' S' g' w' ∧ OX w w') := hc.mono fun _ _ r => h.go r
theorem XS.cell (h : XS W t vA vL o b c n S g w) {s ty j : Nat} {cs : Array Value} {fr : Nat × Nat} (hs : W.heap.size ≤ s) (ht : w.heap[s]? = some (.cells cs ty fr)) (h1 : ty ≠ 228) (h2 : ty ≠ 203) (h3 : ty ≠ 146) (v : Value) : XS W t vA vL o b c n S g (w.setCell ⟨s, j, none⟩ v) := ⟨h.bel.setCell hs _, h.tn.cell ht h1 h2 h3 v⟩
end
end Go.Proofs.YtdpapnfjpefhkaaGreat
namespace Go.Proofs.YtdpapnfjpefhkaaGreat
open Go.RowKit
set_option linter.unusedVariables false
set_option maxRecDepth 100000
theorem remove_nil (k : Int) (w : World) : Calls Tryz.prog 120 #[.pointer none, .int .i64 k] w (IbR zI false w) := by
 go_enter Tryz.func120, Tryz.ntmps120
 go_wp2_with fail
 refine (place_nil k _).mono ?_
 rintro e w' ⟨rfl, rfl⟩
 go_wp2_with fail
 refine bodyPost_ret (v := .tuple #[.agg #[.int .i64 0, .int .i64 0, .int .i64 0], .bool false]) ?_ rfl ⟨rfl, ?_⟩
 · rw [results_cell_tmp rfl]; go_simp; try rfl
 · first | exact below_al _ _ | (repeat' (first | exact below_al _ _ | refine Below.alloc ?_ (by omega) _))
theorem del_nil {x : Int} (ty : TypeId) (w : World) : (Builtin.delete_ #[142, 3] ty #[.map none, .int .i64 x]).run Tryz.prog w = .ok (.tuple #[]) w := by kernel_rfl
theorem wp_ndrop {ops : Array Oper} {rest : List Oper} {op : Oper} {a : Act} {Q : Exit → Act → World → Prop} {x : Int} {w : World} (hg : op.guard = none) (u y : Operand) (hop : op.op = Op.call { callee := Callee.builtin Builtin.delete, args := #[u, y], argTypes := #[142, 3] })
  (hm : a.eval u = .map none) (hy : a.eval y = .int .i64 x) (hK : wpList Tryz.prog ops Q rest (a.put op.dst (.tuple #[])) w) : wpList Tryz.prog ops Q (op :: rest) a w := by
 refine wpList_plain hg fun K' hK' => ?_
 have hrun := @del_nil x op.type w
 unfold Oper.wp
 simp [execOp, hop, resolve, invoke, builtin, hm, hy, hrun, Result.andThen]
 exact hK' _ _ hK
def ZT (B t : Nat) (vA vL : Value) (w : World) : Prop := B ≤ t ∧ w.heap[t]? = some (.cells #[vA, .pointer none, .map none, vL] 146 (0, 0))
def NewT (w : World) (e : Ending) (w' : World) : Prop :=
 ∃ r o b c, e = .returned (.pointer (some ⟨r, 0, none⟩)) ∧ w'.heap[r]? = some (.cells #[.pointer (some ⟨o, 0, none⟩), .map (some c)] 144 (0, 0)) ∧ (∀ B, B ≤ w.heap.size → HG B w' o b none 0 []) ∧ Pm w' c 0 (fun _ => 0) ∧ c ≠ b ∧ (w.heap.size ≤ o ∧ w.heap.size ≤ b ∧ w.heap.size ≤ c) ∧ Below w.heap.size w w'
theorem newt_at (w : World) : NewT w (.returned (.pointer (some ⟨w.heap.size + 3, 0, none⟩))) (((nwH w).alloc (.map #[] 0)).alloc (.cells #[.pointer (some ⟨w.heap.size + 1, 0, none⟩), .map (some (w.heap.size + 2))] 144)) := by
 have hn := new_at w
 change NewR w _ (nwH w) at hn
 have b1 := below_al (nwH w) (.map #[] 0)
 have b2 : Below (nwH w).heap.size (nwH w) (((nwH w).alloc (.map #[] 0)).alloc (.cells #[.pointer (some ⟨w.heap.size + 1, 0, none⟩), .map (some (w.heap.size + 2))] 144)) := b1.alloc (by simp) _
 refine ⟨w.heap.size + 3, w.heap.size + 1, w.heap.size, w.heap.size + 2, rfl, ?_, fun B hB => (hn.2.1 B hB).later b2, ?_, by omega, by omega, hn.2.2.trans (b2.mono hn.2.2.size)⟩
 · have := heap_alloc_new ((nwH w).alloc (.map #[] 0)) (.cells #[.pointer (some ⟨w.heap.size + 1, 0, none⟩), .map (some (w.heap.size + 2))] 144)
   rw [World.size_alloc, nwH_size] at this
   exact this
 · have h1 := Pm.new (nwH w)
   rw [nwH_size] at h1
   exact h1.keep (Below.heap_alloc _ _ _ (by rw [World.size_alloc, nwH_size]; omega))
theorem newt_any (w : World) : Calls Tryz.prog 130 #[] w (NewT w) := by
 have hmm := @run_makeMap Tryz.prog
 have hs := nwH_size w
 have hf := Lib.hid (newt_at w)
 go_enter Tryz.func130, Tryz.ntmps130
 go_wp2_with (go_at_call 139; (with_reducible refine (new_ex _).mono ?_); rintro e w' ⟨rfl, rfl⟩)
 go_ret
 exact hf.out
def OY (w w' : World) : Prop := ∀ (k : Nat) (cs : Array Value) (t : TypeId) (fr : Nat × Nat), w.heap[k]? = some (.cells cs t fr) → t ≠ 228 → t ≠ 203 → t ≠ 146 → w'.heap[k]? = some (.cells cs t fr)
theorem OY.refl (w : World) : OY w w := fun _ _ _ _ h _ _ _ => h
theorem OY.trans {u v w : World} (h : OY u v) (k : OY v w) : OY u w := fun i cs t fr h1 h2 h3 h4 => k i cs t fr (h i cs t fr h1 h2 h3 h4) h2 h3 h4
theorem OY.of_below {w w' : World} (h : Below w.heap.size w w') : OY w w' := fun k cs t fr h1 _ _ _ => (h.block k (lt_of_blk h1)).trans h1
theorem OX.oy {w w' : World} (h : OX w w') : OY w w' := fun k cs t fr h1 h2 h3 _ => h k cs t fr h1 h2 h3
def TU (B t : Nat) (vA vL : Value) (n : Nat) (S : List It) (g : Int → Int) (w : World) : Prop :=
 (ZT B t vA vL w ∧ n = 0 ∧ S = [] ∧ g = fun _ => 0) ∨ ∃ o b c, TN B t vA vL o b c n S g w
def XU (B t : Nat) (vA vL : Value) (n : Nat) (S : List It) (g : Int → Int) (v : Value) (w : World) (e : Ending) (w' : World) : Prop :=
 e = .returned v ∧ TU B t vA vL n S g w' ∧ Below B w w' ∧ OY w w'
section
variable {B t o b c n n' N N' : Nat} {vA vL : Value} {p p' : Option Nat} {S S' : List It} {g g' : Int → Int} {w w' : World} {e : Ending} {v : Value}
theorem XR.xu (h : XR B t vA vL o b c n S g v w e w') : XU B t vA vL n S g v w e w' := ⟨h.1, .inr ⟨o, b, c, h.2.1⟩, h.2.2.1, h.2.2.2.oy⟩
theorem ZT.later (h : ZT B t vA vL w) (hb : Below w.heap.size w w') : ZT B t vA vL w' := ⟨h.1, (hb.block _ (lt_of_blk h.2)).trans h.2⟩
theorem ZT.c0 (h : ZT B t vA vL w) : w.cell? ⟨t, 1, none⟩ = some (.pointer none) := by rw [cell_of_row w t 1 _ _ _ h.2]; rfl
theorem ZT.c1 (h : ZT B t vA vL w) : w.cell? ⟨t, 2, none⟩ = some (.map none) := by rw [cell_of_row w t 2 _ _ _ h.2]; rfl
theorem ZT.fz (h : ZT B t vA vL w) (i : Nat) : w.frozen? ⟨t, i, none⟩ = false := frozen_of_row w t i _ _ h.2
theorem ZT.hB (h : ZT B t vA vL w) : B ≤ w.heap.size := by have := lt_of_blk h.2; have := h.1; omega
theorem ZT.xu (h : ZT B t vA vL w) (hr : e = .returned v ∧ Below w.heap.size w w') : XU B t vA vL 0 [] (fun _ => 0) v w e w' :=
 ⟨hr.1, .inl ⟨h.later hr.2, rfl, rfl, rfl⟩, hr.2.mono h.hB, OY.of_below hr.2⟩
set_option maxHeartbeats 4000000 in
theorem zt_stop (k : Int) (h : ZT B t vA vL w) : Calls Tryz.prog 108 #[pT t, .int .i64 k] w fun e w' => e = .returned (.bool false) ∧ Below w.heap.size w w' := by
 have HA := Lib.hid h
 have c0 := h.c0
 clear h
 go_enter Tryz.func108, Tryz.ntmps108
 go_wp2_with fail
 refine (remove_nil k _).mono ?_
 rintro e w1 ⟨rfl, hb⟩
 have HB2 : Hid (Below w.heap.size w (w1.alloc (.cells #[.int .i64 zI.id, .int .i64 zI.w, .int .i64 zI.s] 203))) := hb.trans ((below_al w1 _).mono hb.size)
 clear hb
 go_upto_region 4 with (fail)
 generalize w1.alloc (.cells #[.int .i64 zI.id, .int .i64 zI.w, .int .i64 zI.s] 203) = w2 at *
 have H1 := Lib.hid (HA.out.later HB2.out)
 clear HA c0
 have c1 := H1.out.c1
 go_wp2_with (at_delete; go_loud (refine wp_ndrop rfl (.tmp 21) (.tmp 22) rfl rfl rfl ?_))
 go_ret
 exact ⟨rfl, HB2.out⟩
theorem zt_next (h : ZT B t vA vL w) : Calls Tryz.prog 54 #[pT t] w (InR 0 false w) := by
 have c0 := h.c0
 clear h
 go_enter Tryz.func54, Tryz.ntmps54
 go_wp2_with fail
 refine (min_nil _).mono ?_
 rintro e w1 ⟨rfl, hb⟩
 have HB2 : Hid (Below w.heap.size w (w1.alloc (.cells #[.int .i64 zI.id, .int .i64 zI.w, .int .i64 zI.s] 203))) := hb.trans ((below_al w1 _).mono hb.size)
 clear hb
 go_wp2_with fail
 go_ret2
 exact ⟨rfl, HB2.out⟩
set_option maxHeartbeats 4000000 in
theorem zt_take {now : Int} (h : ZT B t vA vL w) : Calls Tryz.prog 65 #[pT t, .int .i64 now] w (DbR 0 0 0 false w) := by
 have c0 := h.c0
 have ht := lt_of_blk h.2
 have HA := Lib.hid (h.later (below_al w (.cells #[.int .i64 0, .int .i64 0, .int .i64 0] 167)))
 have D1 := Lib.hid (Dbk.new w 0 0 0)
 have HB1 := Lib.hid (below_al w (.cells #[.int .i64 0, .int .i64 0, .int .i64 0] 167))
 clear h
 go_enter Tryz.func65, Tryz.ntmps65
 go_wp2_with fail
 refine (min_nil _).mono ?_
 rintro e w1 ⟨rfl, hb⟩
 generalize w.alloc (.cells #[.int .i64 0, .int .i64 0, .int .i64 0] 167) = wa at *
 have HA1 := Lib.hid (HA.out.later hb)
 have D1 := Lib.hid (D1.out.later hb)
 have HB1 := Lib.hid (HB1.out.trans (hb.mono HB1.out.size))
 clear hb HA
 have X1 := Lib.hid (Blk.new w1 zI)
 have HA := Lib.hid (HA1.out.later (below_al w1 (.cells #[.int .i64 zI.id, .int .i64 zI.w, .int .i64 zI.s] 203)))
 have D1 := Lib.hid (D1.out.later (below_al w1 (.cells #[.int .i64 zI.id, .int .i64 zI.w, .int .i64 zI.s] 203)))
 have HB1 := Lib.hid (HB1.out.trans ((below_al w1 (.cells #[.int .i64 zI.id, .int .i64 zI.w, .int .i64 zI.s] 203)).mono HB1.out.size))
 clear HA1
 go_upto_region 4 with (fail)
 generalize w1.alloc (.cells #[.int .i64 zI.id, .int .i64 zI.w, .int .i64 zI.s] 203) = w2 at *
 generalize w1.heap.size = s at *
 clear c0 ht
 have c0 := HA.out.c0
 obtain ⟨x0, x1, x2, _⟩ := X1.out.cells
 obtain ⟨d0, d1, d2, f0, f1, f2⟩ := D1.out.cells
 go_wp2_with fail
 refine bodyPost_ret (v := .tuple #[vD 0 0 0, .bool false]) ?_ rfl ⟨rfl, below_set3 HB1.out (Nat.le_refl _)⟩
 rw [results_cell_tmp rfl]
 go_simp
theorem ZT.made {w1 : World} {r : Nat} (h : ZT B t vA vL w) (hb : Below w.heap.size w w1) (hG : HG B w1 o b none 0 []) (pm : Pm w1 c 0 (fun _ => 0)) (hne : c ≠ b) (hs : w.heap.size ≤ o ∧ w.heap.size ≤ b ∧ w.heap.size ≤ c) :
  TT B t vA vL o b c none 0 0 [] (fun _ => 0) ((w1.setCell ⟨t, 1, none⟩ (.pointer (some ⟨o, 0, none⟩))).setCell ⟨t, 2, none⟩ (.map (some c))) ∧ Below B w ((w1.setCell ⟨t, 1, none⟩ (.pointer (some ⟨o, 0, none⟩))).setCell ⟨t, 2, none⟩ (.map (some c))) ∧ OY w ((w1.setCell ⟨t, 1, none⟩ (.pointer (some ⟨o, 0, none⟩))).setCell ⟨t, 2, none⟩ (.map (some c))) := by
 have hlt := lt_of_blk h.2
 have hB := h.hB
 have h1 := h.1
 have key : ∀ k, k ≠ t → ((w1.setCell ⟨t, 1, none⟩ (.pointer (some ⟨o, 0, none⟩))).setCell ⟨t, 2, none⟩ (.map (some c))).heap[k]? = w1.heap[k]? := fun k hk =>
  (Below.heap_setCell _ _ _ _ (by exact hk)).trans (Below.heap_setCell _ _ _ _ (by exact hk))
 have e0 := (hb.block t hlt).trans h.2
 have e1 := heap_setCell_same w1 t 1 _ _ (.pointer (some ⟨o, 0, none⟩)) e0
 have e2 := heap_setCell_same _ t 2 _ _ (.map (some c)) e1
 refine ⟨⟨hG.keep (key o (by omega)) (key b (by omega)) (fun k hk => (by cases hk)), e2, pm.keep (key c (by omega)), Ok.nil 0, h1, by omega, hne⟩, ((hb.mono hB).setCell h1 _).setCell h1 _, fun k cs ty fr a1 a2 a3 a4 => ?_⟩
 rw [key k ?_, hb.block k (lt_of_blk a1)]
 · exact a1
 · rintro rfl
   have := h.2
   rw [a1] at this; injection this with this; injection this with _ this _; exact a4 this
set_option maxHeartbeats 8000000 in
theorem zt_arm (k x y : Int) (h : ZT B t vA vL w) (hk : Wf k) (hx : Fit x) (hy : Fit y) :
  Calls Tryz.prog 117 #[pT t, .int .i64 k, .int .i64 x, .int .i64 y] w (XU B t vA vL 1 [⟨k, x, 1⟩] (fput (fun _ => 0) k y) (.int .i64 0) w) := by
 have F1 := fun w => fits_yes x w hx.1 hx.2
 have F2 := fun w => fits_yes y w hy.1 hy.2
 have HA := Lib.hid h
 have HX := Lib.hid (And.intro hx hy)
 have hwy := wf_fit hy
 have c0 := h.c0
 have f1 := h.fz 1
 have f2 := h.fz 2
 have hml : (0 : Nat) < maxLen := by unfold maxLen; omega
 have hy0 := hy.1
 clear h hx hy
 have hm : k ∉ ids [] := by simp [ids]
 go_enter Tryz.func117, Tryz.ntmps117
 go_wp2_with (go_at_call 129; first | ((with_reducible refine (F1 _).mono ?_); rintro e w' ⟨rfl, rfl⟩) | ((with_reducible refine (F2 _).mono ?_); rintro e w' ⟨rfl, rfl⟩))
 refine (newt_any w).mono ?_
 rintro e w1 ⟨r, o, b, c, rfl, hr, hG, pm, hne, hs, hb⟩
 have q0 : w1.cell? ⟨r, 0, none⟩ = some (.pointer (some ⟨o, 0, none⟩)) := by rw [cell_of_row w1 r 0 _ _ _ hr]; rfl
 have q1 : w1.cell? ⟨r, 1, none⟩ = some (.map (some c)) := by rw [cell_of_row w1 r 1 _ _ _ hr]; rfl
 have HM := Lib.hid (HA.out.made (r := r) hb (hG B HA.out.hB) pm hne hs)
 clear c0 f1 f2
 have f1 := (HA.out.later hb).fz 1
 have f2 := (HA.out.later hb).fz 2
 have d0 := (HA.out.later hb).c0
 have d1 := (HA.out.later hb).c1
 clear hr hG pm hne hs hb
 go_upto_region 5 with (fail)
 generalize (w1.setCell ⟨t, 1, none⟩ (.pointer (some ⟨o, 0, none⟩))).setCell ⟨t, 2, none⟩ (.map (some c)) = wz at *
 have c0 := HM.out.1.c0
 clear q0 q1 f1 f2 d0 d1
 go_wp2_with fail
 refine (move_no k x HM.out.1.hg hk hm).mono ?_
 rintro e w1 ⟨rfl, rfl⟩
 go_wp2_with fail
 refine (add_new k x HM.out.1.hg HM.out.1.ok hk hm (by omega) (by decide) HM.out.1.hB).mono ?_
 rintro e w1 hr
 have hr := HM.out.1.go (HM.out.1.ok.ins k x hm) hr
 have HT := Lib.hid hr.2
 obtain rfl := hr.1
 clear hr c0
 obtain ⟨p1, h1, h2⟩ := HT.out
 have c1 := h1.c1
 have H1 := Lib.hid h1
 have H2 := Lib.hid h2
 clear h1 h2 HT
 by_cases hp : 0 < y
 · go_wp2_with (first
    | (at_delete; go_loud (refine wp_pdrop rfl (.tmp 49) (.tmp 50) rfl H1.out.pm hk rfl rfl ?_; intro w2 ht pm; have H3 := Lib.hid (H1.out.mapped ht pm); have c12 := H3.out.1.c1; clear ht pm))
    | (at_mapUpdate; go_loud (refine wp_pstore rfl (.tmp 56) (.tmp 57) (.tmp 58) rfl H3.out.1.pm hk hwy hml rfl rfl rfl ?_; intro w3 ht pm; have H4 := Lib.hid (H3.out.1.mapped ht pm); clear ht pm)))
   go_ret
   have h4 := H4.out.1
   rw [fput_two] at h4
   have ht := H2.out.trans (H3.out.2.trans H4.out.2)
   exact ⟨rfl, .inr ⟨o, b, c, p1, 1, Nat.le_refl _, h4⟩, HM.out.2.1.trans (HM.out.1.low ht), HM.out.2.2.trans (HM.out.1.ox ht).oy⟩
 · obtain rfl : y = 0 := by omega
   go_wp2_with (first
    | (at_delete; go_loud (refine wp_pdrop rfl (.tmp 49) (.tmp 50) rfl H1.out.pm hk rfl rfl ?_; intro w2 ht pm; have H3 := Lib.hid (H1.out.mapped ht pm); have c12 := H3.out.1.c1; clear ht pm)))
   go_ret
   have ht := H2.out.trans H3.out.2
   exact ⟨rfl, .inr ⟨o, b, c, p1, 1, Nat.le_refl _, H3.out.1.more⟩, HM.out.2.1.trans (HM.out.1.low ht), HM.out.2.2.trans (HM.out.1.ox ht).oy⟩
theorem TU.later (h : TU B t vA vL n S g w) (hb : Below w.heap.size w w') : TU B t vA vL n S g w' := by
 rcases h with ⟨h, r⟩ | ⟨o, b, c, h⟩
 · exact .inl ⟨h.later hb, r⟩
 · exact .inr ⟨o, b, c, h.later hb⟩
theorem TU.hB (h : TU B t vA vL n S g w) : B ≤ w.heap.size := by
 rcases h with ⟨h, r⟩ | ⟨o, b, c, h⟩
 · exact h.hB
 · exact h.hB
theorem TU.ok (h : TU B t vA vL n S g w) : Ok n S := by
 rcases h with ⟨h, rfl, rfl, rfl⟩ | ⟨o, b, c, h⟩
 · exact Ok.nil 0
 · exact h.ok
theorem TU.blk (h : TU B t vA vL n S g w) : B ≤ t ∧ ∃ u v, w.heap[t]? = some (.cells #[vA, u, v, vL] 146 (0, 0)) := by
 rcases h with ⟨h, r⟩ | ⟨o, b, c, p, N, hN, h⟩
 · exact ⟨h.1, _, _, h.2⟩
 · exact ⟨h.gt, _, _, h.ht⟩
theorem TU.wf (h : TU B t vA vL n S g w) {x : It} (hx : x ∈ S) : Wf x.id := by
 rcases h with ⟨h, rfl, rfl, rfl⟩ | ⟨o, b, c, p, N, hN, h⟩
 · cases hx
 · exact h.hg.wf hx
theorem fput_zero (k : Int) : fput (fun _ => (0 : Int)) k 0 = fun _ => 0 := by funext z; unfold fput; split <;> rfl
theorem tu_arm (k x y : Int) (h : TU B t vA vL n S g w) (hk : Wf k) (hx : Fit x) (hy : Fit y) (hn : n ≤ 1000000) (hl : S.length < 1000) : Calls Tryz.prog 117 #[pT t, .int .i64 k, .int .i64 x, .int .i64 y] w (XU B t vA vL (n + 1) (ins ⟨k, x, (n : Int) + 1⟩ (del k S)) (fput g k y) (.int .i64 0) w) := by
 rcases h with ⟨h, rfl, rfl, rfl⟩ | ⟨o, b, c, h⟩
 · exact zt_arm k x y h hk hx hy
 · exact (tn_arm k x y h hk hx hy hn hl).mono fun _ _ r => r.xu
theorem tu_stop (k : Int) (h : TU B t vA vL n S g w) (hk : Wf k) (hl : S.length ≤ 1000) : Calls Tryz.prog 108 #[pT t, .int .i64 k] w (XU B t vA vL n (del k S) (fput g k 0) (.bool (decide (k ∈ ids S))) w) := by
 rcases h with ⟨h, rfl, rfl, rfl⟩ | ⟨o, b, c, h⟩
 · refine (zt_stop k h).mono fun e w' r => ?_
   have := h.xu r
   rwa [← fput_zero k] at this
 · by_cases hm : k ∈ ids S
   · obtain ⟨i, y, hi, hy⟩ := ids_mem hm
     rw [decide_eq_true hm]
     subst hy
     exact (tn_stop_yes h (List.mem_of_getElem? hi) hl).mono fun _ _ r => r.xu
   · rw [decide_eq_false hm, del_none hm]
     exact (tn_stop_no h hk hm).mono fun _ _ r => r.xu
def nxt : List It → Int × Bool
 | [] => (0, false)
 | x :: _ => (x.w, true)
theorem tu_next (h : TU B t vA vL n S g w) (hl : S.length ≤ 1000) : Calls Tryz.prog 54 #[pT t] w (XU B t vA vL n S g (.tuple #[.int .i64 (nxt S).1, .bool (nxt S).2]) w) := by
 rcases h with ⟨h, rfl, rfl, rfl⟩ | ⟨o, b, c, h⟩
 · exact (zt_next h).mono fun e w' r => h.xu r
 · cases S with
   | nil => exact (tn_next_no h).mono fun _ _ r => r.xu
   | cons x S => exact (tn_next h hl).mono fun _ _ r => r.xu
theorem tu_take_no {now : Int} (h : TU B t vA vL n S g w) (hl : S.length ≤ 1000) (hi : Idle now S) : Calls Tryz.prog 65 #[pT t, .int .i64 now] w (XU B t vA vL n S g (.tuple #[vD 0 0 0, .bool false]) w) := by
 rcases h with ⟨h, rfl, rfl, rfl⟩ | ⟨o, b, c, h⟩
 · exact (zt_take h).mono fun e w' r => h.xu r
 · exact (tn_take_no h hl hi).mono fun _ _ r => r.xu
theorem tu_take_end {x : It} {now : Int} (h : TU B t vA vL n (x :: S) g w) (hl : (x :: S).length ≤ 1000) (hw : x.w ≤ now) (hg : ¬ Gon x.w (g x.id) now) : Calls Tryz.prog 65 #[pT t, .int .i64 now] w (XU B t vA vL n S (fput g x.id 0) (.tuple #[vD x.id x.w now, .bool true]) w) := by
 rcases h with ⟨h, rfl, e, rfl⟩ | ⟨o, b, c, h⟩
 · cases e
 · exact (tn_take_end h hl hw hg).mono fun _ _ r => r.xu
theorem tu_take_on {x : It} {now : Int} (h : TU B t vA vL n (x :: S) g w) (hn : n ≤ 1000000) (hl : (x :: S).length ≤ 1000) (hw : x.w ≤ now) (hg : Gon x.w (g x.id) now) : Calls Tryz.prog 65 #[pT t, .int .i64 now] w (XU B t vA vL (n + 1) (ins ⟨x.id, nx x.w (g x.id) now, (n : Int) + 1⟩ S) g (.tuple #[vD x.id x.w now, .bool true]) w) := by
 rcases h with ⟨h, rfl, e, rfl⟩ | ⟨o, b, c, h⟩
 · cases e
 · exact (tn_take_on h hn hl hw hg).mono fun _ _ r => r.xu
end
end Go.Proofs.YtdpapnfjpefhkaaGreat
namespace Go.Proofs.YtdpapnfjpefhkaaGreat
open Go.RowKit
set_option linter.unusedVariables false
set_option maxRecDepth 100000
theorem Rn.cell {W w : World} {A : Option Addr} {n k : Nat} {l : List Int} (h : Rn W A n l) (hb : Below W.heap.size W w) (hk : k < n) : ∃ b off x, A = some ⟨b, off, none⟩ ∧ b < W.heap.size ∧ l[k]? = some x ∧ w.cell? ⟨b, off + k, none⟩ = some (.int .i64 x) := by
 obtain ⟨b, off, e, h1, h2⟩ := h.2 (by omega)
 have hx : l[k]? = some (l[k]'(by rw [h.1]; exact hk)) := List.getElem?_eq_getElem _
 exact ⟨b, off, _, e, h1, hx, (cell_blk (hb.block b h1) _).trans (h2 k _ hx)⟩
def pk (n : Int) (m : Nat) : Nat := (n % (m : Int)).toNat
end Go.Proofs.YtdpapnfjpefhkaaGreat
namespace Go.Proofs.YtdpapnfjpefhkaaGreat
open Go.RowKit
set_option linter.unusedVariables false
set_option maxRecDepth 100000
section
variable {P : Program} {ops : Array Oper} {Q : Exit → Act → World → Prop} {md : Region.Mode} {S : World → Prop} {L : Nat}
def oneB (md : Region.Mode) (ops : Array Oper) (listed : Array Bool) (i : Nat) : Bool :=
 !listed.getD i true && ((ops[i]?).map (·.after.all fun e => !Region.binds md e || listed.getD e.on false)).getD false
theorem one_ready {i : Nat} {oi : Oper} {listed : Array Bool} (hi : ops[i]? = some oi) (h : oneB md ops listed i = true) : i ∈ Region.ready md ops listed := by
 unfold Region.ready
 rw [List.mem_filter, List.mem_range]
 exact ⟨(Array.getElem?_eq_some_iff.1 hi).1, h⟩
def tidyB (md : Region.Mode) (ops : Array Oper) : Bool :=
 Region.noSelect ops && (List.range ops.size).all fun i => (List.range ops.size).all fun j => i == j || match ops[i]?, ops[j]? with
  | some oi, some oj => oj.after.any (fun e => Region.binds md e && e.on == i) || (oi.after.any (fun e => Region.binds md e && e.on == j) || oi.apart ops oj)
  | _, _ => true
theorem tidy_free {i : Nat} {oi : Oper} {listed : Array Bool} (hT : tidyB md ops = true) (hi : ops[i]? = some oi) (hr : i ∈ Region.ready md ops listed) (j : Nat) (oj : Oper)
  (hj : ops[j]? = some oj) (hne : j ≠ i) (hun : listed.getD j true = false) (hno : ∀ e ∈ oj.after, Region.binds md e = true → e.on ≠ i) : oi.apart ops oj = true := by
 unfold tidyB at hT
 rw [Bool.and_eq_true] at hT
 have h1 := hT.2
 rw [List.all_eq_true] at h1
 have h2 := h1 i (List.mem_range.2 (Array.getElem?_eq_some_iff.1 hi).1)
 rw [List.all_eq_true] at h2
 have h3 := h2 j (List.mem_range.2 (Array.getElem?_eq_some_iff.1 hj).1)
 simp only [hi, hj, Bool.or_eq_true, beq_iff_eq] at h3
 rcases h3 with e | h3 | h3 | h3
 · exact absurd e.symm hne
 · obtain ⟨e, he, hb⟩ := Array.any_eq_true'.1 h3
   simp only [Bool.and_eq_true, beq_iff_eq] at hb
   exact absurd hb.2 (hno e he hb.1)
 · obtain ⟨e, he, hb⟩ := Array.any_eq_true'.1 h3
   simp only [Bool.and_eq_true, beq_iff_eq] at hb
   obtain ⟨_, o, ho, hall⟩ := mem_ready.1 hr
   rw [hi] at ho
   obtain rfl : oi = o := by injection ho
   have h4 := hall e he hb.1
   rw [hb.2] at h4
   rcases Nat.lt_or_ge j listed.size with h' | h'
   · simp [h'] at h4 hun; rw [hun] at h4; cases h4
   · simp [Array.getElem?_eq_none h'] at h4
 · exact h3
theorem but_takeQ {i : Nat} {oi : Oper} {v : Value} {f : Nat} {listed : Array Bool} {a : Act} {w : World} (hi : ops[i]? = some oi) (hT : tidyB md ops = true) (hw : waitB md ops L i = true)
  (hr : oneB md ops listed i = true) (hQ : ∀ c a w, Q (.panic c) (a.put oi.dst v) w → Q (.panic c) a w) (hy : YieldsIf P ops S oi v a) (hS : S w)
  (h : AnyBut P md ops Q S L f (listed.setIfInBounds i true) (a.put oi.dst v) w) : AnyBut P md ops Q S L (f + 1) listed a w :=
 took hi (by unfold tidyB at hT; rw [Bool.and_eq_true] at hT; exact hT.1) hw hQ f listed a w (tidy_free hT hi (one_ready hi hr)) (one_ready hi hr) hy hS h
theorem tkQ (i : Nat) {oi : Oper} {v : Value} {f : Nat} {listed : Array Bool} {a : Act} {w : World} (hi : ops[i]? = some oi) (hT : tidyB md ops = true) (hS : S w) (h : AnyBut P md ops Q S L f (listed.setIfInBounds i true) (a.put oi.dst v) w) (hw : waitB md ops L i = true := by kernel_rfl) (hr : oneB md ops listed i = true := by kernel_rfl) (hg : Region.wanted oi (yielded ops a.tmps) = true := by first | kernel_rfl | rfl) (hQ : ∀ c a w, Q (.panic c) (a.put oi.dst v) w → Q (.panic c) a w := by exact fun _ _ _ h => h) (hy : ∀ w, S w → (execOp a.eval oi).run P w = .ok (.value v) w := by (intro w hSw; (try dsimp only at hSw); (try go_split_ands); go_simp; (try with_reducible rfl))) : AnyBut P md ops Q S L (f + 1) listed a w :=
 but_takeQ hi hT hw hr hQ (.inl ⟨hg, hy⟩) hS h
theorem unQ (i : Nat) {oi : Oper} {f : Nat} {listed : Array Bool} {a : Act} {w : World} (hi : ops[i]? = some oi) (hT : tidyB md ops = true) (hS : S w) (h : AnyBut P md ops Q S L f (listed.setIfInBounds i true) (a.put oi.dst undef) w) (hw : waitB md ops L i = true := by kernel_rfl) (hr : oneB md ops listed i = true := by kernel_rfl) (hg : Region.wanted oi (yielded ops a.tmps) = false := by first | kernel_rfl | rfl) (hQ : ∀ c a w, Q (.panic c) (a.put oi.dst undef) w → Q (.panic c) a w := by exact fun _ _ _ h => h) : AnyBut P md ops Q S L (f + 1) listed a w :=
 but_takeQ hi hT hw hr hQ (.inr ⟨hg, rfl⟩) hS h
theorem but_startQ {id : Nat} {a : Act} {w : World} (L : Nat) (S : World → Prop) (hm : P.follows .mixedOrders = true) (hT : tidyB .any ops = true) (h : tidyB .any ops = true → AnyBut P .any ops Q S L ops.size (Array.replicate ops.size false) a w.drew) : (Code.region id ops true).wp P Q a w :=
 wp_region_any hm (AnyBut.any _ _ _ _ (h hT))
end
end Go.Proofs.YtdpapnfjpefhkaaGreat
namespace Go.Proofs.YtdpapnfjpefhkaaGreat
open Go.RowKit
set_option linter.unusedVariables false
set_option maxRecDepth 100000
section
variable {P : Program} {ops : Array Oper} {Q : Exit → Act → World → Prop} {md : Region.Mode} {S : World → Prop} {L : Nat → Bool}
def AnyB (P : Program) (md : Region.Mode) (ops : Array Oper) (Q : Exit → Act → World → Prop) (S : World → Prop) (L : Nat → Bool) : Nat → Array Bool → Act → World → Prop
 | 0, listed, a, w => Region.ready md ops listed = [] ∧ Q .normal a w
 | f + 1, listed, a, w => (Region.ready md ops listed = [] → Q .normal a w) ∧ ∀ i ∈ Region.ready md ops listed, wpOp P ops Q i (fun a' w' => (L i = false → S w') ∧ AnyB P md ops Q S L f (listed.setIfInBounds i true) a' w') a w
theorem AnyB.any : ∀ (f : Nat) (listed : Array Bool) (a : Act) (w : World), AnyB P md ops Q S L f listed a w → wpAny P md ops Q f listed a w
 | 0, _, _, _, h => h
 | f + 1, listed, a, w, h => ⟨h.1, fun i hi => wpOp_mono (fun a' w' q => AnyB.any f _ a' w' q.2) (h.2 i hi)⟩
def rdyB (md : Region.Mode) (ops : Array Oper) (listed : Array Bool) (j : Nat) : Bool := match ops[j]? with
 | some o => o.after.all fun e => !Region.binds md e || listed.getD e.on false
 | none => true
def closedB (md : Region.Mode) (ops : Array Oper) (listed : Array Bool) : Bool := (List.range listed.size).all fun j => !listed.getD j false || rdyB md ops listed j
def anc (md : Region.Mode) (ops : Array Oper) : Nat → Nat → Nat → Bool
 | 0, _, _ => false
 | f + 1, j, i => match ops[j]? with
  | some o => o.after.any fun e => Region.binds md e && (e.on == i || anc md ops f e.on i)
  | none => false
theorem closed_at {listed : Array Bool} {j : Nat} (h : closedB md ops listed = true) (hj : listed.getD j false = true) : rdyB md ops listed j = true := by
 unfold closedB at h
 rw [List.all_eq_true] at h
 have hl : j < listed.size := by
  rcases Nat.lt_or_ge j listed.size with c | c
  · exact c
  · simp [Array.getElem?_eq_none c] at hj
 have := h j (List.mem_range.2 hl)
 rw [hj] at this; simpa using this
theorem anc_listed {listed : Array Bool} (h : closedB md ops listed = true) {i : Nat} : ∀ (f j : Nat), rdyB md ops listed j = true → anc md ops f j i = true → listed.getD i false = true := by
 intro f
 induction f with
 | zero => intro j _ h2; cases h2
 | succ f ih =>
  intro j h1 h2
  unfold anc at h2
  unfold rdyB at h1
  cases e : ops[j]? with
  | none => rw [e] at h2; cases h2
  | some o =>
   rw [e] at h1 h2
   have h1 : (o.after.all fun e => !Region.binds md e || listed.getD e.on false) = true := h1
   have h2 : (o.after.any fun e => Region.binds md e && (e.on == i || anc md ops f e.on i)) = true := h2
   obtain ⟨d, hd, hb⟩ := Array.any_eq_true'.1 h2
   rw [Bool.and_eq_true, Bool.or_eq_true, beq_iff_eq] at hb
   have h3 := Array.all_eq_true'.1 h1 d hd
   rw [hb.1] at h3
   have h3 : listed.getD d.on false = true := by simpa using h3
   rcases hb.2 with e | e
   · rw [← e]; exact h3
   · exact ih d.on (closed_at h h3) e
theorem rdy_of {listed : Array Bool} {j : Nat} (hj : j ∈ Region.ready md ops listed) : rdyB md ops listed j = true := by
 obtain ⟨_, o, ho, hall⟩ := mem_ready.1 hj
 unfold rdyB
 rw [ho]
 show (o.after.all fun e => !Region.binds md e || listed.getD e.on false) = true
 rw [Array.all_eq_true']
 intro d hd
 cases e : Region.binds md d with
 | false => rfl
 | true => simpa using hall d hd e
theorem rdy_mono {listed : Array Bool} {j k : Nat} (h : rdyB md ops listed k = true) : rdyB md ops (listed.setIfInBounds j true) k = true := by
 unfold rdyB at h ⊢
 cases e : ops[k]? with
 | none => rfl
 | some o =>
  rw [e] at h
  have h : (o.after.all fun e => !Region.binds md e || listed.getD e.on false) = true := h
  show (o.after.all fun e => !Region.binds md e || (listed.setIfInBounds j true).getD e.on false) = true
  rw [Array.all_eq_true'] at h ⊢
  intro d hd
  have h1 := h d hd
  rw [Bool.or_eq_true] at h1 ⊢
  refine h1.imp id fun h2 => ?_
  by_cases c : j = d.on
  · subst c
    have hl : d.on < listed.size := by
     rcases Nat.lt_or_ge d.on listed.size with c | c
     · exact c
     · simp [Array.getElem?_eq_none c] at h2
    simp [hl]
  · rw [getD_set_ne false c]; exact h2
theorem closed_set {listed : Array Bool} {j : Nat} (h : closedB md ops listed = true) (hj : rdyB md ops listed j = true) : closedB md ops (listed.setIfInBounds j true) = true := by
 unfold closedB
 rw [List.all_eq_true]
 intro k hk
 rw [Bool.or_eq_true]
 by_cases c : j = k
 · subst c; exact .inr (rdy_mono hj)
 · rw [getD_set_ne false c]
   cases e : listed.getD k false with
   | false => exact .inl rfl
   | true => exact .inr (rdy_mono (closed_at h e))
def waitsB (md : Region.Mode) (ops : Array Oper) (L : Nat → Bool) (i : Nat) : Bool := (List.range ops.size).all fun j => !L j || anc md ops ops.size j i
theorem waits_not {i j : Nat} {listed : Array Bool} (hc : closedB md ops listed = true) (h : waitsB md ops L i = true) (hu : listed.getD i true = false) (hj : j ∈ Region.ready md ops listed) : L j = false := by
 cases e : L j with
 | false => rfl
 | true =>
  obtain ⟨_, oj, ho, _⟩ := mem_ready.1 hj
  unfold waitsB at h
  rw [List.all_eq_true] at h
  have h1 := h j (List.mem_range.2 (Array.getElem?_eq_some_iff.1 ho).1)
  rw [e] at h1
  have h2 := anc_listed hc _ j (rdy_of hj) (by simpa using h1)
  rcases Nat.lt_or_ge i listed.size with c | c
  · simp [c] at h2 hu; rw [hu] at h2; cases h2
  · simp [Array.getElem?_eq_none c] at hu
theorem tookB {i : Nat} {oi : Oper} {v : Value} (hi : ops[i]? = some oi) (hs : Region.noSelect ops = true) (hw : waitsB md ops L i = true) (hQ : ∀ c a w, Q (.panic c) (a.put oi.dst v) w → Q (.panic c) a w) (f : Nat) :
  ∀ (listed : Array Bool) (a : Act) (w : World), closedB md ops listed = true → (∀ j oj, ops[j]? = some oj → j ≠ i → listed.getD j true = false → (∀ e ∈ oj.after, Region.binds md e = true → e.on ≠ i) → oi.apart ops oj = true) →
   i ∈ Region.ready md ops listed → YieldsIf P ops S oi v a → S w → AnyB P md ops Q S L f (listed.setIfInBounds i true) (a.put oi.dst v) w → AnyB P md ops Q S L (f + 1) listed a w := by
 induction f with
 | zero =>
  intro listed a w hcl hfr hr hy hS H
  refine ⟨fun e => absurd hr (by rw [e]; simp), fun j hj => ?_⟩
  rcases Nat.decEq j i with c | c
  · have h2 := ready_mono hj c
    rw [H.1] at h2; cases h2
  · subst c; exact hy.wpOp hi hS ⟨fun _ => hS, H⟩
 | succ f ih =>
  intro listed a w hcl hfr hr hy hS H
  refine ⟨fun e => absurd hr (by rw [e]; simp), fun j hj => ?_⟩
  rcases Nat.decEq j i with c | c
  · have hun := (mem_ready.1 hr).1
    have hjL : L j = false := waits_not hcl hw hun hj
    obtain ⟨hju, oj, ho, hall⟩ := mem_ready.1 hj
    have hno : ∀ e ∈ oj.after, Region.binds md e = true → e.on ≠ i := fun e he hb q => by
     have h1 := hall e he hb
     rw [q] at h1
     rcases Nat.lt_or_ge i listed.size with h' | h'
     · simp [h'] at h1 hun; rw [hun] at h1; cases h1
     · simp [Array.getElem?_eq_none h'] at h1
    have h3 := wpOp_putIf (S := S) ho (hfr j oj ho c hju hno) (fun cs b => Region.noSelect_spec hs i oi cs b hi) (fun cs b => Region.noSelect_spec hs j oj cs b ho) hQ hy (H.2 j (ready_mono hj c))
    refine wpOp_mono (fun a' w' q => ⟨fun _ => q.2.1 hjL, ih (listed.setIfInBounds j true) a' w' (closed_set hcl (rdy_of hj)) (fun k ok hk hki hku hkn => hfr k ok hk hki ?_ hkn) (ready_mono hr (Ne.symm c)) q.1 (q.2.1 hjL) ?_⟩) h3
    · by_cases e : j = k
      · rw [← e]; exact hju
      · rwa [getD_set_ne true e] at hku
    · have h4 := q.2.2
      rwa [Array.setIfInBounds_comm _ _ (Ne.symm c)] at h4
  · subst c; exact hy.wpOp hi hS ⟨fun _ => hS, H⟩
theorem but_takeB {i : Nat} {oi : Oper} {v : Value} {f : Nat} {listed : Array Bool} {a : Act} {w : World} (hi : ops[i]? = some oi) (hT : tidyB md ops = true) (hw : (waitsB md ops L i && closedB md ops listed) = true)
  (hr : oneB md ops listed i = true) (hQ : ∀ c a w, Q (.panic c) (a.put oi.dst v) w → Q (.panic c) a w) (hy : YieldsIf P ops S oi v a) (hS : S w)
  (h : AnyB P md ops Q S L f (listed.setIfInBounds i true) (a.put oi.dst v) w) : AnyB P md ops Q S L (f + 1) listed a w :=
 tookB hi (by unfold tidyB at hT; rw [Bool.and_eq_true] at hT; exact hT.1) (by rw [Bool.and_eq_true] at hw; exact hw.1) hQ f listed a w (by rw [Bool.and_eq_true] at hw; exact hw.2) (tidy_free hT hi (one_ready hi hr)) (one_ready hi hr) hy hS h
theorem tkB (i : Nat) {oi : Oper} {v : Value} {f : Nat} {listed : Array Bool} {a : Act} {w : World} (hi : ops[i]? = some oi) (hT : tidyB md ops = true) (hS : S w) (h : AnyB P md ops Q S L f (listed.setIfInBounds i true) (a.put oi.dst v) w) (hw : (waitsB md ops L i && closedB md ops listed) = true := by kernel_rfl) (hr : oneB md ops listed i = true := by kernel_rfl) (hg : Region.wanted oi (yielded ops a.tmps) = true := by first | kernel_rfl | rfl) (hQ : ∀ c a w, Q (.panic c) (a.put oi.dst v) w → Q (.panic c) a w := by exact fun _ _ _ h => h) (hy : ∀ w, S w → (execOp a.eval oi).run P w = .ok (.value v) w := by (intro w hSw; (try dsimp only at hSw); (try go_split_ands); go_simp; (try with_reducible rfl))) : AnyB P md ops Q S L (f + 1) listed a w :=
 but_takeB hi hT hw hr hQ (.inl ⟨hg, hy⟩) hS h
theorem but_oneB {i : Nat} {oi : Oper} {f : Nat} {listed : Array Bool} {a : Act} {w : World} (hr : Region.ready md ops listed = [i]) (hi : ops[i]? = some oi)
  (h : ∀ K : Act → World → Prop, (∀ a' w', (L i = false → S w') → AnyB P md ops Q S L f (listed.setIfInBounds i true) a' w' → K a' w') → if Region.wanted oi (yielded ops a.tmps) = true then oi.wp P a w K Q else K (a.put oi.dst undef) w) : AnyB P md ops Q S L (f + 1) listed a w := by
 refine ⟨fun e => absurd (hr.symm.trans e) (by simp), fun j hj => ?_⟩
 rw [hr] at hj
 obtain rfl := List.mem_singleton.1 hj
 have h1 := h (fun a' w' => (L j = false → S w') ∧ AnyB P md ops Q S L f (listed.setIfInBounds j true) a' w') fun a' w' q r => ⟨q, r⟩
 unfold wpOp
 rw [hi]
 dsimp only
 split
 · rename_i c; rw [if_pos c] at h1; exact .inl h1
 · rename_i c; rw [if_neg c] at h1; exact h1
theorem but_doneB {listed : Array Bool} {a : Act} {w : World} (hr : Region.ready md ops listed = []) (h : Q .normal a w) : AnyB P md ops Q S L 0 listed a w := ⟨hr, h⟩
theorem but_startB {id : Nat} {a : Act} {w : World} (L : Nat → Bool) (S : World → Prop) (hm : P.follows .mixedOrders = true) (hT : tidyB .any ops = true) (h : tidyB .any ops = true → AnyB P .any ops Q S L ops.size (Array.replicate ops.size false) a w.drew) : (Code.region id ops true).wp P Q a w :=
 wp_region_any hm (AnyB.any _ _ _ _ (h hT))
end
end Go.Proofs.YtdpapnfjpefhkaaGreat
