/- What Take of package expire does, whole. Conditions: each theorem's own premises.
What each call of package expire makes of timers, as the laws want it. Conditions: each theorem's own premises.
The document's own heap in memory: a block of two cells, one slice; Find. Conditions: each theorem's own premises. -/
import Derived.Test.YtmadcnpkaijllaaGreatTak
import Derived.Test.YtmadcnpkaijllaaGreatRemm
namespace Go.Proofs.YtmadcnpkaijllaaGreat
open Go.RowKit
set_option linter.unusedVariables false
set_option maxRecDepth 100000
/-- One that is due. -/
abbrev vD (i x y : Int) : Value := .agg #[.int .i64 i, .int .i64 x, .int .i64 y]
/-- A block of one of its own. -/
def Dbk (w : World) (s : Nat) (i x y : Int) : Prop := w.heap[s]? = some (.cells #[.int .i64 i, .int .i64 x, .int .i64 y] 97 (0, 0))
section
variable {B t o b c n n' N N' : Nat} {vA vL : Value} {p p' : Option Nat} {S S' : List It} {g g' : Int → Int} {w w' : World} {e : Ending} {v : Value} {i x y : Int} {s : Nat}
theorem Dbk.new (w : World) (i x y : Int) : Dbk (w.alloc (.cells #[.int .i64 i, .int .i64 x, .int .i64 y] 97)) w.heap.size i x y := heap_alloc_new w _
theorem Dbk.later (h : Dbk w s i x y) (hb : Below w.heap.size w w') : Dbk w' s i x y := (hb.block s (lt_of_blk h)).trans h
theorem Dbk.tc (h : Dbk w s i x y) (f : Far s o b c p) (hc : TC o b c p p' w w') : Dbk w' s i x y := (hc.block s (lt_of_blk h) f.1 f.2.1 f.2.2.1 f.2.2.2).trans h
theorem Dbk.cells (h : Dbk w s i x y) : w.cell? ⟨s, 0, none⟩ = some (.int .i64 i) ∧ w.cell? ⟨s, 1, none⟩ = some (.int .i64 x) ∧ w.cell? ⟨s, 2, none⟩ = some (.int .i64 y) ∧ w.frozen? ⟨s, 0, none⟩ = false ∧ w.frozen? ⟨s, 1, none⟩ = false ∧ w.frozen? ⟨s, 2, none⟩ = false :=
  ⟨by rw [cell_of_row w s 0 _ _ _ h]; rfl, by rw [cell_of_row w s 1 _ _ _ h]; rfl, by rw [cell_of_row w s 2 _ _ _ h]; rfl, frozen_of_row w s 0 _ _ h, frozen_of_row w s 1 _ _ h, frozen_of_row w s 2 _ _ h⟩
theorem Dbk.set3 (h : Dbk w s i x y) (i' x' y' : Int) : Dbk (((w.setCell ⟨s, 0, none⟩ (.int .i64 i')).setCell ⟨s, 1, none⟩ (.int .i64 x')).setCell ⟨s, 2, none⟩ (.int .i64 y')) s i' x' y' := by
  have h1 := heap_setCell_same w s 0 _ _ (.int .i64 i') h
  have h2 := heap_setCell_same _ s 1 _ _ (.int .i64 x') h1
  have h3 := heap_setCell_same _ s 2 _ _ (.int .i64 y') h2
  exact h3
theorem TC.set (h : TC o b c p p' w w') (hs : w.heap.size ≤ s) (j : Nat) (v : Value) : TC o b c p p' w (w'.setCell ⟨s, j, none⟩ v) :=
  ⟨h.os, h.tape, h.output, by have := h.size; simpa [World.setCell] using this, fun k hk a1 a2 a3 a4 => (Below.heap_setCell _ _ _ _ (show k ≠ s by omega)).trans (h.block k hk a1 a2 a3 a4), h.new⟩
/-- What has come to be stands, though a block of one's own is written. -/
theorem XC.set3 {w1 : World} {u : Value} (h : XC B t vA vL o b c p n N S g v w1 e w') (h0 : TC o b c p p w w1) (hs : w.heap.size ≤ s) (hd : Dbk w' s i x y) (i' x' y' : Int) :
    XC B t vA vL o b c p n N S g u w (.returned u) (((w'.setCell ⟨s, 0, none⟩ (.int .i64 i')).setCell ⟨s, 1, none⟩ (.int .i64 x')).setCell ⟨s, 2, none⟩ (.int .i64 y')) := by
  obtain ⟨_, p1, h1, h2⟩ := h
  have e1 := heap_setCell_same w' s 0 _ _ (.int .i64 i') hd
  have e2 := heap_setCell_same _ s 1 _ _ (.int .i64 x') e1
  exact ⟨rfl, p1, ((h1.cell hd (by decide) (by decide) (by decide) _).cell e1 (by decide) (by decide) (by decide) _).cell e2 (by decide) (by decide) (by decide) _, (((h0.trans h2).set hs 0 _).set hs 1 _).set hs 2 _⟩
/-- One that is due and a bool. -/
def DbR (i x y : Int) (d : Bool) (w : World) (e : Ending) (w' : World) : Prop := e = .returned (.tuple #[vD i x y, .bool d]) ∧ Below w.heap.size w w'
theorem below_set3 {r : Nat} {a b c : Value} (h : Below w.heap.size w w') (hr : w.heap.size ≤ r) : Below w.heap.size w (((w'.setCell ⟨r, 0, none⟩ a).setCell ⟨r, 1, none⟩ b).setCell ⟨r, 2, none⟩ c) := ((h.setCell hr _).setCell hr _).setCell hr _
set_option maxHeartbeats 4000000 in
theorem take_empty {now : Int} (h : TT B t vA vL o b c p n N [] g w):
    Calls Tryz.prog 42 #[.pointer (some ⟨t, 1, none⟩), .int .i64 now] w (DbR 0 0 0 false w) := by
  have c0 := h.c0
  have ht := h.lt
  have FR := Lib.hid h.far
  have HA := Lib.hid (h.later (below_al w (.cells #[.int .i64 0, .int .i64 0, .int .i64 0] 97)))
  have D1 := Lib.hid (Dbk.new w 0 0 0)
  have HB1 := Lib.hid (below_al w (.cells #[.int .i64 0, .int .i64 0, .int .i64 0] 97))
  clear h
  go_enter Tryz.func42, Tryz.ntmps42
  go_wp2_with fail
  refine (gmin_none HA.out.hg).mono ?_
  rintro e w1 ⟨rfl, hb⟩
  generalize w.alloc (.cells #[.int .i64 0, .int .i64 0, .int .i64 0] 97) = wa at *
  have HA1 := Lib.hid (HA.out.later hb)
  have D1 := Lib.hid (D1.out.later hb)
  have HB1 := Lib.hid (HB1.out.trans (hb.mono HB1.out.size))
  clear hb HA
  have X1 := Lib.hid (Blk.new w1 zI)
  have NS := Lib.hid HA1.out.far
  have HA := Lib.hid (HA1.out.later (below_al w1 (.cells #[.int .i64 zI.id, .int .i64 zI.w, .int .i64 zI.s] 139)))
  have D1 := Lib.hid (D1.out.later (below_al w1 (.cells #[.int .i64 zI.id, .int .i64 zI.w, .int .i64 zI.s] 139)))
  have HB1 := Lib.hid (HB1.out.trans ((below_al w1 (.cells #[.int .i64 zI.id, .int .i64 zI.w, .int .i64 zI.s] 139)).mono HB1.out.size))
  clear HA1
  go_upto_region 4 with (fail)
  generalize w1.alloc (.cells #[.int .i64 zI.id, .int .i64 zI.w, .int .i64 zI.s] 139) = w2 at *
  generalize w1.heap.size = s at *
  clear c0 ht
  have c0 := HA.out.c0
  obtain ⟨x0, x1, x2, _⟩ := X1.out.cells
  obtain ⟨d0, d1, d2, f0, f1, f2⟩ := D1.out.cells
  go_wp2_with fail
  refine bodyPost_ret (v := .tuple #[vD 0 0 0, .bool false]) ?_ rfl ⟨rfl, below_set3 HB1.out (Nat.le_refl _)⟩
  rw [results_cell_tmp rfl]
  go_simp
set_option maxHeartbeats 4000000 in
theorem take_early {x : It} {now : Int} (h : TT B t vA vL o b c p n N (x :: S) g w) (hl : (x :: S).length ≤ 1000) (hw : now < x.w) :
    Calls Tryz.prog 42 #[.pointer (some ⟨t, 1, none⟩), .int .i64 now] w (DbR 0 0 0 false w) := by
  have c0 := h.c0
  have ht := h.lt
  have FR := Lib.hid h.far
  have HA := Lib.hid (h.later (below_al w (.cells #[.int .i64 0, .int .i64 0, .int .i64 0] 97)))
  have D1 := Lib.hid (Dbk.new w 0 0 0)
  have HB1 := Lib.hid (below_al w (.cells #[.int .i64 0, .int .i64 0, .int .i64 0] 97))
  clear h
  go_enter Tryz.func42, Tryz.ntmps42
  go_wp2_with fail
  refine (gmin_some HA.out.hg HA.out.ok.srt hl).mono ?_
  rintro e w1 ⟨rfl, hb⟩
  generalize w.alloc (.cells #[.int .i64 0, .int .i64 0, .int .i64 0] 97) = wa at *
  have HA1 := Lib.hid (HA.out.later hb)
  have D1 := Lib.hid (D1.out.later hb)
  have HB1 := Lib.hid (HB1.out.trans (hb.mono HB1.out.size))
  clear hb HA
  have X1 := Lib.hid (Blk.new w1 x)
  have NS := Lib.hid HA1.out.far
  have HA := Lib.hid (HA1.out.later (below_al w1 (.cells #[.int .i64 x.id, .int .i64 x.w, .int .i64 x.s] 139)))
  have D1 := Lib.hid (D1.out.later (below_al w1 (.cells #[.int .i64 x.id, .int .i64 x.w, .int .i64 x.s] 139)))
  have HB1 := Lib.hid (HB1.out.trans ((below_al w1 (.cells #[.int .i64 x.id, .int .i64 x.w, .int .i64 x.s] 139)).mono HB1.out.size))
  clear HA1
  go_upto_region 4 with (fail)
  generalize w1.alloc (.cells #[.int .i64 x.id, .int .i64 x.w, .int .i64 x.s] 139) = w2 at *
  generalize w1.heap.size = s at *
  clear c0 ht
  have c0 := HA.out.c0
  obtain ⟨x0, x1, x2, _⟩ := X1.out.cells
  obtain ⟨d0, d1, d2, f0, f1, f2⟩ := D1.out.cells
  go_wp2_with fail
  refine bodyPost_ret (v := .tuple #[vD 0 0 0, .bool false]) ?_ rfl ⟨rfl, below_set3 HB1.out (Nat.le_refl _)⟩
  rw [results_cell_tmp rfl]
  go_simp
set_option maxHeartbeats 4000000 in
theorem take_end {x : It} {now : Int} (h : TT B t vA vL o b c p n N (x :: S) g w) (hl : (x :: S).length ≤ 1000) (hw : x.w ≤ now) (hg : ¬ Gon x.w (g x.id) now) :
    Calls Tryz.prog 42 #[.pointer (some ⟨t, 1, none⟩), .int .i64 now] w (XC B t vA vL o b c p n N S (fput g x.id 0) (.tuple #[vD x.id x.w now, .bool true]) w) := by
  have hw2 : ¬ now < x.w := by omega
  clear hw
  have htl := h.ok.tail.1
  have hmem : x ∈ x :: S := by simp
  have c0 := h.c0
  have ht := h.lt
  have FR := Lib.hid h.far
  have HA := Lib.hid (h.later (below_al w (.cells #[.int .i64 0, .int .i64 0, .int .i64 0] 97)))
  have D1 := Lib.hid (Dbk.new w 0 0 0)
  have HB1 := Lib.hid (below_al w (.cells #[.int .i64 0, .int .i64 0, .int .i64 0] 97))
  clear h
  go_enter Tryz.func42, Tryz.ntmps42
  go_wp2_with fail
  refine (gmin_some HA.out.hg HA.out.ok.srt hl).mono ?_
  rintro e w1 ⟨rfl, hb⟩
  generalize w.alloc (.cells #[.int .i64 0, .int .i64 0, .int .i64 0] 97) = wa at *
  have HA1 := Lib.hid (HA.out.later hb)
  have D1 := Lib.hid (D1.out.later hb)
  have HB1 := Lib.hid (HB1.out.trans (hb.mono HB1.out.size))
  clear hb HA
  have X1 := Lib.hid (Blk.new w1 x)
  have NS := Lib.hid HA1.out.far
  have HA := Lib.hid (HA1.out.later (below_al w1 (.cells #[.int .i64 x.id, .int .i64 x.w, .int .i64 x.s] 139)))
  have D1 := Lib.hid (D1.out.later (below_al w1 (.cells #[.int .i64 x.id, .int .i64 x.w, .int .i64 x.s] 139)))
  have HB1 := Lib.hid (HB1.out.trans ((below_al w1 (.cells #[.int .i64 x.id, .int .i64 x.w, .int .i64 x.s] 139)).mono HB1.out.size))
  clear HA1
  go_upto_region 4 with (fail)
  generalize w1.alloc (.cells #[.int .i64 x.id, .int .i64 x.w, .int .i64 x.s] 139) = w2 at *
  generalize w1.heap.size = s at *
  clear c0 ht
  have c0 := HA.out.c0
  obtain ⟨x0, x1, x2, _⟩ := X1.out.cells
  obtain ⟨d0, d1, d2, f0, f1, f2⟩ := D1.out.cells
  go_wp2_with fail
  refine (again_end HA.out hmem hl hg).mono ?_
  rintro e w3 hr3
  have HR := Lib.hid hr3
  obtain rfl := hr3.1
  clear hr3
  obtain ⟨_, p1, h1, h2⟩ := HR.out
  have X3 := Lib.hid (X1.out.tc NS.out h2)
  have D3 := Lib.hid (D1.out.tc FR.out h2)
  clear h1 h2 x0 x1 x2 d0 d1 d2 f0 f1 f2 c0
  obtain ⟨x0, x1, x2, _⟩ := X3.out.cells
  obtain ⟨d0, d1, d2, f0, f1, f2⟩ := D3.out.cells
  have HF : Hid (XC B t vA vL o b c p n N S (fput g x.id 0) (.tuple #[vD x.id x.w now, .bool true]) w (.returned (.tuple #[vD x.id x.w now, .bool true])) (((w3.setCell ⟨w.heap.size, 0, none⟩ (.int .i64 x.id)).setCell ⟨w.heap.size, 1, none⟩ (.int .i64 x.w)).setCell ⟨w.heap.size, 2, none⟩ (.int .i64 now))) := by
    have h9 := HR.out.set3 (u := .tuple #[vD x.id x.w now, .bool true]) (TC.of_below p HB1.out) (Nat.le_refl _) D3.out x.id x.w now
    rw [htl] at h9
    exact h9
  clear HR X1 D1 HA
  go_wp2_with fail
  refine bodyPost_ret (v := .tuple #[vD x.id x.w now, .bool true]) ?_ rfl HF.out
  rw [results_cell_tmp rfl]
  go_simp
set_option maxHeartbeats 4000000 in
theorem take_on {x : It} {now : Int} (h : TT B t vA vL o b c p n N (x :: S) g w) (hn : n ≤ 1000000) (hl : (x :: S).length ≤ 1000) (hw : x.w ≤ now) (hg : Gon x.w (g x.id) now) :
    Calls Tryz.prog 42 #[.pointer (some ⟨t, 1, none⟩), .int .i64 now] w (XC B t vA vL o b c p (n + 1) N (ins ⟨x.id, nx x.w (g x.id) now, (n : Int) + 1⟩ S) g (.tuple #[vD x.id x.w now, .bool true]) w) := by
  have hw2 : ¬ now < x.w := by omega
  clear hw
  have htl := h.ok.tail.1
  have hmem : x ∈ x :: S := by simp
  have c0 := h.c0
  have ht := h.lt
  have FR := Lib.hid h.far
  have HA := Lib.hid (h.later (below_al w (.cells #[.int .i64 0, .int .i64 0, .int .i64 0] 97)))
  have D1 := Lib.hid (Dbk.new w 0 0 0)
  have HB1 := Lib.hid (below_al w (.cells #[.int .i64 0, .int .i64 0, .int .i64 0] 97))
  clear h
  go_enter Tryz.func42, Tryz.ntmps42
  go_wp2_with fail
  refine (gmin_some HA.out.hg HA.out.ok.srt hl).mono ?_
  rintro e w1 ⟨rfl, hb⟩
  generalize w.alloc (.cells #[.int .i64 0, .int .i64 0, .int .i64 0] 97) = wa at *
  have HA1 := Lib.hid (HA.out.later hb)
  have D1 := Lib.hid (D1.out.later hb)
  have HB1 := Lib.hid (HB1.out.trans (hb.mono HB1.out.size))
  clear hb HA
  have X1 := Lib.hid (Blk.new w1 x)
  have NS := Lib.hid HA1.out.far
  have HA := Lib.hid (HA1.out.later (below_al w1 (.cells #[.int .i64 x.id, .int .i64 x.w, .int .i64 x.s] 139)))
  have D1 := Lib.hid (D1.out.later (below_al w1 (.cells #[.int .i64 x.id, .int .i64 x.w, .int .i64 x.s] 139)))
  have HB1 := Lib.hid (HB1.out.trans ((below_al w1 (.cells #[.int .i64 x.id, .int .i64 x.w, .int .i64 x.s] 139)).mono HB1.out.size))
  clear HA1
  go_upto_region 4 with (fail)
  generalize w1.alloc (.cells #[.int .i64 x.id, .int .i64 x.w, .int .i64 x.s] 139) = w2 at *
  generalize w1.heap.size = s at *
  clear c0 ht
  have c0 := HA.out.c0
  obtain ⟨x0, x1, x2, _⟩ := X1.out.cells
  obtain ⟨d0, d1, d2, f0, f1, f2⟩ := D1.out.cells
  go_wp2_with fail
  refine (again_on HA.out hmem hn hl hg).mono ?_
  rintro e w3 hr3
  have HR := Lib.hid hr3
  obtain rfl := hr3.1
  clear hr3
  obtain ⟨_, p1, h1, h2⟩ := HR.out
  have X3 := Lib.hid (X1.out.tc NS.out h2)
  have D3 := Lib.hid (D1.out.tc FR.out h2)
  clear h1 h2 x0 x1 x2 d0 d1 d2 f0 f1 f2 c0
  obtain ⟨x0, x1, x2, _⟩ := X3.out.cells
  obtain ⟨d0, d1, d2, f0, f1, f2⟩ := D3.out.cells
  have HF : Hid (XC B t vA vL o b c p (n + 1) N (ins ⟨x.id, nx x.w (g x.id) now, (n : Int) + 1⟩ S) g (.tuple #[vD x.id x.w now, .bool true]) w (.returned (.tuple #[vD x.id x.w now, .bool true])) (((w3.setCell ⟨w.heap.size, 0, none⟩ (.int .i64 x.id)).setCell ⟨w.heap.size, 1, none⟩ (.int .i64 x.w)).setCell ⟨w.heap.size, 2, none⟩ (.int .i64 now))) := by
    have h9 := HR.out.set3 (u := .tuple #[vD x.id x.w now, .bool true]) (TC.of_below p HB1.out) (Nat.le_refl _) D3.out x.id x.w now
    rw [htl] at h9
    exact h9
  clear HR X1 D1 HA
  go_wp2_with fail
  refine bodyPost_ret (v := .tuple #[vD x.id x.w now, .bool true]) ?_ rfl HF.out
  rw [results_cell_tmp rfl]
  go_simp
end
end Go.Proofs.YtmadcnpkaijllaaGreat
namespace Go.Proofs.YtmadcnpkaijllaaGreat
open Go.RowKit
set_option linter.unusedVariables false
set_option maxRecDepth 100000
section
variable {W w w' : World} {B t o b c n : Nat} {vA vL : Value} {S : List It} {g : Int → Int}
abbrev pT (t : Nat) : Value := .pointer (some ⟨t, 1, none⟩)
theorem tn_arm (k x y : Int) (h : TN B t vA vL o b c n S g w) (hk : Wf k) (hx : Fit x) (hy : Fit y) (hn : n ≤ 1000000) (hl : S.length < 1000) : Calls Tryz.prog 81 #[pT t, .int .i64 k, .int .i64 x, .int .i64 y] w (XR B t vA vL o b c (n + 1) (ins ⟨k, x, (n : Int) + 1⟩ (del k S)) (fput g k y) (.int .i64 0) w) := by
  obtain ⟨p, N, hN, h⟩ := h
  exact (arm_any k x y h hk hx hy hn (by omega) hl).mono fun _ _ r => h.xr (by omega) r
theorem tn_arm_bad (k x y : Int) (t : Nat) (w : World) (h : ¬ (Fit x ∧ Fit y)) : Calls Tryz.prog 81 #[pT t, .int .i64 k, .int .i64 x, .int .i64 y] w fun e w' => e = .returned (.int .i64 1) ∧ w = w' :=
  arm_bad k x y _ (by simp) w h
theorem tn_stop_yes {x : It} (h : TN B t vA vL o b c n S g w) (hx : x ∈ S) (hl : S.length ≤ 1000) : Calls Tryz.prog 77 #[pT t, .int .i64 x.id] w (XR B t vA vL o b c n (del x.id S) (fput g x.id 0) (.bool true) w) := by
  obtain ⟨p, N, hN, h⟩ := h
  exact (stop_yes h hx hl).mono fun _ _ r => h.xr hN r
theorem tn_stop_no {k : Int} (h : TN B t vA vL o b c n S g w) (hk : Wf k) (hm : k ∉ ids S) : Calls Tryz.prog 77 #[pT t, .int .i64 k] w (XR B t vA vL o b c n S (fput g k 0) (.bool false) w) := by
  obtain ⟨p, N, hN, h⟩ := h
  exact (stop_no h hk hm).mono fun _ _ r => h.xr hN r
theorem tn_next {x : It} (h : TN B t vA vL o b c n (x :: S) g w) (hl : (x :: S).length ≤ 1000) : Calls Tryz.prog 71 #[pT t] w (XR B t vA vL o b c n (x :: S) g (.tuple #[.int .i64 x.w, .bool true]) w) := by
  have H := h
  obtain ⟨p, N, hN, h⟩ := h
  exact (next_some h hl).mono fun _ _ r => H.same r
theorem tn_next_no (h : TN B t vA vL o b c n [] g w) : Calls Tryz.prog 71 #[pT t] w (XR B t vA vL o b c n [] g (.tuple #[.int .i64 0, .bool false]) w) := by
  have H := h
  obtain ⟨p, N, hN, h⟩ := h
  exact (next_none h).mono fun _ _ r => H.same r
/-- None is due. -/
def Idle (now : Int) : List It → Prop
  | [] => True
  | x :: _ => now < x.w
theorem tn_take_no {now : Int} (h : TN B t vA vL o b c n S g w) (hl : S.length ≤ 1000) (hi : Idle now S) : Calls Tryz.prog 42 #[pT t, .int .i64 now] w (XR B t vA vL o b c n S g (.tuple #[vD 0 0 0, .bool false]) w) := by
  have H := h
  obtain ⟨p, N, hN, h⟩ := h
  cases S with
  | nil => exact (take_empty h).mono fun _ _ r => H.same r
  | cons x S => exact (take_early h hl hi).mono fun _ _ r => H.same r
theorem tn_take_end {x : It} {now : Int} (h : TN B t vA vL o b c n (x :: S) g w) (hl : (x :: S).length ≤ 1000) (hw : x.w ≤ now) (hg : ¬ Gon x.w (g x.id) now) : Calls Tryz.prog 42 #[pT t, .int .i64 now] w (XR B t vA vL o b c n S (fput g x.id 0) (.tuple #[vD x.id x.w now, .bool true]) w) := by
  obtain ⟨p, N, hN, h⟩ := h
  exact (take_end h hl hw hg).mono fun _ _ r => h.xr hN r
theorem tn_take_on {x : It} {now : Int} (h : TN B t vA vL o b c n (x :: S) g w) (hn : n ≤ 1000000) (hl : (x :: S).length ≤ 1000) (hw : x.w ≤ now) (hg : Gon x.w (g x.id) now) : Calls Tryz.prog 42 #[pT t, .int .i64 now] w (XR B t vA vL o b c (n + 1) (ins ⟨x.id, nx x.w (g x.id) now, (n : Int) + 1⟩ S) g (.tuple #[vD x.id x.w now, .bool true]) w) := by
  obtain ⟨p, N, hN, h⟩ := h
  exact (take_on h hn hl hw hg).mono fun _ _ r => h.xr (by omega) r
/-- A store into a row of another kind. -/
theorem TN.put3 (h : TN B t vA vL o b c n S g w) {s ty : Nat} {u0 u1 u2 : Value} (ht : w.heap[s]? = some (.cells #[u0, u1, u2] ty (0, 0))) (h1 : ty ≠ 161) (h2 : ty ≠ 139) (h3 : ty ≠ 66) (v0 v1 v2 : Value) : TN B t vA vL o b c n S g (((w.setCell ⟨s, 0, none⟩ v0).setCell ⟨s, 1, none⟩ v1).setCell ⟨s, 2, none⟩ v2) := by
  have e1 := heap_setCell_same w s 0 _ _ v0 ht
  have e2 := heap_setCell_same _ s 1 _ _ v1 e1
  exact ((h.cell ht h1 h2 h3 _).cell e1 h1 h2 h3 _).cell e2 h1 h2 h3 _
end
/-- The timers since a call began. -/
structure XS (W : World) (t : Nat) (vA vL : Value) (o b c n : Nat) (S : List It) (g : Int → Int) (w : World) : Prop where
  bel : Below W.heap.size W w
  tn : TN W.heap.size t vA vL o b c n S g w
section
variable {W w w' : World} {t o b c n n' : Nat} {vA vL : Value} {S S' : List It} {g g' : Int → Int} {v : Value} {f : Nat} {args : Array Value} {e : Ending}
theorem XS.later (h : XS W t vA vL o b c n S g w) (hb : Below w.heap.size w w') : XS W t vA vL o b c n S g w' := ⟨h.bel.trans (hb.mono h.bel.size), h.tn.later hb⟩
theorem XS.go (h : XS W t vA vL o b c n S g w) (r : XR W.heap.size t vA vL o b c n' S' g' v w e w') : e = .returned v ∧ XS W t vA vL o b c n' S' g' w' ∧ OX w w' := ⟨r.1, ⟨h.bel.trans r.2.2.1, r.2.1⟩, r.2.2.2⟩
theorem XS.run (h : XS W t vA vL o b c n S g w) (hc : Calls Tryz.prog f args w (XR W.heap.size t vA vL o b c n' S' g' v w)) : Calls Tryz.prog f args w (fun e w' => e = .returned v ∧ XS W t vA vL o b c n' S' g' w' ∧ OX w w') := hc.mono fun _ _ r => h.go r
theorem XS.box (h : XS W t vA vL o b c n S g w) (u : Obj) : XS W t vA vL o b c n S g (w.alloc u) := h.later (below_al w u)
/-- A store into a row of another kind that the call made. -/
theorem XS.cell (h : XS W t vA vL o b c n S g w) {s ty j : Nat} {cs : Array Value} {fr : Nat × Nat} (hs : W.heap.size ≤ s) (ht : w.heap[s]? = some (.cells cs ty fr)) (h1 : ty ≠ 161) (h2 : ty ≠ 139) (h3 : ty ≠ 66) (v : Value) : XS W t vA vL o b c n S g (w.setCell ⟨s, j, none⟩ v) := ⟨h.bel.setCell hs _, h.tn.cell ht h1 h2 h3 v⟩
theorem Dbk.ox {s : Nat} {i x y : Int} (h : Dbk w s i x y) (k : OX w w') : Dbk w' s i x y := k s _ _ _ h (by decide) (by decide)
end
theorem wf_small {x : Int} (h1 : -1000000 ≤ x) (h2 : x ≤ 1000000) : Wf x := wf_of (by omega) (by omega)
end Go.Proofs.YtmadcnpkaijllaaGreat
namespace Go.Proofs.YtmadcnpkaijllaaGreat
open Go.RowKit
set_option linter.unusedVariables false
set_option maxRecDepth 100000

/-- A slice of room c, in a block of items from base on, reads as l. -/
def Wn (w : World) (base : Nat) (A : Option Addr) (n c : Nat) (l : List It) : Prop :=
  l.length = n ∧ n ≤ c ∧ c ≤ 9223372036854775807 ∧ (0 < n → ∃ g off cur, A = some ⟨g, off, none⟩ ∧ base ≤ g ∧ w.heap[g]? = some (.cells cur 94 (0, 0)) ∧ ∀ j u, (iV l)[j]? = some u → w.cell? ⟨g, off + j, none⟩ = some u)
/-- Nil, or plain. -/
def Fm (A : Option Addr) (c : Nat) : Prop := (A = none ∧ c = 0) ∨ ∃ g off, A = some ⟨g, off, none⟩
section
variable {w w' : World} {base n c k g off : Nat} {A : Option Addr} {l : List It}
theorem Wn.nil (w : World) (base : Nat) (A : Option Addr) (c : Nat) (hc : c ≤ 9223372036854775807) : Wn w base A 0 c [] := ⟨rfl, Nat.zero_le _, hc, fun h => absurd h (by omega)⟩
theorem Wn.keep (h : Wn w base A n c l) (hb : ∀ g cur, base ≤ g → w.heap[g]? = some (.cells cur 94 (0, 0)) → w'.heap[g]? = some (.cells cur 94 (0, 0))) : Wn w' base A n c l :=
  ⟨h.1, h.2.1, h.2.2.1, fun h0 => by
    obtain ⟨g, off, cur, e, hg, hc, hr⟩ := h.2.2.2 h0
    have h1 := hb g _ hg hc
    exact ⟨g, off, cur, e, hg, h1, fun j u hu => (cell_blk (h1.trans hc.symm) _).trans (hr j u hu)⟩⟩
theorem Wn.later (h : Wn w base A n c l) (hb : Below w.heap.size w w') : Wn w' base A n c l := h.keep fun g cur _ hg => (hb.block g (lt_of_blk hg)).trans hg
theorem Wn.ot (h : Wn w base A n c l) (f : OX w w') : Wn w' base A n c l := h.keep fun g cur _ hg => f g cur 94 (0, 0) hg (by decide) (by decide)
theorem Wn.rd (h : Wn w base A n c l) : RdI w A n l :=
  ⟨h.1, by rw [iV_len, h.1], fun h0 => by
    obtain ⟨g, off, cur, e, hg, hc, hr⟩ := h.2.2.2 h0
    exact ⟨g, off, e, lt_of_blk hc, hr⟩⟩
theorem Wn.of_own {v : Value} (hn : l.length = n) (h : w.ownsRow base 94 3 v n (iV l)) : ∃ A c, v = .slice A n c ∧ Wn w base A n c l ∧ Fm A c := by
  have hh := h
  rcases h.2 with ⟨rfl, rfl⟩ | ⟨g, cap, cur, rfl, hg, hc, hle, hc2, _⟩
  · exact ⟨none, 0, rfl, ⟨hn, Nat.le_refl _, by omega, fun h => absurd h (by omega)⟩, .inl ⟨rfl, rfl⟩⟩
  · refine ⟨_, cap, rfl, ⟨hn, hle, hc2, fun _ => ⟨g, 0, cur, rfl, hg, hc, fun j u hu => by
    have hj : j < (iV l).length := (List.getElem?_eq_some_iff.1 hu).1
    rw [iV_len, hn] at hj
    rw [Nat.zero_add, hh.cellAt j hj]; exact hu⟩⟩, .inr ⟨g, 0, rfl⟩⟩
theorem iV_pre (l : List It) (k : Nat) : ∀ (j : Nat) (u : Value), (iV (l.take k))[j]? = some u → (iV l)[j]? = some u := by
  intro j u hu
  have e : iV l = iV (l.take k) ++ iV (l.drop k) := by rw [iV_app, List.take_append_drop]
  rw [e, List.getElem?_append_left (List.getElem?_eq_some_iff.1 hu).1]; exact hu
theorem iV_suf (l : List It) (k : Nat) (hk : k ≤ l.length) : ∀ (j : Nat) (u : Value), (iV (l.drop k))[j]? = some u → (iV l)[k * 3 + j]? = some u := by
  intro j u hu
  have e : iV l = iV (l.take k) ++ iV (l.drop k) := by rw [iV_app, List.take_append_drop]
  have h2 : (iV (l.take k)).length = k * 3 := by rw [iV_len, List.length_take]; congr 1; omega
  rw [e, List.getElem?_append_right (by omega), h2, Nat.add_sub_cancel_left]; exact hu
/-- Its first k. -/
theorem Wn.take (h : Wn w base A n c l) (hk : k ≤ n) : Wn w base A k c (l.take k) :=
  ⟨by rw [List.length_take, h.1]; omega, by have := h.2.1; omega, h.2.2.1, fun h0 => by
    obtain ⟨g, off, cur, e, hg, hc, hr⟩ := h.2.2.2 (by omega)
    exact ⟨g, off, cur, e, hg, hc, fun j u hu => hr j u (iV_pre _ _ _ _ hu)⟩⟩
/-- Those behind its first k. -/
theorem Wn.drop (h : Wn w base (some ⟨g, off, none⟩) n c l) (hk : k ≤ n) : Wn w base (some ⟨g, off + k * 3, none⟩) (n - k) (c - k) (l.drop k) :=
  ⟨by rw [List.length_drop, h.1], by have := h.2.1; omega, by have := h.2.2.1; omega, fun h0 => by
    obtain ⟨g', off', cur, e, hg, hc, hr⟩ := h.2.2.2 (by omega)
    cases e
    exact ⟨g, _, cur, rfl, hg, hc, fun j u hu => by rw [Nat.add_assoc]; exact hr _ u (iV_suf l k (by rw [h.1]; exact hk) j u hu)⟩⟩
theorem Wn.cells (h : Wn w base A n c l) (h0 : 0 < n) : ∃ g off, A = some ⟨g, off, none⟩ ∧ base ≤ g ∧ g < w.heap.size ∧
    ∀ i x, l[i]? = some x → w.cell? ⟨g, off + i * 3, none⟩ = some (.int .i64 x.id) ∧ w.cell? ⟨g, off + i * 3 + 1, none⟩ = some (.int .i64 x.w) ∧ w.cell? ⟨g, off + i * 3 + 2, none⟩ = some (.int .i64 x.s) := by
  obtain ⟨g, off, e, h1, h2⟩ := h.rd.cells h0
  obtain ⟨g', off', cur, e', hg, _⟩ := h.2.2.2 h0
  rw [e] at e'; cases e'
  exact ⟨g, off, e, hg, h1, h2⟩
end

/-- Block m begins with the document's heap: it holds S; n is the last turn. -/
structure MX (Rx : List Value) (Ty : TypeId) (B : Nat) (w : World) (m n : Nat) (A : Option Addr) (c : Nat) (S : List It) : Prop where
  hb : w.heap[m]? = some (.cells (Value.slice A S.length c :: .int .i64 n :: Rx).toArray Ty (0, 0))
  wn : Wn w B A S.length c S
  lo : B ≤ m
  nn : Fm A c
  ty : Ty ≠ 94 ∧ Ty ≠ 161 ∧ Ty ≠ 139
def MH (Rx : List Value) (Ty : TypeId) (B : Nat) (w : World) (m n : Nat) (S : List It) : Prop := ∃ A c, MX Rx Ty B w m n A c S
theorem set_zero (a : Value) (l : List Value) (v : Value) : (a :: l).toArray.setIfInBounds 0 v = (v :: l).toArray := by simp
theorem set_one (a b : Value) (l : List Value) (v : Value) : (a :: b :: l).toArray.setIfInBounds 1 v = (a :: v :: l).toArray := by simp
/-- Nothing but block m has turned. -/
structure Km (m : Nat) (w w' : World) : Prop where
  os : w'.os = w.os
  tape : w'.tape = w.tape
  output : w'.output = w.output
  size : w.heap.size ≤ w'.heap.size
  block : ∀ k, k < w.heap.size → k ≠ m → w'.heap[k]? = w.heap[k]?
section
variable {Rx : List Value} {Ty : TypeId} {B m n c : Nat} {w w' w'' : World} {A : Option Addr} {S : List It}
theorem Km.of_below (h : Below w.heap.size w w') : Km m w w' := ⟨h.os, h.tape, h.output, h.size, fun k hk _ => h.block k hk⟩
theorem Km.refl (m : Nat) (w : World) : Km m w w := Km.of_below (Below.refl _ _)
theorem Km.trans (h : Km m w w') (k : Km m w' w'') : Km m w w'' := by
  have h0 := h.size
  exact ⟨k.os.trans h.os, k.tape.trans h.tape, k.output.trans h.output, Nat.le_trans h.size k.size, fun i h1 h2 => (k.block i (by omega) h2).trans (h.block i h1 h2)⟩
theorem Km.set (h : Km m w w') (j : Nat) (v : Value) : Km m w (w'.setCell ⟨m, j, none⟩ v) :=
  ⟨h.os, h.tape, h.output, by rw [show (w'.setCell ⟨m, j, none⟩ v).heap.size = w'.heap.size by simp [World.setCell]]; exact h.size, fun k h1 h2 => (Below.heap_setCell _ _ _ _ (by exact h2)).trans (h.block k h1 h2)⟩
theorem Km.below (h : Km m w w') (hB : B ≤ m) (hs : B ≤ w.heap.size) : Below B w w' := ⟨h.os, h.tape, h.output, h.size, fun k hk => h.block k (by omega) (by omega)⟩
theorem MX.c0 (h : MX Rx Ty B w m n A c S) : w.cell? ⟨m, 0, none⟩ = some (.slice A S.length c) := by rw [cell_of_row w m 0 _ _ _ h.hb]; rfl
theorem MX.c1 (h : MX Rx Ty B w m n A c S) : w.cell? ⟨m, 1, none⟩ = some (.int .i64 n) := by rw [cell_of_row w m 1 _ _ _ h.hb]; rfl
theorem MX.fz (h : MX Rx Ty B w m n A c S) (i : Nat) : w.frozen? ⟨m, i, none⟩ = false := frozen_of_row w m i _ _ h.hb
theorem MX.lt (h : MX Rx Ty B w m n A c S) : m < w.heap.size := lt_of_blk h.hb
theorem MX.later (h : MX Rx Ty B w m n A c S) (hb : Below w.heap.size w w') : MX Rx Ty B w' m n A c S := ⟨(hb.block m h.lt).trans h.hb, h.wn.later hb, h.lo, h.nn, h.ty⟩
theorem MX.ot (h : MX Rx Ty B w m n A c S) (f : OX w w') : MX Rx Ty B w' m n A c S := ⟨f m _ Ty (0, 0) h.hb h.ty.2.1 h.ty.2.2, h.wn.ot f, h.lo, h.nn, h.ty⟩
theorem MH.later (h : MH Rx Ty B w m n S) (hb : Below w.heap.size w w') : MH Rx Ty B w' m n S := by obtain ⟨A, c, h⟩ := h; exact ⟨A, c, h.later hb⟩
theorem MH.ot (h : MH Rx Ty B w m n S) (f : OX w w') : MH Rx Ty B w' m n S := by obtain ⟨A, c, h⟩ := h; exact ⟨A, c, h.ot f⟩
theorem MH.lo (h : MH Rx Ty B w m n S) : B ≤ m := by obtain ⟨A, c, h⟩ := h; exact h.lo
theorem MH.lt (h : MH Rx Ty B w m n S) : m < w.heap.size := by obtain ⟨A, c, h⟩ := h; exact h.lt
theorem MH.hb (h : MH Rx Ty B w m n S) : ∃ cs, w.heap[m]? = some (.cells cs Ty (0, 0)) := by obtain ⟨A, c, h⟩ := h; exact ⟨_, h.hb⟩
theorem MX.turn (h : MX Rx Ty B w m n A c S) (n' : Nat) : MX Rx Ty B (w.setCell ⟨m, 1, none⟩ (.int .i64 n')) m n' A c S :=
  ⟨by rw [heap_setCell_same _ m 1 _ _ _ h.hb, set_one], h.wn.keep fun g cur _ hg => (Below.heap_setCell _ _ _ _ (by rintro rfl; rw [h.hb] at hg; injection hg with hg; injection hg with _ hg _; exact h.ty.1 hg)).trans hg, h.lo, h.nn, h.ty⟩
/-- Its slice is another. -/
theorem MX.other {S' : List It} {A' : Option Addr} {c' : Nat} (h : MX Rx Ty B w m n A c S) (r : Wn w B A' S'.length c' S') (hn : Fm A' c') : MX Rx Ty B (w.setCell ⟨m, 0, none⟩ (.slice A' S'.length c')) m n A' c' S' :=
  ⟨by rw [heap_setCell_same _ m 0 _ _ _ h.hb, set_zero], r.keep fun g cur _ hg => (Below.heap_setCell _ _ _ _ (by rintro rfl; rw [h.hb] at hg; injection hg with hg; injection hg with _ hg _; exact h.ty.1 hg)).trans hg, h.lo, hn, h.ty⟩
/-- Its slice is new, or as it was. -/
def Frs (m : Nat) (w w' : World) : Prop := (∀ A n c, w'.cell? ⟨m, 0, none⟩ = some (.slice A n c) → 0 < n → ∀ k, blk A = some k → w.heap.size ≤ k) ∨ w'.cell? ⟨m, 0, none⟩ = w.cell? ⟨m, 0, none⟩
/-- What is answered, and what it has come to hold. -/
def MR (Rx : List Value) (Ty : TypeId) (B m n : Nat) (S : List It) (v : Value) (w : World) (e : Ending) (w' : World) : Prop := e = .returned v ∧ MH Rx Ty B w' m n S ∧ Km m w w' ∧ Frs m w w'

set_option maxHeartbeats 4000000 in
theorem rfind_no {k : Int} (h : MH Rx Ty B w m n S) (hk : k ∉ ids S) (hl : S.length ≤ 1000) : Calls Tryz.prog 102 #[.pointer (some ⟨m, 0, none⟩), .int .i64 k] w fun e w' => e = .returned (.int .i64 (-1)) ∧ w = w' := by
  obtain ⟨A, c, hx⟩ := h
  have HX := Lib.hid hx
  have HN := Lib.hid hk
  have c0 := hx.c0
  clear hx hk
  go_enter Tryz.func102, Tryz.ntmps102
  go_wp2_with fail
  go_loopw [5] (fun i wr => ∃ j : Nat, j ≤ S.length ∧ i = .int .i64 j ∧ wr = w) (fun i _ => S.length - (intOf i).toNat)
  case atStart => exact ⟨0, by omega, rfl, rfl⟩
  case round =>
    obtain ⟨j, hj, rfl, rfl⟩ := hrel
    by_cases hlt : j < S.length
    · obtain ⟨x, hxj⟩ := ex_at hlt
      obtain ⟨g, off, rfl, hg, hgs, hc⟩ := HX.out.wn.cells (by omega)
      obtain ⟨x0, -, -⟩ := hc j x hxj
      have k1 : (j : Int) < (S.length : Int) := by omega
      have k2 : ¬ x.id = k := fun e => HN.out (by rw [← e]; exact mem_ids (at_mem hxj))
      have b1 : IntKind.i64.wrap ((j : Int) + 1) = (j : Int) + 1 := by rw [IntKind.wrap_i64]; omega
      clear hc hxj
      go_wp2_with fail
      go_roundw
      case rel => exact ⟨j + 1, by omega, by go_num, by first | rfl | trivial⟩
      case measure => simp [intOf]; omega
    · obtain rfl : j = S.length := by omega
      have k1 : ¬ (S.length : Int) < (S.length : Int) := by omega
      go_wp2_with fail
      go_ret
      exact ⟨rfl, rfl⟩
set_option maxHeartbeats 4000000 in
theorem rfind_yes {p : Nat} {x : It} (h : MH Rx Ty B w m n S) (hn : (ids S).Nodup) (hp : S[p]? = some x) (hl : S.length ≤ 1000) : Calls Tryz.prog 102 #[.pointer (some ⟨m, 0, none⟩), .int .i64 x.id] w fun e w' => e = .returned (.int .i64 (p : Int)) ∧ w = w' := by
  obtain ⟨A, c, hx⟩ := h
  have HX := Lib.hid hx
  have HN := Lib.hid (And.intro hn hp)
  have c0 := hx.c0
  have hpl := at_lt hp
  generalize hk : x.id = k at *
  have HK := Lib.hid hk
  clear hx hn hp hk
  go_enter Tryz.func102, Tryz.ntmps102
  go_wp2_with fail
  go_loopw [5] (fun i wr => ∃ j : Nat, j ≤ p ∧ i = .int .i64 j ∧ wr = w) (fun i _ => S.length - (intOf i).toNat)
  case atStart => exact ⟨0, by omega, rfl, rfl⟩
  case round =>
    obtain ⟨j, hj, rfl, rfl⟩ := hrel
    have hlt : j < S.length := by omega
    obtain ⟨y, hyj⟩ := ex_at hlt
    obtain ⟨g, off, rfl, hg, hgs, hc⟩ := HX.out.wn.cells (by omega)
    obtain ⟨x0, -, -⟩ := hc j y hyj
    have k1 : (j : Int) < (S.length : Int) := by omega
    have b1 : IntKind.i64.wrap ((j : Int) + 1) = (j : Int) + 1 := by rw [IntKind.wrap_i64]; omega
    by_cases hjp : j = p
    · subst hjp
      have e : y = x := by have h1 := HN.out.2; rw [hyj] at h1; injection h1
      have k2 : y.id = k := by rw [e]; exact HK.out
      clear hc hyj e
      go_wp2_with fail
      go_ret
      exact ⟨rfl, rfl⟩
    · have k2 : ¬ y.id = k := fun e => hjp (ids_inj HN.out.1 hyj HN.out.2 (e.trans HK.out.symm))
      clear hc hyj
      go_wp2_with fail
      go_roundw
      case rel => exact ⟨j + 1, by omega, by go_num, by first | rfl | trivial⟩
      case measure => simp [intOf]; omega
end
end Go.Proofs.YtmadcnpkaijllaaGreat
