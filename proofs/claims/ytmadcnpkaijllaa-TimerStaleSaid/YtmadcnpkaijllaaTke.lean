/- What Take of package expire does, whole. Conditions: each theorem's own premises. -/
import Derived.Test.YtmadcnpkaijllaaTak
namespace Go.Proofs.Ytmadcnpkaijllaa
open Go.RowKit
set_option linter.unusedVariables false
set_option maxRecDepth 100000
/-- One that is due. -/
abbrev vD (i x y : Int) : Value := .agg #[.int .i64 i, .int .i64 x, .int .i64 y]
/-- A block of one of its own. -/
def Dbk (w : World) (s : Nat) (i x y : Int) : Prop := w.heap[s]? = some (.cells #[.int .i64 i, .int .i64 x, .int .i64 y] 76 (0, 0))
section
variable {B t o b c n n' N N' : Nat} {vA vL : Value} {p p' : Option Nat} {S S' : List It} {g g' : Int → Int} {w w' : World} {e : Ending} {v : Value} {i x y : Int} {s : Nat}
theorem Dbk.new (w : World) (i x y : Int) : Dbk (w.alloc (.cells #[.int .i64 i, .int .i64 x, .int .i64 y] 76)) w.heap.size i x y := heap_alloc_new w _
theorem Dbk.later (h : Dbk w s i x y) (hb : Below w.heap.size w w') : Dbk w' s i x y := (hb.block s (lt_of_blk h)).trans h
theorem Dbk.tc (h : Dbk w s i x y) (f : Far s o b c p) (hc : TC o b c p p' w w') : Dbk w' s i x y := (hc.block s (lt_of_blk h) f.1 f.2.1 f.2.2.1 f.2.2.2).trans h
theorem Dbk.cells (h : Dbk w s i x y) : w.cell? ⟨s, 0, none⟩ = some (.int .i64 i) ∧ w.cell? ⟨s, 1, none⟩ = some (.int .i64 x) ∧ w.cell? ⟨s, 2, none⟩ = some (.int .i64 y) ∧ w.frozen? ⟨s, 0, none⟩ = false ∧ w.frozen? ⟨s, 1, none⟩ = false ∧ w.frozen? ⟨s, 2, none⟩ = false :=
  ⟨by rw [cell_of_row w s 0 _ _ _ h]; rfl, by rw [cell_of_row w s 1 _ _ _ h]; rfl, by rw [cell_of_row w s 2 _ _ _ h]; rfl, frozen_of_row w s 0 _ _ h, frozen_of_row w s 1 _ _ h, frozen_of_row w s 2 _ _ h⟩
theorem Dbk.set3 (h : Dbk w s i x y) (i' x' y' : Int) : Dbk (((w.setCell ⟨s, 0, none⟩ (.int .i64 i')).setCell ⟨s, 1, none⟩ (.int .i64 x')).setCell ⟨s, 2, none⟩ (.int .i64 y')) s i' x' y' := by
  have h1 := heap_setCell_same w s 0 _ _ (.int .i64 i') h
  have h2 := heap_setCell_same _ s 1 _ _ (.int .i64 x') h1
  have h3 := heap_setCell_same _ s 2 _ _ (.int .i64 y') h2
  exact h3
theorem TC.set (h : TC o b c p p' w w') (hs : w.heap.size ≤ s) (j : Nat) (v : Value) : TC o b c p p' w (w'.setCell ⟨s, j, none⟩ v) :=
  ⟨h.os, h.tape, h.output, by have := h.size; simpa [World.setCell] using this, fun k hk a1 a2 a3 a4 => (Below.heap_setCell _ _ _ _ (show k ≠ s by omega)).trans (h.block k hk a1 a2 a3 a4), h.new⟩
/-- What has come to be stands, though a block of one's own is written. -/
theorem XC.set3 {w1 : World} {u : Value} (h : XC B t vA vL o b c p n N S g v w1 e w') (h0 : TC o b c p p w w1) (hs : w.heap.size ≤ s) (hd : Dbk w' s i x y) (i' x' y' : Int) :
    XC B t vA vL o b c p n N S g u w (.returned u) (((w'.setCell ⟨s, 0, none⟩ (.int .i64 i')).setCell ⟨s, 1, none⟩ (.int .i64 x')).setCell ⟨s, 2, none⟩ (.int .i64 y')) := by
  obtain ⟨_, p1, h1, h2⟩ := h
  have e1 := heap_setCell_same w' s 0 _ _ (.int .i64 i') hd
  have e2 := heap_setCell_same _ s 1 _ _ (.int .i64 x') e1
  exact ⟨rfl, p1, ((h1.cell hd (by decide) (by decide) (by decide) _).cell e1 (by decide) (by decide) (by decide) _).cell e2 (by decide) (by decide) (by decide) _, (((h0.trans h2).set hs 0 _).set hs 1 _).set hs 2 _⟩
/-- One that is due and a bool. -/
def DbR (i x y : Int) (d : Bool) (w : World) (e : Ending) (w' : World) : Prop := e = .returned (.tuple #[vD i x y, .bool d]) ∧ Below w.heap.size w w'
theorem below_set3 {r : Nat} {a b c : Value} (h : Below w.heap.size w w') (hr : w.heap.size ≤ r) : Below w.heap.size w (((w'.setCell ⟨r, 0, none⟩ a).setCell ⟨r, 1, none⟩ b).setCell ⟨r, 2, none⟩ c) := ((h.setCell hr _).setCell hr _).setCell hr _
set_option maxHeartbeats 4000000 in
theorem take_empty {now : Int} (h : TT B t vA vL o b c p n N [] g w):
    Calls Try.prog 32 #[.pointer (some ⟨t, 1, none⟩), .int .i64 now] w (DbR 0 0 0 false w) := by
  have c0 := h.c0
  have ht := h.lt
  have FR := Lib.hid h.far
  have HA := Lib.hid (h.later (below_al w (.cells #[.int .i64 0, .int .i64 0, .int .i64 0] 76)))
  have D1 := Lib.hid (Dbk.new w 0 0 0)
  have HB1 := Lib.hid (below_al w (.cells #[.int .i64 0, .int .i64 0, .int .i64 0] 76))
  clear h
  go_enter Try.func32, Try.ntmps32
  go_wp2_with fail
  refine (gmin_none HA.out.hg).mono ?_
  rintro e w1 ⟨rfl, hb⟩
  generalize w.alloc (.cells #[.int .i64 0, .int .i64 0, .int .i64 0] 76) = wa at *
  have HA1 := Lib.hid (HA.out.later hb)
  have D1 := Lib.hid (D1.out.later hb)
  have HB1 := Lib.hid (HB1.out.trans (hb.mono HB1.out.size))
  clear hb HA
  have X1 := Lib.hid (Blk.new w1 zI)
  have NS := Lib.hid HA1.out.far
  have HA := Lib.hid (HA1.out.later (below_al w1 (.cells #[.int .i64 zI.id, .int .i64 zI.w, .int .i64 zI.s] 106)))
  have D1 := Lib.hid (D1.out.later (below_al w1 (.cells #[.int .i64 zI.id, .int .i64 zI.w, .int .i64 zI.s] 106)))
  have HB1 := Lib.hid (HB1.out.trans ((below_al w1 (.cells #[.int .i64 zI.id, .int .i64 zI.w, .int .i64 zI.s] 106)).mono HB1.out.size))
  clear HA1
  go_upto_region 4 with (fail)
  generalize w1.alloc (.cells #[.int .i64 zI.id, .int .i64 zI.w, .int .i64 zI.s] 106) = w2 at *
  generalize w1.heap.size = s at *
  clear c0 ht
  have c0 := HA.out.c0
  obtain ⟨x0, x1, x2, _⟩ := X1.out.cells
  obtain ⟨d0, d1, d2, f0, f1, f2⟩ := D1.out.cells
  go_wp2_with fail
  refine bodyPost_ret (v := .tuple #[vD 0 0 0, .bool false]) ?_ rfl ⟨rfl, below_set3 HB1.out (Nat.le_refl _)⟩
  rw [results_cell_tmp rfl]
  go_simp
set_option maxHeartbeats 4000000 in
theorem take_early {x : It} {now : Int} (h : TT B t vA vL o b c p n N (x :: S) g w) (hl : (x :: S).length ≤ 1000) (hw : now < x.w) :
    Calls Try.prog 32 #[.pointer (some ⟨t, 1, none⟩), .int .i64 now] w (DbR 0 0 0 false w) := by
  have c0 := h.c0
  have ht := h.lt
  have FR := Lib.hid h.far
  have HA := Lib.hid (h.later (below_al w (.cells #[.int .i64 0, .int .i64 0, .int .i64 0] 76)))
  have D1 := Lib.hid (Dbk.new w 0 0 0)
  have HB1 := Lib.hid (below_al w (.cells #[.int .i64 0, .int .i64 0, .int .i64 0] 76))
  clear h
  go_enter Try.func32, Try.ntmps32
  go_wp2_with fail
  refine (gmin_some HA.out.hg HA.out.ok.srt hl).mono ?_
  rintro e w1 ⟨rfl, hb⟩
  generalize w.alloc (.cells #[.int .i64 0, .int .i64 0, .int .i64 0] 76) = wa at *
  have HA1 := Lib.hid (HA.out.later hb)
  have D1 := Lib.hid (D1.out.later hb)
  have HB1 := Lib.hid (HB1.out.trans (hb.mono HB1.out.size))
  clear hb HA
  have X1 := Lib.hid (Blk.new w1 x)
  have NS := Lib.hid HA1.out.far
  have HA := Lib.hid (HA1.out.later (below_al w1 (.cells #[.int .i64 x.id, .int .i64 x.w, .int .i64 x.s] 106)))
  have D1 := Lib.hid (D1.out.later (below_al w1 (.cells #[.int .i64 x.id, .int .i64 x.w, .int .i64 x.s] 106)))
  have HB1 := Lib.hid (HB1.out.trans ((below_al w1 (.cells #[.int .i64 x.id, .int .i64 x.w, .int .i64 x.s] 106)).mono HB1.out.size))
  clear HA1
  go_upto_region 4 with (fail)
  generalize w1.alloc (.cells #[.int .i64 x.id, .int .i64 x.w, .int .i64 x.s] 106) = w2 at *
  generalize w1.heap.size = s at *
  clear c0 ht
  have c0 := HA.out.c0
  obtain ⟨x0, x1, x2, _⟩ := X1.out.cells
  obtain ⟨d0, d1, d2, f0, f1, f2⟩ := D1.out.cells
  go_wp2_with fail
  refine bodyPost_ret (v := .tuple #[vD 0 0 0, .bool false]) ?_ rfl ⟨rfl, below_set3 HB1.out (Nat.le_refl _)⟩
  rw [results_cell_tmp rfl]
  go_simp
set_option maxHeartbeats 4000000 in
theorem take_end {x : It} {now : Int} (h : TT B t vA vL o b c p n N (x :: S) g w) (hl : (x :: S).length ≤ 1000) (hw : x.w ≤ now) (hg : ¬ Gon x.w (g x.id) now) :
    Calls Try.prog 32 #[.pointer (some ⟨t, 1, none⟩), .int .i64 now] w (XC B t vA vL o b c p n N S (fput g x.id 0) (.tuple #[vD x.id x.w now, .bool true]) w) := by
  have hw2 : ¬ now < x.w := by omega
  clear hw
  have htl := h.ok.tail.1
  have hmem : x ∈ x :: S := by simp
  have c0 := h.c0
  have ht := h.lt
  have FR := Lib.hid h.far
  have HA := Lib.hid (h.later (below_al w (.cells #[.int .i64 0, .int .i64 0, .int .i64 0] 76)))
  have D1 := Lib.hid (Dbk.new w 0 0 0)
  have HB1 := Lib.hid (below_al w (.cells #[.int .i64 0, .int .i64 0, .int .i64 0] 76))
  clear h
  go_enter Try.func32, Try.ntmps32
  go_wp2_with fail
  refine (gmin_some HA.out.hg HA.out.ok.srt hl).mono ?_
  rintro e w1 ⟨rfl, hb⟩
  generalize w.alloc (.cells #[.int .i64 0, .int .i64 0, .int .i64 0] 76) = wa at *
  have HA1 := Lib.hid (HA.out.later hb)
  have D1 := Lib.hid (D1.out.later hb)
  have HB1 := Lib.hid (HB1.out.trans (hb.mono HB1.out.size))
  clear hb HA
  have X1 := Lib.hid (Blk.new w1 x)
  have NS := Lib.hid HA1.out.far
  have HA := Lib.hid (HA1.out.later (below_al w1 (.cells #[.int .i64 x.id, .int .i64 x.w, .int .i64 x.s] 106)))
  have D1 := Lib.hid (D1.out.later (below_al w1 (.cells #[.int .i64 x.id, .int .i64 x.w, .int .i64 x.s] 106)))
  have HB1 := Lib.hid (HB1.out.trans ((below_al w1 (.cells #[.int .i64 x.id, .int .i64 x.w, .int .i64 x.s] 106)).mono HB1.out.size))
  clear HA1
  go_upto_region 4 with (fail)
  generalize w1.alloc (.cells #[.int .i64 x.id, .int .i64 x.w, .int .i64 x.s] 106) = w2 at *
  generalize w1.heap.size = s at *
  clear c0 ht
  have c0 := HA.out.c0
  obtain ⟨x0, x1, x2, _⟩ := X1.out.cells
  obtain ⟨d0, d1, d2, f0, f1, f2⟩ := D1.out.cells
  go_wp2_with fail
  refine (again_end HA.out hmem hl hg).mono ?_
  rintro e w3 hr3
  have HR := Lib.hid hr3
  obtain rfl := hr3.1
  clear hr3
  obtain ⟨_, p1, h1, h2⟩ := HR.out
  have X3 := Lib.hid (X1.out.tc NS.out h2)
  have D3 := Lib.hid (D1.out.tc FR.out h2)
  clear h1 h2 x0 x1 x2 d0 d1 d2 f0 f1 f2 c0
  obtain ⟨x0, x1, x2, _⟩ := X3.out.cells
  obtain ⟨d0, d1, d2, f0, f1, f2⟩ := D3.out.cells
  have HF : Hid (XC B t vA vL o b c p n N S (fput g x.id 0) (.tuple #[vD x.id x.w now, .bool true]) w (.returned (.tuple #[vD x.id x.w now, .bool true])) (((w3.setCell ⟨w.heap.size, 0, none⟩ (.int .i64 x.id)).setCell ⟨w.heap.size, 1, none⟩ (.int .i64 x.w)).setCell ⟨w.heap.size, 2, none⟩ (.int .i64 now))) := by
    have h9 := HR.out.set3 (u := .tuple #[vD x.id x.w now, .bool true]) (TC.of_below p HB1.out) (Nat.le_refl _) D3.out x.id x.w now
    rw [htl] at h9
    exact h9
  clear HR X1 D1 HA
  go_wp2_with fail
  refine bodyPost_ret (v := .tuple #[vD x.id x.w now, .bool true]) ?_ rfl HF.out
  rw [results_cell_tmp rfl]
  go_simp
set_option maxHeartbeats 4000000 in
theorem take_on {x : It} {now : Int} (h : TT B t vA vL o b c p n N (x :: S) g w) (hn : n ≤ 1000000) (hl : (x :: S).length ≤ 1000) (hw : x.w ≤ now) (hg : Gon x.w (g x.id) now) :
    Calls Try.prog 32 #[.pointer (some ⟨t, 1, none⟩), .int .i64 now] w (XC B t vA vL o b c p (n + 1) N (ins ⟨x.id, nx x.w (g x.id) now, (n : Int) + 1⟩ S) g (.tuple #[vD x.id x.w now, .bool true]) w) := by
  have hw2 : ¬ now < x.w := by omega
  clear hw
  have htl := h.ok.tail.1
  have hmem : x ∈ x :: S := by simp
  have c0 := h.c0
  have ht := h.lt
  have FR := Lib.hid h.far
  have HA := Lib.hid (h.later (below_al w (.cells #[.int .i64 0, .int .i64 0, .int .i64 0] 76)))
  have D1 := Lib.hid (Dbk.new w 0 0 0)
  have HB1 := Lib.hid (below_al w (.cells #[.int .i64 0, .int .i64 0, .int .i64 0] 76))
  clear h
  go_enter Try.func32, Try.ntmps32
  go_wp2_with fail
  refine (gmin_some HA.out.hg HA.out.ok.srt hl).mono ?_
  rintro e w1 ⟨rfl, hb⟩
  generalize w.alloc (.cells #[.int .i64 0, .int .i64 0, .int .i64 0] 76) = wa at *
  have HA1 := Lib.hid (HA.out.later hb)
  have D1 := Lib.hid (D1.out.later hb)
  have HB1 := Lib.hid (HB1.out.trans (hb.mono HB1.out.size))
  clear hb HA
  have X1 := Lib.hid (Blk.new w1 x)
  have NS := Lib.hid HA1.out.far
  have HA := Lib.hid (HA1.out.later (below_al w1 (.cells #[.int .i64 x.id, .int .i64 x.w, .int .i64 x.s] 106)))
  have D1 := Lib.hid (D1.out.later (below_al w1 (.cells #[.int .i64 x.id, .int .i64 x.w, .int .i64 x.s] 106)))
  have HB1 := Lib.hid (HB1.out.trans ((below_al w1 (.cells #[.int .i64 x.id, .int .i64 x.w, .int .i64 x.s] 106)).mono HB1.out.size))
  clear HA1
  go_upto_region 4 with (fail)
  generalize w1.alloc (.cells #[.int .i64 x.id, .int .i64 x.w, .int .i64 x.s] 106) = w2 at *
  generalize w1.heap.size = s at *
  clear c0 ht
  have c0 := HA.out.c0
  obtain ⟨x0, x1, x2, _⟩ := X1.out.cells
  obtain ⟨d0, d1, d2, f0, f1, f2⟩ := D1.out.cells
  go_wp2_with fail
  refine (again_on HA.out hmem hn hl hg).mono ?_
  rintro e w3 hr3
  have HR := Lib.hid hr3
  obtain rfl := hr3.1
  clear hr3
  obtain ⟨_, p1, h1, h2⟩ := HR.out
  have X3 := Lib.hid (X1.out.tc NS.out h2)
  have D3 := Lib.hid (D1.out.tc FR.out h2)
  clear h1 h2 x0 x1 x2 d0 d1 d2 f0 f1 f2 c0
  obtain ⟨x0, x1, x2, _⟩ := X3.out.cells
  obtain ⟨d0, d1, d2, f0, f1, f2⟩ := D3.out.cells
  have HF : Hid (XC B t vA vL o b c p (n + 1) N (ins ⟨x.id, nx x.w (g x.id) now, (n : Int) + 1⟩ S) g (.tuple #[vD x.id x.w now, .bool true]) w (.returned (.tuple #[vD x.id x.w now, .bool true])) (((w3.setCell ⟨w.heap.size, 0, none⟩ (.int .i64 x.id)).setCell ⟨w.heap.size, 1, none⟩ (.int .i64 x.w)).setCell ⟨w.heap.size, 2, none⟩ (.int .i64 now))) := by
    have h9 := HR.out.set3 (u := .tuple #[vD x.id x.w now, .bool true]) (TC.of_below p HB1.out) (Nat.le_refl _) D3.out x.id x.w now
    rw [htl] at h9
    exact h9
  clear HR X1 D1 HA
  go_wp2_with fail
  refine bodyPost_ret (v := .tuple #[vD x.id x.w now, .bool true]) ?_ rfl HF.out
  rw [results_cell_tmp rfl]
  go_simp
end
end Go.Proofs.Ytmadcnpkaijllaa
