/- The document's own heap: Remove, Add, Move. Conditions: each theorem's own premises.
The document's own timers in memory; what period answers. Conditions: each theorem's own premises.
The document's own timers: Stop. Conditions: each theorem's own premises.
The document's own timers: Arm, Armed. Conditions: each theorem's own premises.
The document's own timers: Take. Conditions: each theorem's own premises. -/
import Derived.Test.YtdpapnfjpefhkaaGreatQpt
import Derived.Test.YtdpapnfjpefhkaaGreatTkem
namespace Go.Proofs.YtdpapnfjpefhkaaGreat
open Go.RowKit
set_option linter.unusedVariables false
set_option maxRecDepth 100000
section
variable {Rx : List Value} {Ty : TypeId} {B m n c : Nat} {w w1 w2 w9 : World} {A : Option Addr} {S : List It}
theorem Wn.mono {w : World} {b b' n c : Nat} {A : Option Addr} {l : List It} (h : Wn w b A n c l) (hb : b' ≤ b) : Wn w b' A n c l :=
 ⟨h.1, h.2.1, h.2.2.1, fun h0 => by
  obtain ⟨g, off, cur, e, hg, r⟩ := h.2.2.2 h0
  exact ⟨g, off, cur, e, Nat.le_trans hb hg, r⟩⟩
theorem MR.rem {T : List It} {k : Int} {l9 k9 N0 : Nat} {A9 : Option Addr} (x : It) (h1 : MX Rx Ty B w2 m n A c S) (hb : Below w2.heap.size w2 w9) (h2 : Below w.heap.size w w2) (hm : m < w.heap.size) (hN : w.heap.size ≤ N0) (hN2 : N0 < w2.heap.size) (hw : Wn w9 w2.heap.size A9 l9 k9 T) (hn : Fmm A9 k9) (e : del k S = T) (hB : B ≤ w.heap.size) :
  MR Rx Ty B m n (del k S) (.tuple #[vI x, .bool true]) w (.returned (.tuple #[vI x, .bool true])) ((((w9.setCell ⟨m, 0, none⟩ (.slice A9 l9 k9)).setCell ⟨N0, 0, none⟩ (.int .i64 x.id)).setCell ⟨N0, 1, none⟩ (.int .i64 x.w)).setCell ⟨N0, 2, none⟩ (.int .i64 x.s)) := by
 subst e
 obtain rfl : l9 = (del k S).length := hw.1.symm
 have h9 := h1.later hb
 have hs := h2.size
 have hmN : m ≠ N0 := by omega
 have key : ∀ (u : World) (j : Nat), j ≠ N0 → (((u.setCell ⟨N0, 0, none⟩ (.int .i64 x.id)).setCell ⟨N0, 1, none⟩ (.int .i64 x.w)).setCell ⟨N0, 2, none⟩ (.int .i64 x.s)).heap[j]? = u.heap[j]? := fun u j hj =>
  (Below.heap_setCell _ _ _ _ (by exact hj)).trans ((Below.heap_setCell _ _ _ _ (by exact hj)).trans (Below.heap_setCell _ _ _ _ (by exact hj)))
 have r1 : Wn (w9.setCell ⟨m, 0, none⟩ (.slice A9 (del k S).length k9)) w2.heap.size A9 (del k S).length k9 (del k S) :=
  hw.keep fun g cur _ hg => (Below.heap_setCell _ _ _ _ (by rintro rfl; rw [h9.hb] at hg; injection hg with hg; injection hg with _ hg _; exact h1.ty.1 hg)).trans hg
 refine ⟨rfl, ⟨A9, k9, ⟨?_, (r1.keep fun g cur h0 hg => (key _ g (by omega)).trans hg).mono (by omega), h1.lo, hn, h1.ty⟩⟩, ?_, ?_⟩
 · rw [key _ m hmN, heap_setCell_same _ m 0 _ _ _ h9.hb, set_zero]
 · have hb9 : Below w.heap.size w w9 := h2.trans (hb.mono hs)
   have hk := (Km.of_below (m := m) hb9).set 0 (.slice A9 (del k S).length k9)
   exact ⟨hk.os, hk.tape, hk.output, by simpa [World.setCell] using hb9.size, fun j h3 h4 => (key _ j (by omega)).trans (hk.block j h3 h4)⟩
 · refine .inl fun A' n' c' he h0 k' hk2 => ?_
   rw [cell_blk (key _ m hmN), cell_of_row _ m 0 _ _ _ (heap_setCell_same w9 m 0 _ _ _ h9.hb), set_zero] at he
   injection he with he
   injection he with e3 e4 e5
   obtain ⟨g, off, cur, e6, e7, _⟩ := hw.2.2.2 (by omega)
   rw [← e3, e6] at hk2
   injection hk2 with hk2
   subst hk2
   exact Nat.le_trans hs e7
set_option maxHeartbeats 4000000 in
theorem rrem_no {k : Int} (h : MH Rx Ty B w m n S) (hk : k ∉ ids S) (hl : S.length ≤ 1000) : Calls Tryz.prog 112 #[.pointer (some ⟨m, 0, none⟩), .int .i64 k] w (MR Rx Ty B m n S (.tuple #[vI zI, .bool false]) w) := by
 have HX := Lib.hid h
 have HK := Lib.hid hk
 clear h hk
 go_enter Tryz.func112, Tryz.ntmps112
 go_wp2_with fail
 refine (rfind_no (HX.out.later (below_al w _)) HK.out hl).mono ?_
 rintro e w' ⟨rfl, rfl⟩
 have HE : Hid (MR Rx Ty B m n S (.tuple #[vI zI, .bool false]) w (.returned (.tuple #[vI zI, .bool false])) (w.alloc (.cells #[.int .i64 0, .int .i64 0, .int .i64 0] 215))) := ⟨rfl, HX.out.later (below_al _ _), Km.of_below (below_al _ _), .inr (cell_blk ((below_al w _).block m HX.out.lt) 0)⟩
 go_wp2_with fail
 refine bodyPost_ret (v := .tuple #[vI zI, .bool false]) ?_ rfl HE.out
 rw [results_cell_tmp rfl]; go_simp; try exact ⟨rfl, rfl, rfl⟩
set_option maxRecDepth 100000 in
set_option maxHeartbeats 8000000 in
theorem rrem_yes {p : Nat} {x : It} (h : MH Rx Ty B w m n S) (hn : (ids S).Nodup) (hp : S[p]? = some x) (hl : S.length ≤ 1000) (hB : B ≤ w.heap.size) : Calls Tryz.prog 112 #[.pointer (some ⟨m, 0, none⟩), .int .i64 x.id] w (MR Rx Ty B m n (del x.id S) (.tuple #[vI x, .bool true]) w) := by
 have HX := Lib.hid h
 have HP := Lib.hid (And.intro hn hp)
 have hpl := at_lt hp
 have hml := h.lt
 have HD : Hid (del x.id S = S.take p ++ S.drop (p + 1)) := by show _ = _; rw [del_at hn hp rfl, List.eraseIdx_eq_take_drop_succ]
 clear h hn hp
 go_enter Tryz.func112, Tryz.ntmps112
 go_wp2_with fail
 refine (rfind_yes (HX.out.later (below_al w _)) HP.out.1 HP.out.2 hl).mono ?_
 rintro e w' ⟨rfl, rfl⟩
 obtain ⟨A, c, hx⟩ := HX.out
 obtain ⟨g, off, rfl, hg1, hg2, hc⟩ := hx.wn.cells (by omega)
 obtain ⟨x0, x1, x2⟩ := hc p x HP.out.2
 have hba := below_al w (.cells #[.int .i64 0, .int .i64 0, .int .i64 0] 215)
 rw [← cell_blk (hba.block g hg2)] at x0 x1 x2
 have hg3 : g < (w.alloc (.cells #[.int .i64 0, .int .i64 0, .int .i64 0] 215)).heap.size := Nat.lt_of_lt_of_le hg2 hba.size
 have hx1 := hx.later hba
 have c0 := hx1.c0
 have hm1 := hx1.lt
 have V00 : (w.alloc (.cells #[.int .i64 0, .int .i64 0, .int .i64 0] 215)).heap[w.heap.size]? = some (.cells #[.int .i64 0, .int .i64 0, .int .i64 0] 215 (0, 0)) := heap_alloc_new _ _
 have hN00 := lt_of_blk V00
 obtain ⟨N0, hN0⟩ : ∃ N0, N0 = w.heap.size := ⟨_, rfl⟩
 have HN0 := Lib.hid hN0
 rw [← hN0] at V00 hN00 ⊢
 have hm0 : m < N0 := by rw [hN0]; exact hml
 generalize w.alloc (.cells #[.int .i64 0, .int .i64 0, .int .i64 0] 215) = w1 at *
 have p1 : (p : Int) < (S.length : Int) := by omega
 have p0 : (0 : Int) ≤ (p : Int) := by omega
 have hlc := hx.wn.2.1
 have hcm := hx.wn.2.2.1
 have HX1 := Lib.hid hx1
 have HBA := Lib.hid hba
 clear hc hx hx1 hba HX hN0
 go_upto_region 5 with (fail)
 have HB2 : Hid (Below w.heap.size w (w1.alloc (.cells #[.int .i64 x.id, .int .i64 x.w, .int .i64 x.s] 215))) := HBA.out.trans ((below_al w1 _).mono HBA.out.size)
 have HX2 := Lib.hid (HX1.out.later (below_al w1 (.cells #[.int .i64 x.id, .int .i64 x.w, .int .i64 x.s] 215)))
 have V0 := Lib.hid (((below_al w1 (.cells #[.int .i64 x.id, .int .i64 x.w, .int .i64 x.s] 215)).block N0 hN00).trans V00)
 have V1 : Hid ((w1.alloc (.cells #[.int .i64 x.id, .int .i64 x.w, .int .i64 x.s] 215)).heap[w1.heap.size]? = some (.cells #[.int .i64 x.id, .int .i64 x.w, .int .i64 x.s] 215 (0, 0))) := heap_alloc_new _ _
 have HN : Hid (w.heap.size ≤ N0 ∧ N0 < (w1.alloc (.cells #[.int .i64 x.id, .int .i64 x.w, .int .i64 x.s] 215)).heap.size) := ⟨by have := HN0.out; omega, lt_of_blk V0.out⟩
 have HN1 : Hid (w1.heap.size < (w1.alloc (.cells #[.int .i64 x.id, .int .i64 x.w, .int .i64 x.s] 215)).heap.size ∧ w.heap.size ≤ w1.heap.size) := ⟨lt_of_blk V1.out, HBA.out.size⟩
 clear x0 x1 x2 V00 HX1 HBA HN0 c0 hm1 hg3 hN00 hm0
 generalize w1.alloc (.cells #[.int .i64 x.id, .int .i64 x.w, .int .i64 x.s] 215) = w2 at *
 generalize w1.heap.size = N1 at *
 have c0 := HX2.out.c0
 have hm2 := HX2.out.lt
 have f0 := HX2.out.fz 0
 have p2 : (p : Int) ≤ (c : Int) := by omega
 have p3 : (p : Int) + 1 ≤ (S.length : Int) := by omega
 have p4 : (p : Int) + 1 ≤ (c : Int) := by omega
 have p5 : (S.length : Int) ≤ (c : Int) := by omega
 have p6 : (p : Int) ≤ 1000 := by omega
 have hw1 : IntKind.i64.wrap ((p : Int) + 1) = (p : Int) + 1 := by rw [IntKind.wrap_i64]; omega
 have hw2 : (0 : Int) ≤ (p : Int) + 1 := by omega
 have hw3 : ((p : Int) + 1).toNat = p + 1 := by omega
 have e3 := HX2.out.wn.drop (k := p + 1) (by omega)
 by_cases hpc : p + 1 < c
 · have p7 : ¬ c = p + 1 := by omega
   have E3 := Lib.hid e3.rd
   clear e3
   have T3 := Lib.hid (HX2.out.wn.take (k := p) (by omega)).rd
   have KP : Hid (∀ w', Below w2.heap.size w2 w' → w'.cell? ⟨m, 0, none⟩ = some (.slice (some ⟨g, off, none⟩) S.length c)) := fun w' hb => by
    have h9 := (HX2.out.later hb).c0
    skip
    exact h9
   refine but_start 19 (fun w' => w'.cell? ⟨m, 0, none⟩ = some (.slice (some ⟨g, off, none⟩) S.length c)) (by kernel_rfl) ?_
   have hHeld := KP.out w2.drew (Below.refl _ _).drew
   change AnyBut _ _ _ _ _ _ 20 _ _ _
   refine tkT 0 rfl hHeld ?_
   refine tkT 2 rfl hHeld ?_
   refine tkT 3 rfl hHeld ?_
   refine tkT 4 rfl hHeld ?_
   refine tkT 5 rfl hHeld ?_
   refine tkT 6 rfl hHeld ?_
   refine tkT 7 rfl hHeld ?_
   refine tkT 9 rfl hHeld ?_
   refine tkT 10 rfl hHeld ?_
   refine tkT 11 rfl hHeld ?_
   refine tkT 12 rfl hHeld ?_
   refine tkT 13 rfl hHeld ?_
   refine tkT 14 rfl hHeld ?_
   refine tkT 15 rfl hHeld ?_
   try simp only [l1, l2, l3, Act.put, l4, l5, l6]
   clear hHeld
   refine but_one (i := 1) (by kernel_rfl) rfl ?_
   intro K hK
   go_simp
   refine hK _ _ (fun _ => kpo KP) ?_
   clear hK K
   try simp only [l1, l2, l3, Act.put, l4, l5, l6]
   refine but_one (i := 8) (by kernel_rfl) rfl ?_
   intro K hK
   refine step_copy (w2 := w2) rfl (.tmp 22) (.tmp 28) rfl _ (some ⟨g, off, none⟩) p c (S.take p) (by rfl) (by rfl) (by first | exact heap_e1 _ | exact heap_e2 _ _ | exact heap_e3 _ _) (by first | omega | (simp <;> omega)) (by repeat' (first | exact Below.refl _ _ | (with_reducible assumption) | refine Below.drew ?_ | refine Below.alloc ?_ (by first | omega | (simp <;> omega)) _)) T3.out (by omega) ?_; intro v7 w7 ho7 hb7 hg7; have HO7 := Lib.hid ho7; have hs7 := hb7.size; clear ho7
   refine hK _ _ (fun _ => kpo KP) ?_
   clear hK K
   try simp only [l1, l2, l3, Act.put, l4, l5, l6]
   refine but_one (i := 16) (by kernel_rfl) rfl ?_
   intro K hK
   refine step_more (w2 := w2) rfl (.tmp 29) (.tmp 36) rfl v7 (some ⟨g, off + (p + 1) * 3, none⟩) p (S.length - (p + 1)) (c - (p + 1)) (S.take p) (S.drop (p + 1)) (by rfl) (by rfl) HO7.out hb7 (E3.out.later hb7) (by omega) (by omega) ?_; intro v9 w9 ho9 hb9; have hx9 := HX2.out.later hb9; have c09 := hx9.c0; have f9 := hx9.fz 0; have hl9 := hx9.lt; obtain ⟨A9, k9, hv9, hw9, hn9⟩ := Wn.of_own (by simp only [List.length_append, List.length_take, List.length_drop]; omega) ho9; subst hv9; have HF := Lib.hid (MR.rem x HX2.out hb9 HB2.out hml HN.out.1 HN.out.2 hw9 hn9 HD.out hB); have U0 := (hb9.block _ HN.out.2).trans V0.out; have U1 := (hb9.block _ HN1.out.1).trans V1.out; clear ho9 hx9 hw9 hn9
   refine hK _ _ (fun _ => kpo KP) ?_
   clear hK K
   try simp only [l1, l2, l3, Act.put, l4, l5, l6]
   refine but_one (i := 17) (by kernel_rfl) rfl ?_
   intro K hK
   go_simp
   refine hK _ _ (fun _ => kpo KP) ?_
   clear hK K
   try simp only [l1, l2, l3, Act.put, l4, l5, l6]
   refine but_one (i := 18) (by kernel_rfl) rfl ?_
   intro K hK
   go_simp
   refine hK _ _ (fun _ => kpo KP) ?_
   clear hK K
   try simp only [l1, l2, l3, Act.put, l4, l5, l6]
   refine but_one (i := 19) (by kernel_rfl) rfl ?_
   intro K hK
   go_simp
   refine hK _ _ (fun h => absurd rfl h) ?_
   clear hK K
   try simp only [l1, l2, l3, Act.put, l4, l5, l6]
   refine but_done (by kernel_rfl) ?_
   have g0 : m ≠ N0 := by have := HN.out.1; omega
   have g1 : m ≠ N1 := by have := HN1.out.2; omega
   have V3 := (Below.heap_setCell w9 ⟨m, 0, none⟩ (.slice A9 (p + (S.length - (p + 1))) k9) N0 (fun e => g0 e.symm)).trans U0
   have V4 := (Below.heap_setCell w9 ⟨m, 0, none⟩ (.slice A9 (p + (S.length - (p + 1))) k9) N1 (fun e => g1 e.symm)).trans U1
   generalize w9.setCell ⟨m, 0, none⟩ (.slice A9 (p + (S.length - (p + 1))) k9) = w10 at *
   have r0 := cell_of_row w10 N1 0 _ _ _ V4
   have r1 := cell_of_row w10 N1 1 _ _ _ V4
   have r2 := cell_of_row w10 N1 2 _ _ _ V4
   have z0 := frozen_of_row w10 N0 0 _ _ V3
   have z1 := frozen_of_row w10 N0 1 _ _ V3
   have z2 := frozen_of_row w10 N0 2 _ _ V3
   have y0 := cell_of_row w10 N0 0 _ _ _ V3
   have y1 := cell_of_row w10 N0 1 _ _ _ V3
   have y2 := cell_of_row w10 N0 2 _ _ _ V3
   simp only [List.getElem?_toArray, List.getElem?_cons_succ, List.getElem?_cons_zero] at r0 r1 r2 y0 y1 y2
   clear U0 U1 KP T3 V3 V4
   go_wp2_with fail
   refine bodyPost_ret (v := .tuple #[vI x, .bool true]) ?_ rfl HF.out
   rw [results_cell_tmp rfl]
   go_simp
 · obtain rfl : c = p + 1 := by omega
   have hS0 : S.length = p + 1 := by omega
   have E3 : Hid (RdI w2 (some ⟨g, off, none⟩) 0 (S.drop (p + 1))) := by rw [List.drop_eq_nil_of_le (by omega)]; exact RdI.nil _ _
   have hw4 : (p : Int) ≤ (p : Int) + 1 := by omega
   clear e3 p2 p3 p4 p5
   rw [hS0] at c0
   have T3 := Lib.hid (HX2.out.wn.take (k := p) (by omega)).rd
   have KP : Hid (∀ w', Below w2.heap.size w2 w' → w'.cell? ⟨m, 0, none⟩ = some (.slice (some ⟨g, off, none⟩) (p + 1) (p + 1))) := fun w' hb => by
    have h9 := (HX2.out.later hb).c0
    rw [hS0] at h9
    exact h9
   refine but_start 19 (fun w' => w'.cell? ⟨m, 0, none⟩ = some (.slice (some ⟨g, off, none⟩) (p + 1) (p + 1))) (by kernel_rfl) ?_
   have hHeld := KP.out w2.drew (Below.refl _ _).drew
   change AnyBut _ _ _ _ _ _ 20 _ _ _
   refine tkT 0 rfl hHeld ?_
   refine tkT 2 rfl hHeld ?_
   refine tkT 3 rfl hHeld ?_
   refine tkT 4 rfl hHeld ?_
   refine tkT 5 rfl hHeld ?_
   refine tkT 6 rfl hHeld ?_
   refine tkT 7 rfl hHeld ?_
   refine tkT 9 rfl hHeld ?_
   refine tkT 10 rfl hHeld ?_
   refine tkT 11 rfl hHeld ?_
   refine tkT 12 rfl hHeld ?_
   refine tkT 13 rfl hHeld ?_
   refine tkT 14 rfl hHeld ?_
   refine tkT 15 rfl hHeld ?_
   try simp only [l1, l2, l3, Act.put, l4, l5, l6]
   clear hHeld
   refine but_one (i := 1) (by kernel_rfl) rfl ?_
   intro K hK
   go_simp
   refine hK _ _ (fun _ => kpo KP) ?_
   clear hK K
   try simp only [l1, l2, l3, Act.put, l4, l5, l6]
   refine but_one (i := 8) (by kernel_rfl) rfl ?_
   intro K hK
   refine step_copy (w2 := w2) rfl (.tmp 22) (.tmp 28) rfl _ (some ⟨g, off, none⟩) p (p + 1) (S.take p) (by rfl) (by rfl) (by first | exact heap_e1 _ | exact heap_e2 _ _ | exact heap_e3 _ _) (by first | omega | (simp <;> omega)) (by repeat' (first | exact Below.refl _ _ | (with_reducible assumption) | refine Below.drew ?_ | refine Below.alloc ?_ (by first | omega | (simp <;> omega)) _)) T3.out (by omega) ?_; intro v7 w7 ho7 hb7 hg7; have HO7 := Lib.hid ho7; have hs7 := hb7.size; clear ho7
   refine hK _ _ (fun _ => kpo KP) ?_
   clear hK K
   try simp only [l1, l2, l3, Act.put, l4, l5, l6]
   refine but_one (i := 16) (by kernel_rfl) rfl ?_
   intro K hK
   refine step_more (w2 := w2) rfl (.tmp 29) (.tmp 36) rfl v7 (some ⟨g, off, none⟩) p (0) (0) (S.take p) (S.drop (p + 1)) (by rfl) (by rfl) HO7.out hb7 (E3.out.later hb7) (by omega) (by omega) ?_; intro v9 w9 ho9 hb9; have hx9 := HX2.out.later hb9; have c09 := hx9.c0; have f9 := hx9.fz 0; have hl9 := hx9.lt; obtain ⟨A9, k9, hv9, hw9, hn9⟩ := Wn.of_own (by simp only [List.length_append, List.length_take, List.length_drop]; omega) ho9; subst hv9; have HF := Lib.hid (MR.rem x HX2.out hb9 HB2.out hml HN.out.1 HN.out.2 hw9 hn9 HD.out hB); have U0 := (hb9.block _ HN.out.2).trans V0.out; have U1 := (hb9.block _ HN1.out.1).trans V1.out; clear ho9 hx9 hw9 hn9
   refine hK _ _ (fun _ => kpo KP) ?_
   clear hK K
   try simp only [l1, l2, l3, Act.put, l4, l5, l6]
   refine but_one (i := 17) (by kernel_rfl) rfl ?_
   intro K hK
   go_simp
   refine hK _ _ (fun _ => kpo KP) ?_
   clear hK K
   try simp only [l1, l2, l3, Act.put, l4, l5, l6]
   refine but_one (i := 18) (by kernel_rfl) rfl ?_
   intro K hK
   go_simp
   refine hK _ _ (fun _ => kpo KP) ?_
   clear hK K
   try simp only [l1, l2, l3, Act.put, l4, l5, l6]
   refine but_one (i := 19) (by kernel_rfl) rfl ?_
   intro K hK
   go_simp
   refine hK _ _ (fun h => absurd rfl h) ?_
   clear hK K
   try simp only [l1, l2, l3, Act.put, l4, l5, l6]
   refine but_done (by kernel_rfl) ?_
   have g0 : m ≠ N0 := by have := HN.out.1; omega
   have g1 : m ≠ N1 := by have := HN1.out.2; omega
   have V3 := (Below.heap_setCell w9 ⟨m, 0, none⟩ (.slice A9 (p + (0)) k9) N0 (fun e => g0 e.symm)).trans U0
   have V4 := (Below.heap_setCell w9 ⟨m, 0, none⟩ (.slice A9 (p + (0)) k9) N1 (fun e => g1 e.symm)).trans U1
   generalize w9.setCell ⟨m, 0, none⟩ (.slice A9 (p + (0)) k9) = w10 at *
   have r0 := cell_of_row w10 N1 0 _ _ _ V4
   have r1 := cell_of_row w10 N1 1 _ _ _ V4
   have r2 := cell_of_row w10 N1 2 _ _ _ V4
   have z0 := frozen_of_row w10 N0 0 _ _ V3
   have z1 := frozen_of_row w10 N0 1 _ _ V3
   have z2 := frozen_of_row w10 N0 2 _ _ V3
   have y0 := cell_of_row w10 N0 0 _ _ _ V3
   have y1 := cell_of_row w10 N0 1 _ _ _ V3
   have y2 := cell_of_row w10 N0 2 _ _ _ V3
   simp only [List.getElem?_toArray, List.getElem?_cons_succ, List.getElem?_cons_zero] at r0 r1 r2 y0 y1 y2
   clear U0 U1 KP T3 V3 V4
   go_wp2_with fail
   refine bodyPost_ret (v := .tuple #[vI x, .bool true]) ?_ rfl HF.out
   rw [results_cell_tmp rfl]
   go_simp
end
end Go.Proofs.YtdpapnfjpefhkaaGreat
namespace Go.Proofs.YtdpapnfjpefhkaaGreat
open Go.RowKit
set_option linter.unusedVariables false
set_option maxRecDepth 100000
structure Pq (Q S : List It) (g : Int → Int) : Prop where
 nd : (ids Q).Nodup
 mm : ∀ k, k ∈ ids Q ↔ k ∈ ids S
 pr : ∀ x ∈ Q, x.w = g x.id
theorem mem_del_ids {k j : Int} {S : List It} : j ∈ ids (del k S) ↔ j ∈ ids S ∧ j ≠ k := by rw [ids_del]; simp
theorem Pq.del {Q S : List It} {g : Int → Int} (h : Pq Q S g) (k : Int) : Pq (YtdpapnfjpefhkaaGreat.del k Q) (YtdpapnfjpefhkaaGreat.del k S) (fput g k 0) :=
 ⟨nd_del h.nd, fun j => by rw [mem_del_ids, mem_del_ids, h.mm j], fun x hx => by
  have := del_mem.1 hx
  rw [fput_ne this.2]; exact h.pr x this.1⟩
theorem Pq.add {Q S : List It} {g : Int → Int} (h : Pq Q S g) (k t p s : Int) (hk : k ∉ ids S) : Pq (Q ++ [⟨k, p, 0⟩]) (ins ⟨k, t, s⟩ S) (fput g k p) := by
 have hq : k ∉ ids Q := fun e => hk ((h.mm k).1 e)
 have e1 : ids (Q ++ [⟨k, p, 0⟩]) = ids Q ++ [k] := by simp [ids]
 refine ⟨?_, fun j => ?_, fun x hx => ?_⟩
 · rw [e1, List.nodup_append]
   exact ⟨h.nd, by simp, fun a ha b hb e => by simp at hb; subst hb; subst e; exact hq ha⟩
 · rw [e1, List.mem_append, List.mem_singleton, ids_ins.mem_iff, List.mem_cons, h.mm j]
   exact or_comm
 · rw [List.mem_append, List.mem_singleton] at hx
   rcases hx with hx | rfl
   · have : x.id ≠ k := fun e => hq (by rw [← e]; exact mem_ids hx)
     rw [fput_ne this]; exact h.pr x hx
   · exact (fput_at _ _ _).symm
theorem Pq.len {Q S : List It} {g : Int → Int} (h : Pq Q S g) (hS : (ids S).Nodup) : Q.length = S.length := by
 have := ((List.perm_ext_iff_of_nodup h.nd hS).2 h.mm).length_eq
 rwa [ids_len, ids_len] at this
structure KT (m : Nat) (p p' : Option Nat) (w w' : World) : Prop where
 os : w'.os = w.os
 tape : w'.tape = w.tape
 output : w'.output = w.output
 size : w.heap.size ≤ w'.heap.size
 block : ∀ k, k < w.heap.size → k ≠ m → p ≠ some k → w'.heap[k]? = w.heap[k]?
 new : p' = p ∨ ∀ k, p' = some k → w.heap.size ≤ k
theorem KT.trans {m : Nat} {p p' p'' : Option Nat} {u v w : World} (h : KT m p p' u v) (k : KT m p' p'' v w) : KT m p p'' u w := by
 have h0 := h.size
 refine ⟨k.os.trans h.os, k.tape.trans h.tape, k.output.trans h.output, Nat.le_trans h.size k.size, fun i h1 h2 h4 => (k.block i (by omega) h2 (fun e => ?_)).trans (h.block i h1 h2 h4), ?_⟩
 · rcases h.new with h5 | h5
   · exact h4 (h5.symm.trans e)
   · have := h5 i e; omega
 · rcases k.new with h6 | h6
   · subst h6; exact h.new
   · exact .inr fun i hi => by have := h6 i hi; omega
theorem KT.of_below {m : Nat} (p : Option Nat) {w w' : World} (h : Below w.heap.size w w') : KT m p p w w' := ⟨h.os, h.tape, h.output, h.size, fun k hk _ _ => h.block k hk, .inl rfl⟩
theorem KT.of_km {m : Nat} (p : Option Nat) {w w' : World} (h : Km m w w') : KT m p p w w' := ⟨h.os, h.tape, h.output, h.size, fun k hk h1 _ => h.block k hk h1, .inl rfl⟩
structure MY (B m : Nat) (rA rN : Value) (A : Option Addr) (c : Nat) (P : Option Addr) (c2 n : Nat) (S Q : List It) (w : World) : Prop where
 mx : MX [.slice P Q.length c2, rA, rN] 68 B w m n A c S
 row : w.ownsRow B 215 3 (.slice P Q.length c2) Q.length (iV Q)
 ap : 0 < S.length → ∀ k, blk P = some k → blk A ≠ some k
def MT (B m : Nat) (rA rN : Value) (p : Option Nat) (n : Nat) (S : List It) (g : Int → Int) (w : World) : Prop :=
 ∃ A c P c2 Q, blk P = p ∧ MY B m rA rN A c P c2 n S Q w ∧ Pq Q S g
def MC (B m : Nat) (rA rN : Value) (p : Option Nat) (n : Nat) (S : List It) (g : Int → Int) (v : Value) (w : World) (e : Ending) (w' : World) : Prop :=
 e = .returned v ∧ ∃ p', MT B m rA rN p' n S g w' ∧ KT m p p' w w'
section
variable {B m n c d2 : Nat} {rA rN : Value} {w w' w'' w1 w9 : World} {A P : Option Addr} {p p' : Option Nat} {S Q S' Q' : List It} {g g' : Int → Int} {e : Ending} {v : Value}
theorem MY.c0 (h : MY B m rA rN A c P d2 n S Q w) : w.cell? ⟨m, 0, none⟩ = some (.slice A S.length c) := h.mx.c0
theorem MY.c2 (h : MY B m rA rN A c P d2 n S Q w) : w.cell? ⟨m, 2, none⟩ = some (.slice P Q.length d2) := by rw [cell_of_row w m 2 _ _ _ h.mx.hb]; rfl
theorem MY.lt (h : MY B m rA rN A c P d2 n S Q w) : m < w.heap.size := h.mx.lt
theorem MY.later (h : MY B m rA rN A c P d2 n S Q w) (hb : Below w.heap.size w w') : MY B m rA rN A c P d2 n S Q w' := ⟨h.mx.later hb, row_later h.row hb, h.ap⟩
theorem MT.later (h : MT B m rA rN p n S g w) (hb : Below w.heap.size w w') : MT B m rA rN p n S g w' := by
 obtain ⟨A, c, P, c2, Q, e, h1, h2⟩ := h
 exact ⟨A, c, P, c2, Q, e, h1.later hb, h2⟩
theorem MT.lt (h : MT B m rA rN p n S g w) : m < w.heap.size := by obtain ⟨A, c, P, c2, Q, e, h1, h2⟩ := h; exact h1.lt
theorem MT.lo (h : MT B m rA rN p n S g w) : B ≤ m := by obtain ⟨A, c, P, c2, Q, e, h1, h2⟩ := h; exact h1.mx.lo
theorem MT.lp (h : MT B m rA rN p n S g w) {k : Nat} (hk : p = some k) : B ≤ k ∧ k < w.heap.size := by obtain ⟨A, c, P, c2, Q, e, h1, h2⟩ := h; exact row_lt h1.row (e.trans hk)
theorem MT.tm (h : MT B m rA rN p n S g w) : ∃ cs, w.heap[m]? = some (.cells cs 68 (0, 0)) := by obtain ⟨A, c, P, c2, Q, e, h1, h2⟩ := h; exact ⟨_, h1.mx.hb⟩
theorem MT.tp (h : MT B m rA rN p n S g w) {k : Nat} (hk : p = some k) : ∃ cs fr, w.heap[k]? = some (.cells cs 215 fr) := by obtain ⟨A, c, P, c2, Q, e, h1, h2⟩ := h; exact row_tag h1.row (e.trans hk)
theorem MT.low (h : MT B m rA rN p n S g w) (hB : B ≤ w.heap.size) (hc : KT m p p' w w') : Below B w w' := by
 have := h.lo
 exact ⟨hc.os, hc.tape, hc.output, hc.size, fun k hk => hc.block k (by omega) (by omega) fun e => by have := (h.lp e).1; omega⟩
theorem MT.go (h : MT B m rA rN p n S g w) (hc : KT m p p' w w') : MC B m rA rN p n S g v w e w' → e = .returned v := fun h => h.1
theorem MY.heap (h : MY B m rA rN A c P d2 n S Q w) {n' : Nat} (hr : MR [.slice P Q.length d2, rA, rN] 68 B m n' S' v w e w') (hS : S'.length = 0 ∨ 0 < S.length ∨ w'.cell? ⟨m, 0, none⟩ ≠ w.cell? ⟨m, 0, none⟩) : ∃ A' c', MY B m rA rN A' c' P d2 n' S' Q w' := by
 obtain ⟨h1, ⟨A', c', hx⟩, hk, hf⟩ := hr
 have tagm : ∀ k, blk P = some k → k ≠ m := fun k hk e => by
  obtain ⟨cs, fr, ht⟩ := row_tag h.row hk
  have h5 := h.mx.hb
  rw [e, h5] at ht; injection ht with ht; injection ht with _ ht _; cases ht
 refine ⟨A', c', hx, row_keep h.row fun k hk2 => hk.block k (row_lt h.row hk2).2 (tagm k hk2), fun h0 k hk2 e => ?_⟩
 rcases hf with hf | hf
 · have := hf A' _ c' hx.c0 h0 k e
   have := (row_lt h.row hk2).2
   omega
 · rcases hS with hS | hS | hS
   · omega
   · have e1 := hf
     rw [hx.c0, h.c0] at e1
     injection e1 with e1
     injection e1 with e2 _ _
     subst e2
     exact h.ap hS k hk2 e
   · exact hS hf
theorem MY.other (h : MY B m rA rN A c P d2 n S Q w) (hb : Below w.heap.size w w9) {a : Option Addr} {N c9 : Nat} (ho : w9.ownsRow w.heap.size 215 3 (.slice a N c9) N (iV Q')) (hN : N = Q'.length) :
  MY B m rA rN A c a c9 n S Q' (w9.setCell ⟨m, 2, none⟩ (.slice a N c9)) ∧ KT m (blk P) (blk a) w (w9.setCell ⟨m, 2, none⟩ (.slice a N c9)) := by
 subst hN
 have h9 := h.later hb
 have key : ∀ k, k ≠ m → (w9.setCell ⟨m, 2, none⟩ (.slice a Q'.length c9)).heap[k]? = w9.heap[k]? := fun k hk => Below.heap_setCell _ _ _ _ (by exact hk)
 have hlt := h.lt
 have hs := hb.size
 refine ⟨⟨⟨?_, h9.mx.wn.keep fun g cur _ hg => (key g ?_).trans hg, h9.mx.lo, h9.mx.nn, h9.mx.ty⟩, ?_, fun h0 k hk e => ?_⟩, ⟨hb.os, hb.tape, hb.output, by simpa [World.setCell] using hs, fun k hk h1 _ => (key k h1).trans (hb.block k hk), .inr fun k hk => (row_lt ho hk).1⟩⟩
 · rw [heap_setCell_same _ m 2 _ _ _ h9.mx.hb]; rfl
 · rintro rfl
   rw [h9.mx.hb] at hg; injection hg with hg; injection hg with _ hg _; cases hg
 · have r : (w9.setCell ⟨m, 2, none⟩ (.slice a Q'.length c9)).ownsRow w.heap.size 215 3 (.slice a Q'.length c9) Q'.length (iV Q') := row_keep ho fun k hk => key k (by have := (row_lt ho hk).1; omega)
   refine ⟨r.1, r.2.imp id fun ⟨g, cap, cur, q1, q2, q3⟩ => ⟨g, cap, cur, q1, by have := h.mx.lo; omega, q3⟩⟩
 · obtain ⟨g, off, e1, _, e3, _⟩ := h.mx.wn.cells h0
   have := (row_lt ho hk).1
   rw [e1] at e
   injection e with e
   have e4 : g = k := e
   omega
theorem MY.app {wx : World} {gB cap : Nat} {x : It} (h : MY B m rA rN A c P d2 n S Q w) (hx : Below w.heap.size w wx) (hown : w1.ownsRow B 215 3 (.slice (some ⟨gB, 0, none⟩) (Q.length + 1) cap) (Q.length + 1) (iV Q ++ eI x)) (hg : wx.grownBy w1 (Value.slice P Q.length d2).ownBlock) (hat : (Value.slice P Q.length d2).ownBlock = some gB ∨ w.heap.size ≤ gB) :
  MY B m rA rN A c (some ⟨gB, 0, none⟩) cap n S (Q ++ [x]) (w1.setCell ⟨m, 2, none⟩ (.slice (some ⟨gB, 0, none⟩) (Q.length + 1) cap)) ∧ KT m (blk P) (some gB) w (w1.setCell ⟨m, 2, none⟩ (.slice (some ⟨gB, 0, none⟩) (Q.length + 1) cap)) := by
 rw [own_blk] at hg hat
 have hs := hx.size
 have hlt := h.lt
 have tagm : ∀ k, blk P = some k → k ≠ m := fun k hk e => by
  obtain ⟨cs, fr, ht⟩ := row_tag h.row hk
  have h5 := h.mx.hb
  rw [e, h5] at ht; injection ht with ht; injection ht with _ ht _; cases ht
 have key : ∀ k, k ≠ m → (w1.setCell ⟨m, 2, none⟩ (.slice (some ⟨gB, 0, none⟩) (Q.length + 1) cap)).heap[k]? = w1.heap[k]? := fun k hk => Below.heap_setCell _ _ _ _ (by exact hk)
 have old : ∀ k, k < w.heap.size → blk P ≠ some k → w1.heap[k]? = w.heap[k]? := fun k hk hne => (hg.block k (by omega) (fun e => hne e.symm)).trans (hx.block k hk)
 have hm1 : w1.heap[m]? = w.heap[m]? := old m hlt fun e => tagm m e rfl
 have hgm : gB ≠ m := by
  rcases hat with e | e
  · exact tagm gB e
  · omega
 have e1 : (Q ++ [x]).length = Q.length + 1 := by simp
 refine ⟨⟨⟨?_, ?_, h.mx.lo, h.mx.nn, h.mx.ty⟩, ?_, fun h0 k hk e => ?_⟩, ⟨hg.os.trans hx.os, hg.tape.trans hx.tape, hg.output.trans hx.output, ?_, fun k hk h1 h2 => (key k h1).trans (old k hk h2), ?_⟩⟩
 · rw [heap_setCell_same _ m 2 _ _ _ (hm1.trans h.mx.hb), e1]; rfl
 · refine ⟨h.mx.wn.1, h.mx.wn.2.1, h.mx.wn.2.2.1, fun h0 => ?_⟩
   obtain ⟨g, off, cur, q1, q2, q3, q4⟩ := h.mx.wn.2.2.2 h0
   have q5 : blk P ≠ some g := fun e => h.ap h0 g e (by rw [q1]; rfl)
   have q6 : g ≠ m := by
    rintro rfl
    rw [h.mx.hb] at q3; injection q3 with q3; injection q3 with _ q3 _; cases q3
   have q7 := (key g q6).trans (old g (lt_of_blk q3) q5)
   exact ⟨g, off, cur, q1, q2, q7.trans q3, fun j u hu => (cell_blk q7 _).trans (q4 j u hu)⟩
 · rw [e1, show iV (Q ++ [x]) = iV Q ++ eI x by rw [← iV_app]; simp [iV]]
   exact row_keep hown fun k hk => by injection hk with hk; subst hk; exact key _ hgm
 · injection hk with hk
   subst hk
   rcases hat with h1 | h1
   · exact h.ap h0 gB h1 e
   · obtain ⟨g, off, e2, _, e3, _⟩ := h.mx.wn.cells h0
     rw [e2] at e
     injection e with e
     have e4 : g = gB := e
     omega
 · have := hg.size
   simp [World.setCell]; omega
 · rcases hat with h1 | h1
   · exact .inl h1.symm
   · exact .inr fun k hk => by injection hk with hk; subst hk; exact h1
theorem MY.at (h : MY B m rA rN A c P d2 n S Q w) {j : Nat} {x : It} (hx : Q[j]? = some x) : ∃ g, P = some ⟨g, 0, none⟩ ∧ g < w.heap.size ∧ w.cell? ⟨g, j * 3, none⟩ = some (.int .i64 x.id) ∧ w.cell? ⟨g, j * 3 + 1, none⟩ = some (.int .i64 x.w) := by
 have hj := at_lt hx
 obtain ⟨g, rfl, hc⟩ := row_form h.row (by omega)
 refine ⟨g, rfl, (row_lt h.row rfl).2, ?_, ?_⟩
 · rw [h.row.cellAt (j * 3) (by omega)]; exact iV_at hx 0 (by omega)
 · rw [h.row.cellAt (j * 3 + 1) (by omega)]; exact iV_at hx 1 (by omega)
set_option maxHeartbeats 4000000 in
theorem rper_yes {k : Int} (h : MT B m rA rN p n S g w) (hk : k ∈ ids S) (hS : (ids S).Nodup) (hl : S.length ≤ 1000) : Calls Tryz.prog 89 #[.pointer (some ⟨m, 0, none⟩), .int .i64 k] w fun e w' => e = .returned (.int .i64 (g k)) ∧ w = w' := by
 obtain ⟨A, c, P, c2, Q, e0, h1, h2⟩ := h
 have hlq : Q.length ≤ 1000 := by rw [h2.len hS]; exact hl
 obtain ⟨i, x, hx, hxk⟩ := ids_mem ((h2.mm k).2 hk)
 have hg : x.w = g k := by rw [h2.pr x (at_mem hx), hxk]
 have hil := at_lt hx
 have c2' := h1.c2
 have HY := Lib.hid h1
 have HP := Lib.hid (And.intro h2.nd hx)
 have HK := Lib.hid hxk
 rw [← hg]
 clear h1 h2 hk hl hx hxk hg hS
 go_enter Tryz.func89, Tryz.ntmps89
 go_wp2_with fail
 go_loopw [5] (fun i' wr => ∃ j : Nat, j ≤ i ∧ i' = .int .i64 j ∧ wr = w) (fun i' _ => Q.length - (intOf i').toNat)
 case atStart => exact ⟨0, by omega, rfl, rfl⟩
 case round =>
  obtain ⟨j, hj, rfl, rfl⟩ := hrel
  have hlt : j < Q.length := by omega
  obtain ⟨y, hyj⟩ := ex_at hlt
  obtain ⟨g9, rfl, hg9, y0, y1⟩ := HY.out.at hyj
  have k1 : (j : Int) < (Q.length : Int) := by omega
  have b1 : IntKind.i64.wrap ((j : Int) + 1) = (j : Int) + 1 := by rw [IntKind.wrap_i64]; omega
  by_cases hji : j = i
  · subst hji
    have e : y = x := by have h1 := HP.out.2; rw [hyj] at h1; injection h1
    have k2 : y.id = k := by rw [e]; exact HK.out
    have e9 : x.w = y.w := by rw [e]
    have HE9 := Lib.hid e9
    clear hyj e e9
    go_wp2_with fail
    go_ret
    exact ⟨by rw [HE9.out]; rfl, rfl⟩
  · have k2 : ¬ y.id = k := fun e => hji (ids_inj HP.out.1 hyj HP.out.2 (e.trans HK.out.symm))
    clear hyj
    go_wp2_with fail
    go_roundw
    case rel => exact ⟨j + 1, by omega, by go_num, by first | rfl | trivial⟩
    case measure => simp [intOf]; omega
end
end Go.Proofs.YtdpapnfjpefhkaaGreat
namespace Go.Proofs.YtdpapnfjpefhkaaGreat
open Go.RowKit
set_option linter.unusedVariables false
set_option maxRecDepth 100000
section
variable {B m n : Nat} {rA rN : Value} {w w' : World} {p p' : Option Nat} {S S' : List It} {g g' : Int → Int} {e : Ending} {v : Value}
set_option maxHeartbeats 8000000 in
theorem rstop_no {k : Int} (h : MT B m rA rN p n S g w) (hS : Ok n S) (hk : k ∉ ids S) (hl : S.length ≤ 1000) : Calls Tryz.prog 90 #[.pointer (some ⟨m, 0, none⟩), .int .i64 k] w (MC B m rA rN p n S g (.bool false) w) := by
 obtain ⟨A, c, P, c2, Q, rfl, h1, h2⟩ := h
 have hlq : Q.length ≤ 1000 := by rw [h2.len hS.ids]; exact hl
 have hkq : k ∉ ids Q := fun e => hk ((h2.mm k).1 e)
 have HX : Hid (MH [.slice P Q.length c2, rA, rN] 68 B w m n S) := ⟨A, c, h1.mx⟩
 have H1 := Lib.hid h1
 have H2 := Lib.hid h2
 have hml := h1.lt
 clear h1 h2 hS
 go_enter Tryz.func90, Tryz.ntmps90
 go_wp2_with fail
 refine (rrem_no HX.out hk hl).mono ?_
 rintro e w1 hr
 obtain ⟨A', c', hy⟩ := H1.out.heap hr (by omega)
 have HK2 := Lib.hid ((KT.of_km (blk P) hr.2.2.1).trans (KT.of_below (blk P) (below_al w1 (.cells #[.int .i64 0, .int .i64 0, .int .i64 0] 215))))
 obtain rfl := hr.1
 have HY := Lib.hid (hy.later (below_al w1 (.cells #[.int .i64 0, .int .i64 0, .int .i64 0] 215)))
 clear hr hy H1 HX hk
 go_upto_region 2 with (fail)
 have e8 : w1.alloc (.cells #[.int .i64 zI.id, .int .i64 zI.w, .int .i64 zI.s] 215) = w1.alloc (.cells #[.int .i64 0, .int .i64 0, .int .i64 0] 215) := rfl
 try rw [e8]
 clear e8
 generalize w1.alloc (.cells #[.int .i64 0, .int .i64 0, .int .i64 0] 215) = w2 at *
 have c2' := HY.out.c2
 go_wp2_with fail
 go_loopw [7] (fun u wr => ∃ j : Nat, j ≤ Q.length ∧ u = .int .i64 j ∧ wr = w2) (fun u _ => Q.length - (intOf u).toNat)
 case atStart => exact ⟨0, by omega, rfl, rfl⟩
 case round =>
  obtain ⟨j, hj, rfl, rfl⟩ := hrel
  by_cases hlt : j < Q.length
  · obtain ⟨y, hyj⟩ := ex_at hlt
    obtain ⟨g9, rfl, hg9, y0, y1⟩ := HY.out.at hyj
    have k1 : (j : Int) < (Q.length : Int) := by omega
    have k0 : (0 : Int) ≤ (j : Int) := by omega
    have b1 : IntKind.i64.wrap ((j : Int) + 1) = (j : Int) + 1 := by rw [IntKind.wrap_i64]; omega
    have k2 : ¬ y.id = k := fun e => hkq (by rw [← e]; exact mem_ids (at_mem hyj))
    clear hyj
    go_wp2_with fail
    go_roundw
    case rel => exact ⟨j + 1, by omega, by go_num, by first | rfl | trivial⟩
    case measure => simp [intOf]; omega
  · obtain rfl : j = Q.length := by omega
    have k1 : ¬ (Q.length : Int) < (Q.length : Int) := by omega
    go_wp2_with fail
    go_ret
    exact ⟨rfl, blk P, ⟨_, _, _, _, _, rfl, HY.out, H2.out⟩, HK2.out⟩
set_option maxHeartbeats 16000000 in
theorem rstop_yes {x : It} (h : MT B m rA rN p n S g w) (hS : Ok n S) (hx : x ∈ S) (hl : S.length ≤ 1000) (hB : B ≤ w.heap.size) : Calls Tryz.prog 90 #[.pointer (some ⟨m, 0, none⟩), .int .i64 x.id] w (MC B m rA rN p n (del x.id S) (fput g x.id 0) (.bool true) w) := by
 obtain ⟨A, c, P, c2, Q, rfl, h1, h2⟩ := h
 have hlq : Q.length ≤ 1000 := by rw [h2.len hS.ids]; exact hl
 obtain ⟨q, hq, hql⟩ := mem_at hx
 obtain ⟨i, y, hy, hyk⟩ := ids_mem ((h2.mm x.id).2 (mem_ids hx))
 have hil := at_lt hy
 have HX : Hid (MH [.slice P Q.length c2, rA, rN] 68 B w m n S) := ⟨A, c, h1.mx⟩
 have H1 := Lib.hid h1
 have HPq := Lib.hid (h2.del x.id)
 have HP := Lib.hid (And.intro h2.nd hy)
 have HI := Lib.hid hyk
 have HD : Hid (del x.id Q = Q.take i ++ Q.drop (i + 1)) := by show _ = _; rw [del_at h2.nd hy hyk, List.eraseIdx_eq_take_drop_succ]
 have HS := Lib.hid (And.intro hS.ids hq)
 have hpos : 0 < S.length := by omega
 have hml := h1.lt
 clear h1 h2 hS hx hq hy hyk
 go_enter Tryz.func90, Tryz.ntmps90
 go_wp2_with fail
 refine (rrem_yes HX.out HS.out.1 HS.out.2 hl hB).mono ?_
 rintro e w1 hr
 obtain ⟨A', c', hy⟩ := H1.out.heap hr (.inr (.inl hpos))
 have HK2 := Lib.hid ((KT.of_km (blk P) hr.2.2.1).trans (KT.of_below (blk P) (below_al w1 (.cells #[.int .i64 x.id, .int .i64 x.w, .int .i64 x.s] 215))))
 obtain rfl := hr.1
 have HY := Lib.hid (hy.later (below_al w1 (.cells #[.int .i64 x.id, .int .i64 x.w, .int .i64 x.s] 215)))
 clear hr hy H1 HX HS
 go_upto_region 2 with (fail)
 generalize w1.alloc (.cells #[.int .i64 x.id, .int .i64 x.w, .int .i64 x.s] 215) = w2 at *
 have hwn : Wn w2 B P Q.length c2 Q := by
  obtain ⟨A0, c9, hv0, hwn0, -⟩ := Wn.of_own (base := B) rfl HY.out.row
  injection hv0 with e1 e2 e3
  rw [e1, e3]; exact hwn0
 have HW := Lib.hid hwn
 obtain ⟨gw, off, rfl, -, hgw, hc⟩ := hwn.cells (by omega)
 have HC := Lib.hid hc
 have hlc := hwn.2.1
 have hcm := hwn.2.2.1
 clear hwn hc
 generalize hkk : x.id = k at *
 have c2' := HY.out.c2
 go_wp2_with fail
 go_loopw [7] (fun u wr => ∃ j : Nat, j ≤ i ∧ u = .int .i64 j ∧ wr = w2) (fun u _ => Q.length - (intOf u).toNat)
 case atStart => exact ⟨0, by omega, rfl, rfl⟩
 case round =>
  obtain ⟨j, hj, rfl, rfl⟩ := hrel
  generalize wr = w2 at *
  have hlt : j < Q.length := by omega
  obtain ⟨z, hz⟩ := ex_at hlt
  obtain ⟨z0, -, -⟩ := HC.out j z hz
  have k1 : (j : Int) < (Q.length : Int) := by omega
  have k0 : (0 : Int) ≤ (j : Int) := by omega
  have b1 : IntKind.i64.wrap ((j : Int) + 1) = (j : Int) + 1 := by rw [IntKind.wrap_i64]; omega
  by_cases hji : j = i
  · subst hji
    have k2 : z.id = k := by
     have h1 := HP.out.2
     rw [hz] at h1; injection h1 with h1; rw [h1]; exact HI.out
    clear hz
    go_upto_region 6 with (fail)
    clear z0 c2'
    have c2' := HY.out.c2
    have f2 := HY.out.mx.fz 2
    have hm2 := HY.out.lt
    generalize j = i at *
    have p2 : (i : Int) ≤ (c2 : Int) := by omega
    have p3 : (i : Int) + 1 ≤ (Q.length : Int) := by omega
    have p4 : (i : Int) + 1 ≤ (c2 : Int) := by omega
    have p5 : (Q.length : Int) ≤ (c2 : Int) := by omega
    have p6 : (i : Int) ≤ 1000 := by omega
    have hw1 : IntKind.i64.wrap ((i : Int) + 1) = (i : Int) + 1 := by rw [IntKind.wrap_i64]; omega
    have hw2 : (0 : Int) ≤ (i : Int) + 1 := by omega
    have hw3 : ((i : Int) + 1).toNat = i + 1 := by omega
    have e3 := HW.out.drop (k := i + 1) (by omega)
    by_cases hpc : i + 1 < c2
    · have p7 : ¬ c2 = i + 1 := by omega
      have E3 := Lib.hid e3.rd
      clear e3
      have T3 := Lib.hid (HW.out.take (k := i) (by omega)).rd
      have KP : Hid (∀ w', Below w2.heap.size w2 w' → w'.cell? ⟨m, 2, none⟩ = some (.slice (some ⟨gw, off, none⟩) Q.length c2)) := fun w' hb => by
       have h9 := (HY.out.later hb).c2
       skip
       exact h9
      refine but_startQ 19 (fun w' => w'.cell? ⟨m, 2, none⟩ = some (.slice (some ⟨gw, off, none⟩) Q.length c2)) (by kernel_rfl) (by as_aux_lemma => kernel_rfl) ?_
      intro hTidy
      have hHeld := KP.out w2.drew (Below.refl _ _).drew
      change AnyBut _ _ _ _ _ _ 20 _ _ _
      refine tkQ 0 rfl hTidy hHeld ?_
      refine tkQ 2 rfl hTidy hHeld ?_
      refine tkQ 3 rfl hTidy hHeld ?_
      refine tkQ 4 rfl hTidy hHeld ?_
      refine tkQ 5 rfl hTidy hHeld ?_
      refine tkQ 6 rfl hTidy hHeld ?_
      refine tkQ 7 rfl hTidy hHeld ?_
      refine tkQ 9 rfl hTidy hHeld ?_
      refine tkQ 10 rfl hTidy hHeld ?_
      refine tkQ 11 rfl hTidy hHeld ?_
      refine tkQ 12 rfl hTidy hHeld ?_
      refine tkQ 13 rfl hTidy hHeld ?_
      refine tkQ 14 rfl hTidy hHeld ?_
      refine tkQ 15 rfl hTidy hHeld ?_
      try simp only [l1, l2, l3, Act.put, l4, l5, l6]
      clear hHeld
      refine but_one (i := 1) (by kernel_rfl) rfl ?_
      intro K hK
      go_simp
      refine hK _ _ (fun _ => kpo KP) ?_
      clear hK K
      try simp only [l1, l2, l3, Act.put, l4, l5, l6]
      refine but_one (i := 8) (by kernel_rfl) rfl ?_
      intro K hK
      refine step_copy (w2 := w2) rfl (.tmp 36) (.tmp 42) rfl _ (some ⟨gw, off, none⟩) i c2 (Q.take i) (by rfl) (by rfl) (by first | exact heap_e1 _ | exact heap_e2 _ _ | exact heap_e3 _ _) (by first | omega | (simp <;> omega)) (by repeat' (first | exact Below.refl _ _ | (with_reducible assumption) | refine Below.drew ?_ | refine Below.alloc ?_ (by first | omega | (simp <;> omega)) _)) T3.out (by omega) ?_; intro v7 w7 ho7 hb7 hg7; have HO7 := Lib.hid ho7; have hs7 := hb7.size; clear ho7
      refine hK _ _ (fun _ => kpo KP) ?_
      clear hK K
      try simp only [l1, l2, l3, Act.put, l4, l5, l6]
      refine but_one (i := 16) (by kernel_rfl) rfl ?_
      intro K hK
      refine step_more (w2 := w2) rfl (.tmp 43) (.tmp 50) rfl v7 (some ⟨gw, off + (i + 1) * 3, none⟩) i (Q.length - (i + 1)) (c2 - (i + 1)) (Q.take i) (Q.drop (i + 1)) (by rfl) (by rfl) HO7.out hb7 (E3.out.later hb7) (by omega) (by omega) ?_; intro v9 w9 ho9 hb9; obtain ⟨A9, k9, hv9, _, _⟩ := own_cap ho9; subst hv9; have hx9 := HY.out.later hb9; have c09 := hx9.c2; have f9 := hx9.mx.fz 2; have hl9 := hx9.lt; have HF := Lib.hid (MY.other HY.out hb9 ho9 (by simp only [List.length_append, List.length_take, List.length_drop]; omega)); clear ho9 hx9
      refine hK _ _ (fun _ => kpo KP) ?_
      clear hK K
      try simp only [l1, l2, l3, Act.put, l4, l5, l6]
      refine but_one (i := 17) (by kernel_rfl) rfl ?_
      intro K hK
      go_simp
      refine hK _ _ (fun _ => kpo KP) ?_
      clear hK K
      try simp only [l1, l2, l3, Act.put, l4, l5, l6]
      refine but_one (i := 18) (by kernel_rfl) rfl ?_
      intro K hK
      go_simp
      refine hK _ _ (fun _ => kpo KP) ?_
      clear hK K
      try simp only [l1, l2, l3, Act.put, l4, l5, l6]
      refine but_one (i := 19) (by kernel_rfl) rfl ?_
      intro K hK
      go_simp
      refine hK _ _ (fun h => absurd rfl h) ?_
      clear hK K
      try simp only [l1, l2, l3, Act.put, l4, l5, l6]
      refine but_done (by kernel_rfl) ?_
      clear hTidy KP T3 E3
      go_wp2_with fail
      go_ret
      rw [← HD.out] at HF
      exact ⟨rfl, blk A9, ⟨_, _, _, _, _, rfl, HF.out.1, HPq.out⟩, HK2.out.trans HF.out.2⟩
    · obtain rfl : c2 = i + 1 := by omega
      have hQ0 : Q.length = i + 1 := by omega
      have E3 : Hid (RdI w2 (some ⟨gw, off, none⟩) 0 (Q.drop (i + 1))) := by rw [List.drop_eq_nil_of_le (by omega)]; exact RdI.nil _ _
      have hw4 : (i : Int) ≤ (i : Int) + 1 := by omega
      clear e3 p2 p3 p4 p5
      rw [hQ0] at c2'
      have T3 := Lib.hid (HW.out.take (k := i) (by omega)).rd
      have KP : Hid (∀ w', Below w2.heap.size w2 w' → w'.cell? ⟨m, 2, none⟩ = some (.slice (some ⟨gw, off, none⟩) (i + 1) (i + 1))) := fun w' hb => by
       have h9 := (HY.out.later hb).c2
       rw [hQ0] at h9
       exact h9
      refine but_startQ 19 (fun w' => w'.cell? ⟨m, 2, none⟩ = some (.slice (some ⟨gw, off, none⟩) (i + 1) (i + 1))) (by kernel_rfl) (by as_aux_lemma => kernel_rfl) ?_
      intro hTidy
      have hHeld := KP.out w2.drew (Below.refl _ _).drew
      change AnyBut _ _ _ _ _ _ 20 _ _ _
      refine tkQ 0 rfl hTidy hHeld ?_
      refine tkQ 2 rfl hTidy hHeld ?_
      refine tkQ 3 rfl hTidy hHeld ?_
      refine tkQ 4 rfl hTidy hHeld ?_
      refine tkQ 5 rfl hTidy hHeld ?_
      refine tkQ 6 rfl hTidy hHeld ?_
      refine tkQ 7 rfl hTidy hHeld ?_
      refine tkQ 9 rfl hTidy hHeld ?_
      refine tkQ 10 rfl hTidy hHeld ?_
      refine tkQ 11 rfl hTidy hHeld ?_
      refine tkQ 12 rfl hTidy hHeld ?_
      refine tkQ 13 rfl hTidy hHeld ?_
      refine tkQ 14 rfl hTidy hHeld ?_
      refine tkQ 15 rfl hTidy hHeld ?_
      try simp only [l1, l2, l3, Act.put, l4, l5, l6]
      clear hHeld
      refine but_one (i := 1) (by kernel_rfl) rfl ?_
      intro K hK
      go_simp
      refine hK _ _ (fun _ => kpo KP) ?_
      clear hK K
      try simp only [l1, l2, l3, Act.put, l4, l5, l6]
      refine but_one (i := 8) (by kernel_rfl) rfl ?_
      intro K hK
      refine step_copy (w2 := w2) rfl (.tmp 36) (.tmp 42) rfl _ (some ⟨gw, off, none⟩) i (i + 1) (Q.take i) (by rfl) (by rfl) (by first | exact heap_e1 _ | exact heap_e2 _ _ | exact heap_e3 _ _) (by first | omega | (simp <;> omega)) (by repeat' (first | exact Below.refl _ _ | (with_reducible assumption) | refine Below.drew ?_ | refine Below.alloc ?_ (by first | omega | (simp <;> omega)) _)) T3.out (by omega) ?_; intro v7 w7 ho7 hb7 hg7; have HO7 := Lib.hid ho7; have hs7 := hb7.size; clear ho7
      refine hK _ _ (fun _ => kpo KP) ?_
      clear hK K
      try simp only [l1, l2, l3, Act.put, l4, l5, l6]
      refine but_one (i := 16) (by kernel_rfl) rfl ?_
      intro K hK
      refine step_more (w2 := w2) rfl (.tmp 43) (.tmp 50) rfl v7 (some ⟨gw, off, none⟩) i (0) (0) (Q.take i) (Q.drop (i + 1)) (by rfl) (by rfl) HO7.out hb7 (E3.out.later hb7) (by omega) (by omega) ?_; intro v9 w9 ho9 hb9; obtain ⟨A9, k9, hv9, _, _⟩ := own_cap ho9; subst hv9; have hx9 := HY.out.later hb9; have c09 := hx9.c2; have f9 := hx9.mx.fz 2; have hl9 := hx9.lt; have HF := Lib.hid (MY.other HY.out hb9 ho9 (by simp only [List.length_append, List.length_take, List.length_drop]; omega)); clear ho9 hx9
      refine hK _ _ (fun _ => kpo KP) ?_
      clear hK K
      try simp only [l1, l2, l3, Act.put, l4, l5, l6]
      refine but_one (i := 17) (by kernel_rfl) rfl ?_
      intro K hK
      go_simp
      refine hK _ _ (fun _ => kpo KP) ?_
      clear hK K
      try simp only [l1, l2, l3, Act.put, l4, l5, l6]
      refine but_one (i := 18) (by kernel_rfl) rfl ?_
      intro K hK
      go_simp
      refine hK _ _ (fun _ => kpo KP) ?_
      clear hK K
      try simp only [l1, l2, l3, Act.put, l4, l5, l6]
      refine but_one (i := 19) (by kernel_rfl) rfl ?_
      intro K hK
      go_simp
      refine hK _ _ (fun h => absurd rfl h) ?_
      clear hK K
      try simp only [l1, l2, l3, Act.put, l4, l5, l6]
      refine but_done (by kernel_rfl) ?_
      clear hTidy KP T3 E3
      go_wp2_with fail
      go_ret
      rw [← HD.out] at HF
      exact ⟨rfl, blk A9, ⟨_, _, _, _, _, rfl, HF.out.1, HPq.out⟩, HK2.out.trans HF.out.2⟩
  · have k2 : ¬ z.id = k := fun e => hji (ids_inj HP.out.1 hz HP.out.2 (e.trans HI.out.symm))
    clear hz
    go_wp2_with fail
    go_roundw
    case rel => exact ⟨j + 1, by omega, by go_num, by first | rfl | trivial⟩
    case measure => simp [intOf]; omega
end
end Go.Proofs.YtdpapnfjpefhkaaGreat
namespace Go.Proofs.YtdpapnfjpefhkaaGreat
open Go.RowKit
set_option linter.unusedVariables false
set_option maxRecDepth 100000
section
variable {B m n d2 c : Nat} {rA rN : Value} {w w' : World} {A P : Option Addr} {p p' : Option Nat} {S S' Q : List It} {g g' : Int → Int} {e : Ending} {v : Value}
theorem MY.npm (h : MY B m rA rN A c P d2 n S Q w) : blk P ≠ some m := fun e => by
 obtain ⟨cs, fr, ht⟩ := row_tag h.row e
 have h5 := h.mx.hb
 rw [h5] at ht; injection ht with ht; injection ht with _ ht _; cases ht
theorem rstop_any {k : Int} (h : MT B m rA rN p n S g w) (hS : Ok n S) (hl : S.length ≤ 1000) (hB : B ≤ w.heap.size) : ∃ v g2, (∀ y, fput g2 k y = fput g k y) ∧ Calls Tryz.prog 90 #[.pointer (some ⟨m, 0, none⟩), .int .i64 k] w (MC B m rA rN p n (del k S) g2 v w) := by
 by_cases hk : k ∈ ids S
 · obtain ⟨q, x, hx, rfl⟩ := ids_mem hk
   exact ⟨_, _, fun y => fput_two _ _ _ _, rstop_yes h hS (at_mem hx) hl hB⟩
 · refine ⟨.bool false, g, fun y => rfl, ?_⟩
   rw [del_none hk]
   exact rstop_no h hS hk hl
set_option maxHeartbeats 8000000 in
theorem rarm_any (k x y : Int) (h : MT B m rA rN p n S g w) (hS : Ok n S) (hx : Fit x) (hy : Fit y) (hn : n ≤ 1000000) (hl : S.length ≤ 999) (hB : B ≤ w.heap.size) :
  Calls Tryz.prog 86 #[.pointer (some ⟨m, 0, none⟩), .int .i64 k, .int .i64 x, .int .i64 y] w (MC B m rA rN p (n + 1) (ins ⟨k, x, (n : Int) + 1⟩ (del k S)) (fput g k y) (.int .i64 0) w) := by
 obtain ⟨i0, hi, hz0, hz1, hz2⟩ := info_parts inf39
 obtain ⟨v, g2, hg2, hc⟩ := rstop_any (k := k) h hS (by omega) hB
 have HC := Lib.hid hc
 have HD := Lib.hid (hS.del k)
 have hdl : (del k S).length ≤ 999 := by
  have : (del k S).length ≤ S.length := by unfold del; exact List.length_filter_le _ _
  omega
 have hdn : k ∉ ids (del k S) := del_ids
 have b1 : ¬ x < 0 := by have := hx.1; omega
 have b2 : ¬ 4611686018427387904 < x := by have := hx.2; omega
 have b3 : ¬ y < 0 := by have := hy.1; omega
 have b4 : ¬ 4611686018427387904 < y := by have := hy.2; omega
 have HG := Lib.hid (hg2 y)
 have HT := Lib.hid h
 clear hc hg2 h hx hy
 generalize del k S = D at *
 go_enter Tryz.func86, Tryz.ntmps86
 go_wp2_with fail
 refine HC.out.mono ?_
 rintro e w1 hr
 obtain ⟨p1, hm1, hk1⟩ := hr.2
 obtain rfl := hr.1
 have hB1 : B ≤ w1.heap.size := by have := hk1.size; omega
 obtain ⟨A, c, P, c2, Q, rfl, hy1, hq1⟩ := hm1
 have HK1 := Lib.hid hk1
 have H1 := Lib.hid hy1
 have HQ := Lib.hid hq1
 have hql : Q.length ≤ 999 := by rw [hq1.len HD.out.ids]; exact hdl
 clear hr hy1 hk1 hq1 HC HT
 go_wp2_with fail
 refine (rput_any k x ⟨A, c, H1.out.mx⟩ HD.out.srt hn (by omega) hB1).mono ?_
 rintro e w2 hr
 obtain ⟨A', c', hy2⟩ := H1.out.heap hr (by
  by_cases h0 : 0 < D.length
  · exact .inr (.inl h0)
  · refine .inr (.inr fun e => ?_)
    obtain ⟨A9, c9, hx9⟩ := hr.2.1
    rw [hx9.c0, H1.out.c0] at e
    injection e with e
    injection e with _ e9 _
    rw [ins_len] at e9
    omega)
 have HK2 := Lib.hid (HK1.out.trans (KT.of_km (blk P) hr.2.2.1))
 obtain rfl := hr.1
 have HY := Lib.hid hy2
 have HPq := Lib.hid (HQ.out.add k x y ((n : Int) + 1) hdn)
 rw [HG.out] at HPq
 have hB2 : B ≤ w2.heap.size := by have := hr.2.2.1.size; omega
 have c2' := hy2.c2
 have hm2 := hy2.lt
 have hnp := hy2.npm
 clear hr hy2 H1 HK1 HQ HD HG
 generalize ins ⟨k, x, (n : Int) + 1⟩ D = S2 at *
 go_wp2_with (at_builtin; go_loud (refine wpList_append_lies _ rfl (.tmp 36) (.tmp 40) 61 rfl B 215 i0 _ 3 24 Tryz.underlying61 hi hz0 hz1 hz2 rfl (by omega) (.slice P Q.length c2) Q.length (iV Q) rfl (row_later HY.out.row (below_al w2 _)) ⟨w2.heap.size, 0, none⟩ 1 1 (eI ⟨k, y, 0⟩) rfl rfl (World.news_of_block (cs := #[.int .i64 k, .int .i64 y, .int .i64 0]) (heap_alloc_new w2 _)) (eI_one ⟨k, y, 0⟩) (by omega) (by unfold maxLen; omega) (by omega) (by simp; omega) (w2.heap.size + 1) (by simp) ?_; intro g3 cap3 w3 hown hgrow hat hlt1; have hm3 := (hgrow.block m (by simp; omega) (by rw [own_blk]; exact fun e => hnp e.symm)).trans ((below_al w2 _).block m hm2); have c3 := (cell_blk hm3 2).trans c2'; have f3 := (frozen_blk hm3 2).trans (HY.out.mx.fz 2); have hl3 := lt_of_blk (hm3.trans HY.out.mx.hb); have HE := Lib.hid (HY.out.app (x := ⟨k, y, 0⟩) (below_al w2 _) hown hgrow (hat.imp id (by omega))); clear hown hgrow hat hlt1 hm3))
 go_ret
 exact ⟨rfl, some g3, ⟨_, _, _, _, _, rfl, HE.out.1, HPq.out⟩, HK2.out.trans HE.out.2⟩
end
end Go.Proofs.YtdpapnfjpefhkaaGreat
namespace Go.Proofs.YtdpapnfjpefhkaaGreat
open Go.RowKit
set_option linter.unusedVariables false
set_option maxRecDepth 100000
def Rbk (w : World) (s : Nat) (i x y : Int) : Prop := w.heap[s]? = some (.cells #[.int .i64 i, .int .i64 x, .int .i64 y] 174 (0, 0))
def Ibk (w : World) (s : Nat) (x : It) : Prop := w.heap[s]? = some (.cells #[.int .i64 x.id, .int .i64 x.w, .int .i64 x.s] 215 (0, 0))
section
variable {B m n d2 c s : Nat} {rA rN : Value} {w w' w1 : World} {A P : Option Addr} {p p' : Option Nat} {S S' Q : List It} {g g' : Int → Int} {e : Ending} {v : Value} {i x y : Int} {z : It}
theorem Rbk.later (h : Rbk w s i x y) (hb : Below w.heap.size w w') : Rbk w' s i x y := (hb.block s (lt_of_blk h)).trans h
theorem Ibk.later (h : Ibk w s z) (hb : Below w.heap.size w w') : Ibk w' s z := (hb.block s (lt_of_blk h)).trans h
theorem Rbk.kt (h : Rbk w s i x y) (hm : s ≠ m) (hp : p ≠ some s) (hc : KT m p p' w w') : Rbk w' s i x y := (hc.block s (lt_of_blk h) hm hp).trans h
theorem Ibk.kt (h : Ibk w s z) (hm : s ≠ m) (hp : p ≠ some s) (hc : KT m p p' w w') : Ibk w' s z := (hc.block s (lt_of_blk h) hm hp).trans h
theorem Rbk.cells (h : Rbk w s i x y) : w.cell? ⟨s, 0, none⟩ = some (.int .i64 i) ∧ w.cell? ⟨s, 1, none⟩ = some (.int .i64 x) ∧ w.cell? ⟨s, 2, none⟩ = some (.int .i64 y) ∧ w.frozen? ⟨s, 0, none⟩ = false ∧ w.frozen? ⟨s, 1, none⟩ = false ∧ w.frozen? ⟨s, 2, none⟩ = false :=
 ⟨by rw [cell_of_row w s 0 _ _ _ h]; rfl, by rw [cell_of_row w s 1 _ _ _ h]; rfl, by rw [cell_of_row w s 2 _ _ _ h]; rfl, frozen_of_row w s 0 _ _ h, frozen_of_row w s 1 _ _ h, frozen_of_row w s 2 _ _ h⟩
theorem Ibk.cells (h : Ibk w s z) : w.cell? ⟨s, 0, none⟩ = some (.int .i64 z.id) ∧ w.cell? ⟨s, 1, none⟩ = some (.int .i64 z.w) ∧ w.cell? ⟨s, 2, none⟩ = some (.int .i64 z.s) :=
 ⟨by rw [cell_of_row w s 0 _ _ _ h]; rfl, by rw [cell_of_row w s 1 _ _ _ h]; rfl, by rw [cell_of_row w s 2 _ _ _ h]; rfl⟩
theorem KT.set (h : KT m p p' w w') (hs : w.heap.size ≤ s) (j : Nat) (v : Value) : KT m p p' w (w'.setCell ⟨s, j, none⟩ v) :=
 ⟨h.os, h.tape, h.output, by have := h.size; simpa [World.setCell] using this, fun k hk a1 a2 => (Below.heap_setCell _ _ _ _ (show k ≠ s by omega)).trans (h.block k hk a1 a2), h.new⟩
theorem MT.cell (h : MT B m rA rN p n S g w) {ty j : Nat} {cs : Array Value} {fr : Nat × Nat} (ht : w.heap[s]? = some (.cells cs ty fr)) (h1 : ty ≠ 68) (h2 : ty ≠ 215) (v : Value) : MT B m rA rN p n S g (w.setCell ⟨s, j, none⟩ v) := by
 obtain ⟨A, c, P, c2, Q, e0, hy, hq⟩ := h
 have key : ∀ k, k ≠ s → (w.setCell ⟨s, j, none⟩ v).heap[k]? = w.heap[k]? := fun k hk => Below.heap_setCell _ _ _ _ (by exact hk)
 have t39 : ∀ k cur fr', w.heap[k]? = some (.cells cur 215 fr') → k ≠ s := by
  rintro k cur fr' hk rfl
  rw [ht] at hk; injection hk with hk; injection hk with _ hk _; exact h2 hk
 refine ⟨A, c, P, c2, Q, e0, ⟨⟨(key m ?_).trans hy.mx.hb, hy.mx.wn.keep fun g cur _ hg => (key g (t39 _ _ _ hg)).trans hg, hy.mx.lo, hy.mx.nn, hy.mx.ty⟩, row_keep hy.row fun k hk => key k ?_, hy.ap⟩, hq⟩
 · rintro rfl
   have h4 := hy.mx.hb
   rw [ht] at h4; injection h4 with h4; injection h4 with _ h4 _; exact h1 h4
 · obtain ⟨cs', fr', h4⟩ := row_tag hy.row hk
   exact t39 _ _ _ h4
theorem MC.set3 {w0 : World} {u : Value} (h : MT B m rA rN p' n S g w') (h0 : KT m p p' w w') (hs : w.heap.size ≤ s) (hd : Rbk w' s i x y) (i' x' y' : Int) :
  MC B m rA rN p n S g u w (.returned u) (((w'.setCell ⟨s, 0, none⟩ (.int .i64 i')).setCell ⟨s, 1, none⟩ (.int .i64 x')).setCell ⟨s, 2, none⟩ (.int .i64 y')) := by
 have e1 := heap_setCell_same w' s 0 _ _ (.int .i64 i') hd
 have e2 := heap_setCell_same _ s 1 _ _ (.int .i64 x') e1
 exact ⟨rfl, p', ((h.cell hd (by decide) (by decide) _).cell e1 (by decide) (by decide) _).cell e2 (by decide) (by decide) _, ((h0.set hs 0 _).set hs 1 _).set hs 2 _⟩
set_option maxHeartbeats 4000000 in
theorem rtake_neg {now : Int} (h : MT B m rA rN p n S g w) (hn : now < 0) : Calls Tryz.prog 67 #[.pointer (some ⟨m, 0, none⟩), .int .i64 now] w (DbR 0 0 0 false w) := by
 have HM := Lib.hid (h.later (below_al w (.cells #[.int .i64 0, .int .i64 0, .int .i64 0] 174)))
 have D1 : Hid (Rbk (w.alloc (.cells #[.int .i64 0, .int .i64 0, .int .i64 0] 174)) w.heap.size 0 0 0) := heap_alloc_new w _
 have HB1 := Lib.hid (below_al w (.cells #[.int .i64 0, .int .i64 0, .int .i64 0] 174))
 clear h
 go_enter Tryz.func67, Tryz.ntmps67
 go_upto_region 1 with (fail)
 generalize w.alloc (.cells #[.int .i64 0, .int .i64 0, .int .i64 0] 174) = w2 at *
 obtain ⟨d0, d1, d2, f0, f1, f2⟩ := D1.out.cells
 have hdr := lt_of_blk D1.out
 go_wp2_with fail
 refine bodyPost_ret (v := .tuple #[vD 0 0 0, .bool false]) ?_ rfl ⟨rfl, below_set3 HB1.out (Nat.le_refl _)⟩
 rw [results_cell_tmp rfl]
 go_simp
set_option maxHeartbeats 4000000 in
theorem rtake_empty {now : Int} (h : MT B m rA rN p n [] g w) (hn : ¬ now < 0) : Calls Tryz.prog 67 #[.pointer (some ⟨m, 0, none⟩), .int .i64 now] w (DbR 0 0 0 false w) := by
 have HM := Lib.hid (h.later (below_al w (.cells #[.int .i64 0, .int .i64 0, .int .i64 0] 174)))
 have D1 : Hid (Rbk (w.alloc (.cells #[.int .i64 0, .int .i64 0, .int .i64 0] 174)) w.heap.size 0 0 0) := heap_alloc_new w _
 have HB1 := Lib.hid (below_al w (.cells #[.int .i64 0, .int .i64 0, .int .i64 0] 174))
 clear h
 go_enter Tryz.func67, Tryz.ntmps67
 go_upto_region 1 with (fail)
 generalize w.alloc (.cells #[.int .i64 0, .int .i64 0, .int .i64 0] 174) = w2 at *
 obtain ⟨d0, d1, d2, f0, f1, f2⟩ := D1.out.cells
 have hdr := lt_of_blk D1.out
 obtain ⟨A, c, P, c2, Q, rfl, h1, h2⟩ := HM.out
 have c0 := h1.c0
 simp only [List.length_nil] at c0
 clear h1 h2
 go_wp2_with fail
 refine bodyPost_ret (v := .tuple #[vD 0 0 0, .bool false]) ?_ rfl ⟨rfl, below_set3 HB1.out (Nat.le_refl _)⟩
 rw [results_cell_tmp rfl]
 go_simp
set_option maxHeartbeats 4000000 in
theorem rtake_early {x : It} {now : Int} (h : MT B m rA rN p n (x :: S) g w) (hn : ¬ now < 0) (hw : now < x.w) : Calls Tryz.prog 67 #[.pointer (some ⟨m, 0, none⟩), .int .i64 now] w (DbR 0 0 0 false w) := by
 have HM := Lib.hid (h.later (below_al w (.cells #[.int .i64 0, .int .i64 0, .int .i64 0] 174)))
 have D1 : Hid (Rbk (w.alloc (.cells #[.int .i64 0, .int .i64 0, .int .i64 0] 174)) w.heap.size 0 0 0) := heap_alloc_new w _
 have HB1 := Lib.hid (below_al w (.cells #[.int .i64 0, .int .i64 0, .int .i64 0] 174))
 clear h
 go_enter Tryz.func67, Tryz.ntmps67
 go_upto_region 1 with (fail)
 generalize w.alloc (.cells #[.int .i64 0, .int .i64 0, .int .i64 0] 174) = w2 at *
 obtain ⟨d0, d1, d2, f0, f1, f2⟩ := D1.out.cells
 have hdr := lt_of_blk D1.out
 obtain ⟨A, c, P, c2, Q, rfl, h1, h2⟩ := HM.out
 have c0 := h1.c0
 have hml := h1.lt
 obtain ⟨gw, off, rfl, -, hgw, hc⟩ := h1.mx.wn.cells (by simp)
 obtain ⟨x0, x1, x2⟩ := hc 0 x rfl
 simp only [Nat.zero_mul, Nat.add_zero] at x0 x1 x2
 have q0 : ((x :: S).length == 0) = false := by simp
 have q1 : (((x :: S).length : Int) == 0) = false := beq_eq_false_iff_ne.2 (by simp <;> omega)
 have q2 : (0 : Int) < ((x :: S).length : Int) := by simp <;> omega
 generalize (x :: S).length = N at *
 clear h2 hc
 clear h1
 go_wp2_with fail
 refine bodyPost_ret (v := .tuple #[vD 0 0 0, .bool false]) ?_ rfl ⟨rfl, below_set3 HB1.out (Nat.le_refl _)⟩
 rw [results_cell_tmp rfl]
 go_simp
set_option maxHeartbeats 8000000 in
theorem rtake_end {x : It} {now : Int} (h : MT B m rA rN p n (x :: S) g w) (hS : Ok n (x :: S)) (hl : (x :: S).length ≤ 999) (hm1 : n ≤ 1000000) (hB : B ≤ w.heap.size) (hn : ¬ now < 0) (hw : x.w ≤ now) (hfx : Fit x.w) (hfg : Fit (g x.id)) (hg : ¬ Gon x.w (g x.id) now) :
  Calls Tryz.prog 67 #[.pointer (some ⟨m, 0, none⟩), .int .i64 now] w (MC B m rA rN p n S (fput g x.id 0) (.tuple #[vD x.id x.w now, .bool true]) w) := by
 have hw2 : ¬ now < x.w := by omega
 have hgm := mem_ids (show x ∈ x :: S by simp)
 have HR0 : Hid (w.heap.size ≠ m ∧ p ≠ some w.heap.size) := ⟨by have := h.lt; omega, fun e => by have := (h.lp e).2; omega⟩
 have HM := Lib.hid (h.later (below_al w (.cells #[.int .i64 0, .int .i64 0, .int .i64 0] 174)))
 have D1 : Hid (Rbk (w.alloc (.cells #[.int .i64 0, .int .i64 0, .int .i64 0] 174)) w.heap.size 0 0 0) := heap_alloc_new w _
 have HB1 := Lib.hid (below_al w (.cells #[.int .i64 0, .int .i64 0, .int .i64 0] 174))
 have HPer := Lib.hid (fun w2 hb => rper_yes (h.later (w' := w2) hb) hgm hS.ids (by omega))
 have HOK := Lib.hid hS
 have HT := Lib.hid hS.tail
 clear h hgm hS
 go_enter Tryz.func67, Tryz.ntmps67
 go_upto_region 1 with (fail)
 generalize w.alloc (.cells #[.int .i64 0, .int .i64 0, .int .i64 0] 174) = wa at *
 obtain ⟨d0, d1, d2, f0, f1, f2⟩ := D1.out.cells
 have hdr := lt_of_blk D1.out
 have HPer2 := Lib.hid (HPer.out wa HB1.out)
 have HM9 := Lib.hid HM.out
 have hlN := hl
 obtain ⟨A, c, P, c2, Q, e0, h1, h2⟩ := HM.out
 have c0 := h1.c0
 have hml := h1.lt
 obtain ⟨gw, off, rfl, -, hgw, hc⟩ := h1.mx.wn.cells (by simp)
 obtain ⟨x0, x1, x2⟩ := hc 0 x rfl
 simp only [Nat.zero_mul, Nat.add_zero] at x0 x1 x2
 have q0 : ((x :: S).length == 0) = false := by simp
 have q1 : (((x :: S).length : Int) == 0) = false := beq_eq_false_iff_ne.2 (by simp <;> omega)
 have q2 : (0 : Int) < ((x :: S).length : Int) := by simp <;> omega
 generalize hNN : (x :: S).length = N at *
 clear h2 hc h1 e0
 go_wp2_with fail
 have V1 : Hid (Ibk (wa.alloc (.cells #[.int .i64 x.id, .int .i64 x.w, .int .i64 x.s] 215)) wa.heap.size x) := heap_alloc_new wa _
 have HB2 := Lib.hid (HB1.out.trans ((below_al wa (.cells #[.int .i64 x.id, .int .i64 x.w, .int .i64 x.s] 215)).mono HB1.out.size))
 have HM2 := Lib.hid (HM9.out.later (below_al wa (.cells #[.int .i64 x.id, .int .i64 x.w, .int .i64 x.s] 215)))
 have D2 := Lib.hid (D1.out.later (below_al wa (.cells #[.int .i64 x.id, .int .i64 x.w, .int .i64 x.s] 215)))
 have HPer3 := Lib.hid (HPer.out _ HB2.out)
 have HV0 : Hid (wa.heap.size ≠ m ∧ p ≠ some wa.heap.size) := ⟨by have := HM9.out.lt; omega, fun e => by have := (HM9.out.lp e).2; omega⟩
 clear c0 x0 x1 x2 d0 d1 d2 f0 f1 f2 D1 HM HM9 HPer HPer2 HB1 hgw hdr
 generalize wa.alloc (.cells #[.int .i64 x.id, .int .i64 x.w, .int .i64 x.s] 215) = w2 at *
 generalize wa.heap.size = s9 at *
 obtain ⟨y0, y1, y2⟩ := V1.out.cells
 refine HPer3.out.mono ?_
 rintro e w3 ⟨rfl, rfl⟩
 have hB2 : B ≤ w2.heap.size := by have := HB2.out.size; omega
 have HSt := Lib.hid (rstop_yes HM2.out HOK.out (show x ∈ x :: S by simp) (by omega) hB2)
 rw [HT.out.1] at HSt
 clear HPer3 HM2
 go_wp2_with fail
 refine HSt.out.mono ?_
 rintro e w3 hr
 obtain ⟨p1, hm3, hk3⟩ := hr.2
 obtain rfl := hr.1
 have HM3 := Lib.hid hm3
 have HK3 := Lib.hid ((KT.of_below p HB2.out).trans hk3)
 have V3 := Lib.hid (V1.out.kt HV0.out.1 HV0.out.2 hk3)
 have D3 := Lib.hid (D2.out.kt HR0.out.1 HR0.out.2 hk3)
 have KQ := Lib.hid hk3
 clear hr hm3 HSt V1 D2 y0 y1 y2
 obtain ⟨y0, y1, y2⟩ := V3.out.cells
 by_cases hp : 0 < g x.id
 · obtain ⟨f1, f2⟩ := hfx
   obtain ⟨f3, f4⟩ := hfg
   by_cases hb : now ≤ 4611686018427387904
   · have HN : Hid (∀ w, Calls Tryz.prog 91 #[.int .i64 x.w, .int .i64 (g x.id), .int .i64 now] w fun e w' => e = .returned (.tuple #[.int .i64 (nx x.w (g x.id) now), .int .i64 0]) ∧ w = w') := fun w => rnext_yes _ _ _ w (by omega) (by omega) (by omega) (by omega) (by omega) (by omega)
     have hu : ¬ now < (nx x.w (g x.id) now) := fun e => hg ⟨by simp [nxB]; omega, e⟩
     generalize (nx x.w (g x.id) now) = u at *
     have HF : Hid (MC B m rA rN p n S (fput g x.id 0) (.tuple #[vD x.id x.w now, .bool true]) w (.returned (.tuple #[vD x.id x.w now, .bool true])) (((w3.setCell ⟨w.heap.size, 0, none⟩ (.int .i64 x.id)).setCell ⟨w.heap.size, 1, none⟩ (.int .i64 x.w)).setCell ⟨w.heap.size, 2, none⟩ (.int .i64 now))) := MC.set3 (w0 := w) (HM3.out) HK3.out (Nat.le_refl _) D3.out x.id x.w now
     obtain ⟨d0, d1, d2, f0, f1, f2⟩ := D3.out.cells
     go_wp2_with fail
     refine (HN.out _).mono ?_
     rintro e w4 ⟨rfl, rfl⟩
     clear HN
     go_wp2_with fail
     refine bodyPost_ret (v := .tuple #[vD x.id x.w now, .bool true]) ?_ rfl HF.out
     rw [results_cell_tmp rfl]
     go_simp
   · have HN : Hid (∀ w, Calls Tryz.prog 91 #[.int .i64 x.w, .int .i64 (g x.id), .int .i64 4611686018427387904] w fun e w' => e = .returned (.tuple #[.int .i64 (nx x.w (g x.id) 4611686018427387904), .int .i64 0]) ∧ w = w') := fun w => rnext_yes _ _ _ w (by omega) (by omega) (by omega) (by omega) (by omega) (by omega)
     have hu : ¬ now < (nx x.w (g x.id) 4611686018427387904) := fun e => by
      have h1 : nx x.w (g x.id) 4611686018427387904 ≤ 4611686018427387904 := by
       unfold nx
       split
       · omega
       · exact hd_hi _
      omega
     generalize (nx x.w (g x.id) 4611686018427387904) = u at *
     have HF : Hid (MC B m rA rN p n S (fput g x.id 0) (.tuple #[vD x.id x.w now, .bool true]) w (.returned (.tuple #[vD x.id x.w now, .bool true])) (((w3.setCell ⟨w.heap.size, 0, none⟩ (.int .i64 x.id)).setCell ⟨w.heap.size, 1, none⟩ (.int .i64 x.w)).setCell ⟨w.heap.size, 2, none⟩ (.int .i64 now))) := MC.set3 (w0 := w) (HM3.out) HK3.out (Nat.le_refl _) D3.out x.id x.w now
     obtain ⟨d0, d1, d2, f0, f1, f2⟩ := D3.out.cells
     go_wp2_with fail
     refine (HN.out _).mono ?_
     rintro e w4 ⟨rfl, rfl⟩
     clear HN
     go_wp2_with fail
     refine bodyPost_ret (v := .tuple #[vD x.id x.w now, .bool true]) ?_ rfl HF.out
     rw [results_cell_tmp rfl]
     go_simp
 · have HF : Hid (MC B m rA rN p n S (fput g x.id 0) (.tuple #[vD x.id x.w now, .bool true]) w (.returned (.tuple #[vD x.id x.w now, .bool true])) (((w3.setCell ⟨w.heap.size, 0, none⟩ (.int .i64 x.id)).setCell ⟨w.heap.size, 1, none⟩ (.int .i64 x.w)).setCell ⟨w.heap.size, 2, none⟩ (.int .i64 now))) := MC.set3 (w0 := w) (HM3.out) HK3.out (Nat.le_refl _) D3.out x.id x.w now
   obtain ⟨d0, d1, d2, f0, f1, f2⟩ := D3.out.cells
   go_wp2_with fail
   refine bodyPost_ret (v := .tuple #[vD x.id x.w now, .bool true]) ?_ rfl HF.out
   rw [results_cell_tmp rfl]
   go_simp
set_option maxHeartbeats 8000000 in
theorem rtake_on {x : It} {now : Int} (h : MT B m rA rN p n (x :: S) g w) (hS : Ok n (x :: S)) (hl : (x :: S).length ≤ 999) (hm1 : n ≤ 1000000) (hB : B ≤ w.heap.size) (hn : ¬ now < 0) (hw : x.w ≤ now) (hfx : Fit x.w) (hfg : Fit (g x.id)) (hg : Gon x.w (g x.id) now) :
  Calls Tryz.prog 67 #[.pointer (some ⟨m, 0, none⟩), .int .i64 now] w (MC B m rA rN p (n + 1) (ins ⟨x.id, nx x.w (g x.id) now, (n : Int) + 1⟩ S) g (.tuple #[vD x.id x.w now, .bool true]) w) := by
 have hw2 : ¬ now < x.w := by omega
 have hgm := mem_ids (show x ∈ x :: S by simp)
 have HR0 : Hid (w.heap.size ≠ m ∧ p ≠ some w.heap.size) := ⟨by have := h.lt; omega, fun e => by have := (h.lp e).2; omega⟩
 have HM := Lib.hid (h.later (below_al w (.cells #[.int .i64 0, .int .i64 0, .int .i64 0] 174)))
 have D1 : Hid (Rbk (w.alloc (.cells #[.int .i64 0, .int .i64 0, .int .i64 0] 174)) w.heap.size 0 0 0) := heap_alloc_new w _
 have HB1 := Lib.hid (below_al w (.cells #[.int .i64 0, .int .i64 0, .int .i64 0] 174))
 have HPer := Lib.hid (fun w2 hb => rper_yes (h.later (w' := w2) hb) hgm hS.ids (by omega))
 have HOK := Lib.hid hS
 have HT := Lib.hid hS.tail
 clear h hgm hS
 go_enter Tryz.func67, Tryz.ntmps67
 go_upto_region 1 with (fail)
 generalize w.alloc (.cells #[.int .i64 0, .int .i64 0, .int .i64 0] 174) = wa at *
 obtain ⟨d0, d1, d2, f0, f1, f2⟩ := D1.out.cells
 have hdr := lt_of_blk D1.out
 have HPer2 := Lib.hid (HPer.out wa HB1.out)
 have HM9 := Lib.hid HM.out
 have hlN := hl
 obtain ⟨A, c, P, c2, Q, e0, h1, h2⟩ := HM.out
 have c0 := h1.c0
 have hml := h1.lt
 obtain ⟨gw, off, rfl, -, hgw, hc⟩ := h1.mx.wn.cells (by simp)
 obtain ⟨x0, x1, x2⟩ := hc 0 x rfl
 simp only [Nat.zero_mul, Nat.add_zero] at x0 x1 x2
 have q0 : ((x :: S).length == 0) = false := by simp
 have q1 : (((x :: S).length : Int) == 0) = false := beq_eq_false_iff_ne.2 (by simp <;> omega)
 have q2 : (0 : Int) < ((x :: S).length : Int) := by simp <;> omega
 generalize hNN : (x :: S).length = N at *
 clear h2 hc h1 e0
 go_wp2_with fail
 have V1 : Hid (Ibk (wa.alloc (.cells #[.int .i64 x.id, .int .i64 x.w, .int .i64 x.s] 215)) wa.heap.size x) := heap_alloc_new wa _
 have HB2 := Lib.hid (HB1.out.trans ((below_al wa (.cells #[.int .i64 x.id, .int .i64 x.w, .int .i64 x.s] 215)).mono HB1.out.size))
 have HM2 := Lib.hid (HM9.out.later (below_al wa (.cells #[.int .i64 x.id, .int .i64 x.w, .int .i64 x.s] 215)))
 have D2 := Lib.hid (D1.out.later (below_al wa (.cells #[.int .i64 x.id, .int .i64 x.w, .int .i64 x.s] 215)))
 have HPer3 := Lib.hid (HPer.out _ HB2.out)
 have HV0 : Hid (wa.heap.size ≠ m ∧ p ≠ some wa.heap.size) := ⟨by have := HM9.out.lt; omega, fun e => by have := (HM9.out.lp e).2; omega⟩
 clear c0 x0 x1 x2 d0 d1 d2 f0 f1 f2 D1 HM HM9 HPer HPer2 HB1 hgw hdr
 generalize wa.alloc (.cells #[.int .i64 x.id, .int .i64 x.w, .int .i64 x.s] 215) = w2 at *
 generalize wa.heap.size = s9 at *
 obtain ⟨y0, y1, y2⟩ := V1.out.cells
 refine HPer3.out.mono ?_
 rintro e w3 ⟨rfl, rfl⟩
 have hB2 : B ≤ w2.heap.size := by have := HB2.out.size; omega
 have HSt := Lib.hid (rstop_yes HM2.out HOK.out (show x ∈ x :: S by simp) (by omega) hB2)
 rw [HT.out.1] at HSt
 clear HPer3 HM2
 go_wp2_with fail
 refine HSt.out.mono ?_
 rintro e w3 hr
 obtain ⟨p1, hm3, hk3⟩ := hr.2
 obtain rfl := hr.1
 have HM3 := Lib.hid hm3
 have HK3 := Lib.hid ((KT.of_below p HB2.out).trans hk3)
 have V3 := Lib.hid (V1.out.kt HV0.out.1 HV0.out.2 hk3)
 have D3 := Lib.hid (D2.out.kt HR0.out.1 HR0.out.2 hk3)
 have KQ := Lib.hid hk3
 have hsr2 := lt_of_blk V1.out
 have hdr2 := lt_of_blk D2.out
 clear hr hm3 HSt V1 D2 y0 y1 y2
 obtain ⟨y0, y1, y2⟩ := V3.out.cells
 obtain ⟨a1, a2, a3, a4, a5, a6⟩ := nxB_all hg.1
 have hp : 0 < g x.id := by omega
 have HN : Hid (∀ w, Calls Tryz.prog 91 #[.int .i64 x.w, .int .i64 (g x.id), .int .i64 now] w fun e w' => e = .returned (.tuple #[.int .i64 (nx x.w (g x.id) now), .int .i64 0]) ∧ w = w') := fun w => rnext_yes _ _ _ w a1 a2 a3 a4 a5 a6
 have hb9 : now ≤ 4611686018427387904 := a6
 have hu := hg.2
 have hfu : Fit (nx x.w (g x.id) now) := ⟨by omega, by unfold nx; split <;> first | omega | exact hd_hi _⟩
 have hB3 : B ≤ w3.heap.size := by have := HK3.out.size; omega
 have hNS : S.length ≤ 999 := by simp at hNN; omega
 have HA := Lib.hid (rarm_any x.id (nx x.w (g x.id) now) (g x.id) HM3.out HT.out.2 hfu hfg hm1 hNS hB3)
 have hdn : del x.id S = S := by
  have := (List.nodup_cons.1 HOK.out.ids).1
  exact del_none this
 have hgg : fput (fput g x.id 0) x.id (g x.id) = g := by
  rw [fput_two]; funext z; unfold fput; split
  · rename_i e; rw [e]
  · rfl
 rw [hdn, hgg] at HA
 clear a1 a2 a3 a4 a5 a6 hg hfx hfg hfu hdn hgg HM3
 generalize nx x.w (g x.id) now = u at *
 generalize ins ⟨x.id, u, (n : Int) + 1⟩ S = S2 at *
 have hne : p1 ≠ some w.heap.size := fun e => by
  rcases KQ.out.new with h1 | h1
  · exact HR0.out.2 (h1.symm.trans e)
  · have := h1 _ e; have := lt_of_blk D3.out; have := HB2.out.size; have h7 := h1 _ e; exact absurd (show w.heap.size < w2.heap.size from hdr2) (by omega)
 have hnv : p1 ≠ some s9 := fun e => by
  rcases KQ.out.new with h1 | h1
  · exact HV0.out.2 (h1.symm.trans e)
  · have := h1 _ e; exact absurd hsr2 (by omega)
 go_wp2_with fail
 refine (HN.out _).mono ?_
 rintro e w4 ⟨rfl, rfl⟩
 clear HN
 go_wp2_with fail
 refine HA.out.mono ?_
 rintro e w4 hr
 obtain ⟨p2, hm4, hk4⟩ := hr.2
 obtain rfl := hr.1
 have HM4 := Lib.hid hm4
 have HK4 := Lib.hid (HK3.out.trans hk4)
 have V4 := Lib.hid (V3.out.kt HV0.out.1 hnv hk4)
 have D4 := Lib.hid (D3.out.kt HR0.out.1 hne hk4)
 clear hr hm4 hk4 HA y0 y1 y2
 obtain ⟨y0, y1, y2⟩ := V4.out.cells
 have HF : Hid (MC B m rA rN p (n + 1) S2 g (.tuple #[vD x.id x.w now, .bool true]) w (.returned (.tuple #[vD x.id x.w now, .bool true])) (((w4.setCell ⟨w.heap.size, 0, none⟩ (.int .i64 x.id)).setCell ⟨w.heap.size, 1, none⟩ (.int .i64 x.w)).setCell ⟨w.heap.size, 2, none⟩ (.int .i64 now))) := MC.set3 (w0 := w) (HM4.out) HK4.out (Nat.le_refl _) D4.out x.id x.w now
 obtain ⟨d0, d1, d2, f0, f1, f2⟩ := D4.out.cells
 go_wp2_with fail
 refine bodyPost_ret (v := .tuple #[vD x.id x.w now, .bool true]) ?_ rfl HF.out
 rw [results_cell_tmp rfl]
 go_simp
end
end Go.Proofs.YtdpapnfjpefhkaaGreat
