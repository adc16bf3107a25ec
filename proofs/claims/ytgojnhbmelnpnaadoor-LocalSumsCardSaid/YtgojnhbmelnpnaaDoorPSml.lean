/- fits, formOf, casesFit, mayBe and aloneMayBe tell what they say. Conditions: each theorem's own premises (the table lies in its variable; the cases lie where the instruction says). -/
import Derived.Test.YtgojnhbmelnpnaaDoorPMem
import Derived.Laws.ResultCell
namespace Go.Proofs.YtgojnhbmelnpnaaDoor.Pg
open Go.RowKit
set_option linter.unusedVariables false
set_option maxRecDepth 100000

theorem fits_any (ins pr n k : Int) (w : World) (hp : 0 ≤ pr) (hp2 : pr ≤ 1000) : Calls Tryd.prog 28 #[.agg #[.int .i64 ins, .int .i64 pr], .int .i64 n, .int .u8 k] w (BoolR (fitsB ins pr n k) w) := by
  have hb := Lib.hid (below_al w (.cells #[.int .i64 ins, .int .i64 pr] 54))
  by_cases h4 : k = 4
  · subst h4
    go_enter Tryd.func28, Tryd.ntmps28
    go_wp2
    go_ret
    exact ⟨rfl, hb.out⟩
  · have HF : Hid (∀ b, decide (0 ≤ n ∧ n ≤ mostB ins pr k) = b → fitsB ins pr n k = b) := fun b h => by rw [← h]; simp [fitsB, h4]
    by_cases h0 : 0 ≤ n
    · by_cases h1 : k = 1
      · subst h1
        by_cases hm : n ≤ 7
        · go_enter Tryd.func28, Tryd.ntmps28
          go_wp2
          go_ret
          exact ⟨ret_bool (HF.out true (by simp [mostB, h0, hm])).symm, hb.out⟩
        · go_enter Tryd.func28, Tryd.ntmps28
          go_wp2
          go_ret
          exact ⟨ret_bool (HF.out false (by simp [mostB, h0, hm])).symm, hb.out⟩
      · by_cases h2 : k = 2
        · subst h2
          by_cases hm : n ≤ ins
          · go_enter Tryd.func28, Tryd.ntmps28
            go_wp2
            go_ret
            exact ⟨ret_bool (HF.out true (by simp [mostB, h0, hm])).symm, hb.out⟩
          · go_enter Tryd.func28, Tryd.ntmps28
            go_wp2
            go_ret
            exact ⟨ret_bool (HF.out false (by simp [mostB, h0, hm])).symm, hb.out⟩
        · by_cases h3 : k = 3
          · subst h3
            by_cases hm : n ≤ pr - 1
            · go_enter Tryd.func28, Tryd.ntmps28
              go_wp2
              go_ret
              exact ⟨ret_bool (HF.out true (by simp [mostB, h0, hm])).symm, hb.out⟩
            · go_enter Tryd.func28, Tryd.ntmps28
              go_wp2
              go_ret
              exact ⟨ret_bool (HF.out false (by simp [mostB, h0, hm])).symm, hb.out⟩
          · by_cases hm : n ≤ 0
            · go_enter Tryd.func28, Tryd.ntmps28
              go_wp2
              go_ret
              exact ⟨ret_bool (HF.out true (by simp [mostB, h0, hm, h1, h2, h3])).symm, hb.out⟩
            · go_enter Tryd.func28, Tryd.ntmps28
              go_wp2
              go_ret
              exact ⟨ret_bool (HF.out false (by simp [mostB, h0, hm, h1, h2, h3])).symm, hb.out⟩
    · by_cases h1 : k = 1
      · subst h1
        go_enter Tryd.func28, Tryd.ntmps28
        go_wp2
        go_ret
        exact ⟨ret_bool (HF.out false (by rw [decide_eq_false]; omega)).symm, hb.out⟩
      · by_cases h2 : k = 2
        · subst h2
          go_enter Tryd.func28, Tryd.ntmps28
          go_wp2
          go_ret
          exact ⟨ret_bool (HF.out false (by rw [decide_eq_false]; omega)).symm, hb.out⟩
        · by_cases h3 : k = 3
          · subst h3
            go_enter Tryd.func28, Tryd.ntmps28
            go_wp2
            go_ret
            exact ⟨ret_bool (HF.out false (by rw [decide_eq_false]; omega)).symm, hb.out⟩
          · go_enter Tryd.func28, Tryd.ntmps28
            go_wp2
            go_ret
            exact ⟨ret_bool (HF.out false (by rw [decide_eq_false]; omega)).symm, hb.out⟩
theorem fits_yes {ins pr n k : Int} (h : fitsB ins pr n k = true) (w : World) (hp : 0 ≤ pr) (hp2 : pr ≤ 1000) : Calls Tryd.prog 28 #[.agg #[.int .i64 ins, .int .i64 pr], .int .i64 n, .int .u8 k] w (BoolR true w) := by rw [← h]; exact fits_any ins pr n k w hp hp2
theorem fits_no {ins pr n k : Int} (h : fitsB ins pr n k = false) (w : World) (hp : 0 ≤ pr) (hp2 : pr ≤ 1000) : Calls Tryd.prog 28 #[.agg #[.int .i64 ins, .int .i64 pr], .int .i64 n, .int .u8 k] w (BoolR false w) := by rw [← h]; exact fits_any ins pr n k w hp hp2

theorem form_yes (k : Nat) (h1 : 1 ≤ k) (h2 : k ≤ 32) (w : World) (hF : Hid (FT w)) : Calls Tryd.prog 27 #[.int .i64 k] w (fun e w' => e = .returned (.tuple #[.agg #[.string ⟨(row k).nm.toArray⟩, .int .u8 (row k).a, .int .u8 (row k).b, .int .u8 (row k).c], .bool true]) ∧ Below w.heap.size w w') := by
  obtain ⟨c0, c1, c2, c3⟩ := hF.out.cells k (by omega)
  have hw := hF.out.1
  have hb := Lib.hid (((below_al w (.cells #[.string ⟨#[]⟩, .int .u8 0, .int .u8 0, .int .u8 0] 60))))
  generalize row k = r at *
  go_enter Tryd.func27, Tryd.ntmps27
  go_wp2
  (try simp only [Exit.inBlock, Exit.then])
  refine bodyPost_ret (v := .tuple #[.agg #[.string ⟨r.nm.toArray⟩, .int .u8 r.a, .int .u8 r.b, .int .u8 r.c], .bool true]) ?_ rfl ⟨rfl, ?_⟩
  · rw [results_cell_tmp rfl]; go_simp
  · (repeat' (first | exact hb.out | exact below_al _ _ | exact Below.refl _ _ | refine Below.setCell ?_ (Nat.le_refl _) _))
theorem form_no (op : Int) (h : ¬ (1 ≤ op ∧ op ≤ 32)) (w : World) : Calls Tryd.prog 27 #[.int .i64 op] w (fun e w' => e = .returned (.tuple #[.agg #[.string ⟨#[]⟩, .int .u8 0, .int .u8 0, .int .u8 0], .bool false]) ∧ Below w.heap.size w w') := by
  have hb := Lib.hid (((below_al w (.cells #[.string ⟨#[]⟩, .int .u8 0, .int .u8 0, .int .u8 0] 60))))
  by_cases h1 : op < 1
  · go_enter Tryd.func27, Tryd.ntmps27
    go_wp2
    (try simp only [Exit.inBlock, Exit.then])
    refine bodyPost_ret (v := .tuple #[.agg #[.string ⟨#[]⟩, .int .u8 0, .int .u8 0, .int .u8 0], .bool false]) ?_ rfl ⟨rfl, ?_⟩
    · rw [results_cell_tmp rfl]; go_simp
    · (repeat' (first | exact hb.out | exact below_al _ _ | exact Below.refl _ _ | refine Below.setCell ?_ (Nat.le_refl _) _))
  · have h2 : 32 < op := by omega
    go_enter Tryd.func27, Tryd.ntmps27
    go_wp2
    (try simp only [Exit.inBlock, Exit.then])
    refine bodyPost_ret (v := .tuple #[.agg #[.string ⟨#[]⟩, .int .u8 0, .int .u8 0, .int .u8 0], .bool false]) ?_ rfl ⟨rfl, ?_⟩
    · rw [results_cell_tmp rfl]; go_simp
    · (repeat' (first | exact hb.out | exact below_al _ _ | exact Below.refl _ _ | refine Below.setCell ?_ (Nat.le_refl _) _))

abbrev vA (ins pr : Int) : Value := .agg #[.int .i64 ins, .int .i64 pr]
theorem reg_fits (ins pr n : Int) : fitsB ins pr n 1 = regB n := by simp [fitsB, regB, mostB]
theorem zero_fits (ins pr n : Int) : fitsB ins pr n 0 = decide (n = 0) := by
  unfold fitsB mostB; congr 1; simp; omega
theorem casesFit_other (ins pr : Int) (e : In) (w : World) (h : e.op ≠ 15) (hl : e.cs.length = e.n) : Calls Tryd.prog 29 #[vA ins pr, vI e] w (BoolR (casB e) w) := by
  have HC : Hid (casB e = (decide (e.n = 0) && !e.d)) := by show _ = _; rw [← hl]; simp [casB, h]
  have hb := Lib.hid ((below_al w (.cells #[.int .i64 ins, .int .i64 pr] 54)).trans ((below_al _ (.cells #[.int .i64 e.op, .int .i64 e.a, .int .i64 e.b, .int .i64 e.c, .slice e.A e.n e.cap, .bool e.d] 39)).mono (by simp)))
  obtain ⟨op, a, b, c, A, n, cap, d, cs⟩ := e
  simp only at h HC hb hl ⊢
  by_cases hn : n = 0
  · subst hn
    cases d with
    | true =>
      go_enter Tryd.func29, Tryd.ntmps29
      go_wp2
      go_ret
      exact ⟨ret_bool (by rw [HC.out]; rfl), hb.out⟩
    | false =>
      go_enter Tryd.func29, Tryd.ntmps29
      go_wp2
      go_ret
      exact ⟨ret_bool (by rw [HC.out]; rfl), hb.out⟩
  · go_enter Tryd.func29, Tryd.ntmps29
    go_wp2
    go_ret
    exact ⟨ret_bool (by rw [HC.out]; simp [hn]), hb.out⟩
theorem casesFit_many (ins pr : Int) (e : In) (w : World) (h : e.op = 15) (hl : 16 < e.n) (hl2 : e.cs.length = e.n) : Calls Tryd.prog 29 #[vA ins pr, vI e] w (BoolR (casB e) w) := by
  have HC : Hid (casB e = false) := by show _ = _; simp [casB, h, hl2]; omega
  have hb := Lib.hid ((below_al w (.cells #[.int .i64 ins, .int .i64 pr] 54)).trans ((below_al _ (.cells #[.int .i64 e.op, .int .i64 e.a, .int .i64 e.b, .int .i64 e.c, .slice e.A e.n e.cap, .bool e.d] 39)).mono (by simp)))
  obtain ⟨op, a, b, c, A, n, cap, d, cs⟩ := e
  simp only at h HC hb hl ⊢
  subst h
  go_enter Tryd.func29, Tryd.ntmps29
  go_wp2
  go_ret
  exact ⟨ret_bool HC.out.symm, hb.out⟩

theorem caB_iff (c : Ca) : caB c = (fitsB 0 0 c.ch 1 && fitsB 0 0 c.v (if c.s then 1 else 0)) := by
  unfold caB
  rw [reg_fits]
  cases c.s with
  | true => simp only [if_true]; rw [reg_fits]
  | false => simp only [Bool.false_eq_true, if_false]; rw [zero_fits]
theorem fits_01 {ins pr n k : Int} (h : k = 0 ∨ k = 1) : fitsB ins pr n k = fitsB 0 0 n k := by
  rcases h with rfl | rfl
  · rw [zero_fits, zero_fits]
  · rw [reg_fits, reg_fits]
theorem two_box (w : World) (o p : Obj) : Below w.heap.size w ((w.alloc o).alloc p) := (below_al w o).trans ((below_al _ p).mono (by simp))
abbrev bxA (w : World) (ins pr : Int) : World := w.alloc (.cells #[.int .i64 ins, .int .i64 pr] 54)
abbrev bxI (w : World) (ins pr : Int) (op a b c : Int) (A : Option Addr) (n cap : Nat) (d : Bool) : World := (bxA w ins pr).alloc (.cells #[.int .i64 op, .int .i64 a, .int .i64 b, .int .i64 c, .slice A n cap, .bool d] 39)
theorem all_no {α : Type} {p : α → Bool} {l : List α} {x : α} (hm : x ∈ l) (h : p x = false) : l.all p = false := by
  rw [List.all_eq_false]
  exact ⟨x, hm, by simp [h]⟩
theorem all_next {α : Type} {p : α → Bool} {l : List α} {x : α} {k : Nat} (ht : l.take (k + 1) = l.take k ++ [x]) (h : (l.take k).all p = true) (hx : p x = true) : (l.take (k + 1)).all p = true := by
  rw [ht, List.all_append, h]
  simp [hx]
set_option maxHeartbeats 1000000 in
theorem casesFit_some (ins pr : Int) (hp : 0 ≤ pr) (hp2 : pr ≤ 1000) (a b c : Int) (A : Option Addr) (n cap : Nat) (d : Bool) (cs : List Ca) (w : World) (hl : n ≤ 16) (hR : Hid (RdC w A n cs)) :
    Calls Tryd.prog 29 #[vA ins pr, vI ⟨15, a, b, c, A, n, cap, d, cs⟩] w (BoolR (cs.all caB) w) := by
  have hB0 := Lib.hid (two_box w (.cells #[.int .i64 ins, .int .i64 pr] 54) (.cells #[.int .i64 15, .int .i64 a, .int .i64 b, .int .i64 c, .slice A n cap, .bool d] 39))
  have hS0 : Hid ((bxI w ins pr 15 a b c A n cap d).heap.size = w.heap.size + 2) := by show _ = _; simp
  have hD0 : Hid ((bxI w ins pr 15 a b c A n cap d).cell? ⟨w.heap.size, 0, none⟩ = some (.int .i64 ins)) := by show _ = _; simp [World.cell?_alloc_at, World.cell?_alloc_past]
  have hD1 : Hid ((bxI w ins pr 15 a b c A n cap d).cell? ⟨w.heap.size, 1, none⟩ = some (.int .i64 pr)) := by show _ = _; simp [World.cell?_alloc_at, World.cell?_alloc_past]
  go_enter Tryd.func29, Tryd.ntmps29
  go_wp2
  go_loopw [27] (fun i wr => ∃ k : Nat, k ≤ n ∧ i = .int .i64 k ∧ Hid (Below (w.heap.size + 2) (bxI w ins pr 15 a b c A n cap d) wr) ∧ Hid ((cs.take k).all caB = true)) (fun i _ => n - (intOf i).toNat)
  case atStart => exact ⟨0, by omega, rfl, Below.refl _ _, rfl⟩
  case round =>
    obtain ⟨k, hk, rfl, hB, hA⟩ := hrel
    have hBw : Hid (Below w.heap.size w wr) := hB0.out.trans (hB.out.mono (by omega))
    by_cases hlt : k < n
    · obtain ⟨bb, off, rfl, hb, hc⟩ := hR.out.cells (by omega)
      have hky : k < cs.length := by rw [hR.out.1]; exact hlt
      obtain ⟨c0, c1, c2⟩ := hc k (cs[k]'hky) (List.getElem?_eq_getElem hky)
      have htk : cs.take (k + 1) = cs.take k ++ [cs[k]'hky] := List.take_succ_eq_append_getElem hky
      have HM : Hid (cs[k]'hky ∈ cs) := List.getElem_mem hky
      have hbw : bb < wr.heap.size := Nat.lt_of_lt_of_le hb hBw.out.size
      rw [← cell_blk (hBw.out.block bb hb)] at c0 c1 c2
      generalize cs[k]'hky = x at *
      obtain ⟨s, ch, v⟩ := x
      simp only at c0 c1 c2
      have HTK := Lib.hid htk
      have hs : w.heap.size + 2 ≤ wr.heap.size := by have := hB.out.size; rw [hS0.out] at this; exact this
      have d0 : wr.cell? ⟨w.heap.size, 0, none⟩ = some (.int .i64 ins) := (cell_blk (hB.out.block _ (by omega)) 0).trans hD0.out
      have d1 : wr.cell? ⟨w.heap.size, 1, none⟩ = some (.int .i64 pr) := (cell_blk (hB.out.block _ (by omega)) 1).trans hD1.out
      clear htk hc hky
      have HX : Hid (caB ⟨s, ch, v⟩ = (fitsB ins pr ch 1 && fitsB ins pr v (if s then 1 else 0))) := by
        show _ = _
        rw [caB_iff, fits_01 (ins := ins) (pr := pr) (.inr rfl), fits_01 (ins := ins) (pr := pr) (n := v) (by cases s <;> simp)]
      have HB1 : Hid (Below w.heap.size w (wr.alloc (.cells #[.bool s, .int .i64 ch, .int .i64 v] 58))) := hBw.out.trans ((below_al wr _).mono hBw.out.size)
      have HB2 : Hid (Below (w.heap.size + 2) (bxI w ins pr 15 a b c (some ⟨bb, off, none⟩) n cap d) (wr.alloc (.cells #[.bool s, .int .i64 ch, .int .i64 v] 58))) := hB.out.trans ((below_al wr _).mono hs)
      have hs1 : w.heap.size < wr.heap.size := by omega
      by_cases h1 : fitsB ins pr ch 1 = true
      · have H1 := Lib.hid h1
        clear h1
        cases s with
        | true =>
          go_wp2_with fail
          refine (fits_yes H1.out _ hp hp2).mono ?_
          rintro e w1 ⟨rfl, hb1⟩
          have e0 : w1.cell? ⟨w.heap.size, 0, none⟩ = some (.int .i64 ins) := (cell_blk (hb1.block _ (by simp; omega)) 0).trans (by rw [World.cell?_alloc_past _ _ _ (by omega)]; exact d0)
          have e1 : w1.cell? ⟨w.heap.size, 1, none⟩ = some (.int .i64 pr) := (cell_blk (hb1.block _ (by simp; omega)) 1).trans (by rw [World.cell?_alloc_past _ _ _ (by omega)]; exact d1)
          have e2 : w1.cell? ⟨wr.heap.size, 2, none⟩ = some (.int .i64 v) := (cell_blk (hb1.block _ (by simp)) 2).trans (by simp)
          have e3 : w1.cell? ⟨wr.heap.size, 0, none⟩ = some (.bool true) := (cell_blk (hb1.block _ (by simp)) 0).trans (by simp)
          have hs2 : wr.heap.size < w1.heap.size := by have := hb1.size; simp at this; omega
          have hs3 : w.heap.size < w1.heap.size := by omega
          have HB3 := Lib.hid (HB1.out.trans (hb1.mono HB1.out.size))
          have HB4 := Lib.hid (HB2.out.trans (hb1.mono (by simp; omega)))
          clear hb1 c0 c1 c2 d0 d1
          by_cases h2 : fitsB ins pr v 1 = true
          · have H2 := Lib.hid h2
            clear h2
            go_wp2_with fail
            refine (fits_yes H2.out _ hp hp2).mono ?_
            rintro e w2 ⟨rfl, hb2⟩
            have HB5 := Lib.hid (HB3.out.trans (hb2.mono HB3.out.size))
            have HB6 := Lib.hid (HB4.out.trans (hb2.mono (by omega)))
            clear hb2
            go_wp2_with fail
            go_roundw
            case rel => exact ⟨k + 1, by omega, by go_num, HB6.out, all_next HTK.out hA.out (by rw [HX.out, H1.out]; exact H2.out)⟩
            case measure => simp [intOf]; omega
          · have H2 : Hid (fitsB ins pr v 1 = false) := eq_false_of_ne_true h2
            clear h2
            go_wp2_with fail
            refine (fits_no H2.out _ hp hp2).mono ?_
            rintro e w2 ⟨rfl, hb2⟩
            have HB5 := Lib.hid (HB3.out.trans (hb2.mono HB3.out.size))
            clear hb2
            go_wp2_with fail
            go_ret
            exact ⟨ret_bool (all_no HM.out (by rw [HX.out, H1.out]; exact H2.out)).symm, HB5.out⟩
        | false =>
          go_wp2_with fail
          refine (fits_yes H1.out _ hp hp2).mono ?_
          rintro e w1 ⟨rfl, hb1⟩
          have e0 : w1.cell? ⟨w.heap.size, 0, none⟩ = some (.int .i64 ins) := (cell_blk (hb1.block _ (by simp; omega)) 0).trans (by rw [World.cell?_alloc_past _ _ _ (by omega)]; exact d0)
          have e1 : w1.cell? ⟨w.heap.size, 1, none⟩ = some (.int .i64 pr) := (cell_blk (hb1.block _ (by simp; omega)) 1).trans (by rw [World.cell?_alloc_past _ _ _ (by omega)]; exact d1)
          have e2 : w1.cell? ⟨wr.heap.size, 2, none⟩ = some (.int .i64 v) := (cell_blk (hb1.block _ (by simp)) 2).trans (by simp)
          have e3 : w1.cell? ⟨wr.heap.size, 0, none⟩ = some (.bool false) := (cell_blk (hb1.block _ (by simp)) 0).trans (by simp)
          have hs2 : wr.heap.size < w1.heap.size := by have := hb1.size; simp at this; omega
          have hs3 : w.heap.size < w1.heap.size := by omega
          have HB3 := Lib.hid (HB1.out.trans (hb1.mono HB1.out.size))
          have HB4 := Lib.hid (HB2.out.trans (hb1.mono (by simp; omega)))
          clear hb1 c0 c1 c2 d0 d1
          by_cases h2 : fitsB ins pr v 0 = true
          · have H2 := Lib.hid h2
            clear h2
            go_wp2_with fail
            refine (fits_yes H2.out _ hp hp2).mono ?_
            rintro e w2 ⟨rfl, hb2⟩
            have HB5 := Lib.hid (HB3.out.trans (hb2.mono HB3.out.size))
            have HB6 := Lib.hid (HB4.out.trans (hb2.mono (by omega)))
            clear hb2
            go_wp2_with fail
            go_roundw
            case rel => exact ⟨k + 1, by omega, by go_num, HB6.out, all_next HTK.out hA.out (by rw [HX.out, H1.out]; exact H2.out)⟩
            case measure => simp [intOf]; omega
          · have H2 : Hid (fitsB ins pr v 0 = false) := eq_false_of_ne_true h2
            clear h2
            go_wp2_with fail
            refine (fits_no H2.out _ hp hp2).mono ?_
            rintro e w2 ⟨rfl, hb2⟩
            have HB5 := Lib.hid (HB3.out.trans (hb2.mono HB3.out.size))
            clear hb2
            go_wp2_with fail
            go_ret
            exact ⟨ret_bool (all_no HM.out (by rw [HX.out, H1.out]; exact H2.out)).symm, HB5.out⟩
      · have H1 : Hid (fitsB ins pr ch 1 = false) := eq_false_of_ne_true h1
        clear h1
        cases s with
        | true =>
          go_wp2_with fail
          refine (fits_no H1.out _ hp hp2).mono ?_
          rintro e w1 ⟨rfl, hb1⟩
          have HB3 := Lib.hid (HB1.out.trans (hb1.mono HB1.out.size))
          clear hb1 c0 c1 c2 d0 d1
          go_wp2_with fail
          go_ret
          exact ⟨ret_bool (all_no HM.out (by rw [HX.out, H1.out]; rfl)).symm, HB3.out⟩
        | false =>
          go_wp2_with fail
          refine (fits_no H1.out _ hp hp2).mono ?_
          rintro e w1 ⟨rfl, hb1⟩
          have HB3 := Lib.hid (HB1.out.trans (hb1.mono HB1.out.size))
          clear hb1 c0 c1 c2 d0 d1
          go_wp2_with fail
          go_ret
          exact ⟨ret_bool (all_no HM.out (by rw [HX.out, H1.out]; rfl)).symm, HB3.out⟩
    · obtain rfl : k = n := by omega
      go_wp2
      go_ret
      exact ⟨ret_bool (by have h := hA.out; rw [List.take_of_length_le (by rw [hR.out.1]; omega)] at h; exact h.symm), hBw.out⟩
theorem casesFit_any (ins pr : Int) (hp : 0 ≤ pr) (hp2 : pr ≤ 1000) (e : In) (w : World) (hR : Hid (RdC w e.A e.n e.cs)) : Calls Tryd.prog 29 #[vA ins pr, vI e] w (BoolR (casB e) w) := by
  by_cases h : e.op = 15
  · by_cases hl : e.n ≤ 16
    · have h1 : casB e = e.cs.all caB := by
        have h2 : e.cs.length ≤ 16 := by rw [hR.out.1]; exact hl
        simp [casB, h, h2]
      obtain ⟨op, a, b, c, A, n, cap, d, cs⟩ := e
      simp only at h
      subst h
      rw [h1]
      exact casesFit_some ins pr hp hp2 a b c A n cap d cs w hl hR
    · exact casesFit_many ins pr e w h (by omega) hR.out.1
  · exact casesFit_other ins pr e w h hR.out.1
end Go.Proofs.YtgojnhbmelnpnaaDoor.Pg
