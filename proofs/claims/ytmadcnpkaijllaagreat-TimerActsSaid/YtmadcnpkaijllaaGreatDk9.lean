/- The law's does, of time that goes on, and of no kind. Conditions: each theorem's own premises. -/
import Derived.Test.YtmadcnpkaijllaaGreatDk5
namespace Go.Proofs.YtmadcnpkaijllaaGreat
open Go.RowKit Ch
set_option linter.unusedVariables false
set_option maxRecDepth 100000
section
variable {W w w' : World} {b t mo k q : Nat} {kd nn d now : Int}
set_option maxHeartbeats 8000000 in
theorem does_9 (h : BE W b t mo k w) (hk : k ≤ 120) : Calls Tryz.prog 6 #[.pointer (some ⟨b, 0, none⟩), .agg #[.int .i64 9, .int .i64 nn, .int .i64 d]] w (Dz W b t mo k w) := by
  obtain ⟨B, RC, X, T, m, n, S, g, now, h1, h2⟩ := h
  have HG := Lib.hid ((h1.later ((below_al w (aO 9 nn d)).drew)).goes (ad now (max d 0)))
  have HI : Hid (Iv (k + 1) 0 X T m n S g (ad now (max d 0))) := ⟨h2.up.kd, h2.up.ch, h2.up.ts, h2.up.inv, h2.up.m64, h2.up.nn, h2.up.xl, by have := h2.now; unfold Fit ad hd at *; omega⟩
  have C1 : Hid (Ck b t mo now w.heap.size 9 nn d (w.alloc (aO 9 nn d))) := ⟨Bc.later h1.cb (below_al w _), heap_alloc_new w _⟩
  have HF1 := Lib.hid (Fz.of_below (below_al w (aO 9 nn d)))
  have hbn := lt_of_blk h1.cb
  have hmx : (max d 0 = 0 ∧ ¬ 0 ≤ d) ∨ (max d 0 = d ∧ 0 ≤ d) := by omega
  clear h1 h2
  rcases hmx with ⟨hmx, hd1⟩ | ⟨hmx, hd1⟩
  · rw [hmx] at HG HI
    unfold Dz
    go_enter Tryz.func6, Tryz.ntmps6
    go_upto_region 42 with (fail)
    dsimp only [aO] at HG C1 HF1
    generalize w.alloc (.cells #[.int .i64 9, .int .i64 nn, .int .i64 d] 40) = w1 at *
    generalize w.heap.size = q at *
    have C2 := Lib.hid (C1.out.later (Below.refl _ _).drew)
    have HF2 := Lib.hid ((HF1.out.trans (Fz.of_below (Below.refl w1.heap.size w1).drew)).trans (Fz.cell C2.out.1 2 (.int .i64 (ad now 0))))
    have hfz2 := C2.out.1.cells.2.2.2
    obtain ⟨c0, c1, c2, c3, c4, c5⟩ := C2.out.cells
    obtain ⟨d0, d1, d2, d3, d4, d5⟩ := C1.out.cells
    go_region_with (go_at_call 30; go_loud (refine (radd_any _ _ _).mono ?_; rintro e w' ⟨rfl, rfl⟩))
    all_goals go_wp2_with fail
    all_goals go_ret
    all_goals first
      | exact ⟨rfl, ⟨B, RC, X, T, m, n, S, g, _, HG.out, HI.out⟩, HF2.out⟩
      | (exfalso; omega)
      | (obtain rfl : d = 0 := by omega; exact ⟨rfl, ⟨B, RC, X, T, m, n, S, g, _, HG.out, HI.out⟩, HF2.out⟩)
  · rw [hmx] at HG HI
    unfold Dz
    go_enter Tryz.func6, Tryz.ntmps6
    go_upto_region 42 with (fail)
    dsimp only [aO] at HG C1 HF1
    generalize w.alloc (.cells #[.int .i64 9, .int .i64 nn, .int .i64 d] 40) = w1 at *
    generalize w.heap.size = q at *
    have C2 := Lib.hid (C1.out.later (Below.refl _ _).drew)
    have HF2 := Lib.hid ((HF1.out.trans (Fz.of_below (Below.refl w1.heap.size w1).drew)).trans (Fz.cell C2.out.1 2 (.int .i64 (ad now d))))
    have hfz2 := C2.out.1.cells.2.2.2
    obtain ⟨c0, c1, c2, c3, c4, c5⟩ := C2.out.cells
    obtain ⟨d0, d1, d2, d3, d4, d5⟩ := C1.out.cells
    go_region_with (go_at_call 30; go_loud (refine (radd_any _ _ _).mono ?_; rintro e w' ⟨rfl, rfl⟩))
    all_goals go_wp2_with fail
    all_goals go_ret
    all_goals first
      | exact ⟨rfl, ⟨B, RC, X, T, m, n, S, g, _, HG.out, HI.out⟩, HF2.out⟩
      | (exfalso; omega)
      | (obtain rfl : d = 0 := by omega; exact ⟨rfl, ⟨B, RC, X, T, m, n, S, g, _, HG.out, HI.out⟩, HF2.out⟩)
end
end Go.Proofs.YtmadcnpkaijllaaGreat
