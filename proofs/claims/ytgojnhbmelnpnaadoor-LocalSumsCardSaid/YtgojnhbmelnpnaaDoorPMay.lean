/- mayBe and aloneMayBe tell whether an instruction may be. Conditions: the table lies in its variable; the cases lie where the instruction says. -/
import Derived.Test.YtgojnhbmelnpnaaDoorPSml
namespace Go.Proofs.YtgojnhbmelnpnaaDoor.Pg
open Go.RowKit
set_option linter.unusedVariables false
set_option maxRecDepth 100000

theorem rowI_nat (k : Nat) (h1 : 1 ≤ k) (h2 : k ≤ 32) : rowI k = row k := by
  unfold rowI; rw [if_pos (by omega)]; rfl
theorem mayB_out (ins pr : Int) (e : In) (h : ¬ (1 ≤ e.op ∧ e.op ≤ 32)) : mayB ins pr e = false := by simp [mayB, h]
theorem mayB_in (ins pr : Int) (k : Nat) (h1 : 1 ≤ k) (h2 : k ≤ 32) (a b c : Int) (A : Option Addr) (n cap : Nat) (d : Bool) (cs : List Ca) :
    mayB ins pr ⟨k, a, b, c, A, n, cap, d, cs⟩ = (fitsB ins pr a (row k).a && (fitsB ins pr b (row k).b && (fitsB ins pr c (row k).c && casB ⟨k, a, b, c, A, n, cap, d, cs⟩))) := by
  have h3 : (1 : Int) ≤ k ∧ (k : Int) ≤ 32 := by omega
  simp [mayB, h3, rowI_nat k h1 h2]
structure MbS (w wr : World) (ins pr : Int) (X F : Array Value) (N : Nat) : Prop where
  bel : Below w.heap.size w wr
  lo : w.heap.size + 1 < N
  lt : N < wr.heap.size
  ca : ∀ j, wr.cell? ⟨w.heap.size, j, none⟩ = (#[Value.int .i64 ins, .int .i64 pr])[j]?
  ci : ∀ j, wr.cell? ⟨w.heap.size + 1, j, none⟩ = X[j]?
  cf : ∀ j, wr.cell? ⟨N, j, none⟩ = F[j]?
theorem MbS.later {w wr w' : World} {ins pr : Int} {X F : Array Value} {N : Nat} (h : MbS w wr ins pr X F N) (hb : Below wr.heap.size wr w') : MbS w w' ins pr X F N :=
  ⟨h.bel.trans (hb.mono h.bel.size), h.lo, Nat.lt_of_lt_of_le h.lt hb.size, fun j => (cell_blk (hb.block _ (by have := h.lo; have := h.lt; omega)) j).trans (h.ca j), fun j => (cell_blk (hb.block _ (by have := h.lo; have := h.lt; omega)) j).trans (h.ci j), fun j => (cell_blk (hb.block _ h.lt) j).trans (h.cf j)⟩
set_option maxHeartbeats 1000000 in
theorem mayBe_in (ins pr : Int) (hp : 0 ≤ pr) (hp2 : pr ≤ 1000) (k : Nat) (h1 : 1 ≤ k) (h2 : k ≤ 32) (a b c : Int) (A : Option Addr) (n cap : Nat) (d : Bool) (cs : List Ca) (w : World) (hF : Hid (FT w)) (hR : Hid (RdC w A n cs)) :
    Calls Tryd.prog 23 #[vA ins pr, vI ⟨k, a, b, c, A, n, cap, d, cs⟩] w (BoolR (mayB ins pr ⟨k, a, b, c, A, n, cap, d, cs⟩) w) := by
  have HM := Lib.hid (mayB_in ins pr k h1 h2 a b c A n cap d cs)
  have hB0 := Lib.hid (two_box w (.cells #[.int .i64 ins, .int .i64 pr] 54) (.cells #[.int .i64 k, .int .i64 a, .int .i64 b, .int .i64 c, .slice A n cap, .bool d] 39))
  have hD0 : (bxI w ins pr k a b c A n cap d).cell? ⟨w.heap.size, 0, none⟩ = some (.int .i64 ins) := by simp [World.cell?_alloc_at, World.cell?_alloc_past]
  have hD1 : (bxI w ins pr k a b c A n cap d).cell? ⟨w.heap.size, 1, none⟩ = some (.int .i64 pr) := by simp [World.cell?_alloc_at, World.cell?_alloc_past]
  have hI : ∀ j, (bxI w ins pr k a b c A n cap d).cell? ⟨w.heap.size + 1, j, none⟩ = (#[Value.int .i64 k, .int .i64 a, .int .i64 b, .int .i64 c, .slice A n cap, .bool d])[j]? := fun j => by rw [World.cell?_alloc_at _ _ _ _ (by simp)]
  have HF := Lib.hid (hF.out.later hB0.out)
  have HR := Lib.hid (hR.out.later hB0.out)
  have hF' := Lib.hid (form_yes k h1 h2 (bxI w ins pr k a b c A n cap d) HF)
  go_enter Tryd.func23, Tryd.ntmps23
  go_wp2_with fail
  refine hF'.out.mono ?_
  rintro e w1 ⟨rfl, hb1⟩
  have HS1 : Hid (MbS w (w1.alloc (.cells #[.string ⟨(row k).nm.toArray⟩, .int .u8 (row k).a, .int .u8 (row k).b, .int .u8 (row k).c] 60)) ins pr #[.int .i64 k, .int .i64 a, .int .i64 b, .int .i64 c, .slice A n cap, .bool d] #[.string ⟨(row k).nm.toArray⟩, .int .u8 (row k).a, .int .u8 (row k).b, .int .u8 (row k).c] w1.heap.size) := by
    have hs := hb1.size
    simp at hs
    refine ⟨(hB0.out.trans (hb1.mono (by simp; omega))).trans ((below_al w1 _).mono (by omega)), by omega, by simp, fun j => ?_, fun j => ?_, fun j => by rw [World.cell?_alloc_at _ _ _ _ rfl]⟩
    · rw [World.cell?_alloc_past _ _ _ (by omega), cell_blk (hb1.block _ (by simp; omega)) j, World.cell?_alloc_past _ _ _ (by simp), World.cell?_alloc_at _ _ _ _ rfl]
    · rw [World.cell?_alloc_past _ _ _ (by omega), cell_blk (hb1.block _ (by simp)) j, hI]
  have HR1 := Lib.hid ((HR.out.later hb1).later (below_al w1 (.cells #[.string ⟨(row k).nm.toArray⟩, .int .u8 (row k).a, .int .u8 (row k).b, .int .u8 (row k).c] 60)))
  have hsa : w.heap.size < w1.heap.size := by have := hb1.size; simp at this; omega
  have hsi : w.heap.size + 1 < w1.heap.size := by have := hb1.size; simp at this; omega
  have a0 : w1.cell? ⟨w.heap.size, 0, none⟩ = some (.int .i64 ins) := (cell_blk (hb1.block _ (by simp; omega)) 0).trans hD0
  have a1 : w1.cell? ⟨w.heap.size, 1, none⟩ = some (.int .i64 pr) := (cell_blk (hb1.block _ (by simp; omega)) 1).trans hD1
  have i1 : w1.cell? ⟨w.heap.size + 1, 1, none⟩ = some (.int .i64 a) := (cell_blk (hb1.block _ (by simp)) 1).trans (hI 1)
  clear hb1 hI hD0 hD1 hF' HF HR hB0
  generalize row k = r at *
  go_wp2_with fail
  clear hsa hsi a0 a1 i1
  generalize w1.alloc (.cells #[.string ⟨r.nm.toArray⟩, .int .u8 r.a, .int .u8 r.b, .int .u8 r.c] 60) = w2 at *
  generalize w1.heap.size = N1 at *
  have HS2 : Hid (MbS w w2 ins pr #[.int .i64 k, .int .i64 a, .int .i64 b, .int .i64 c, .slice A n cap, .bool d] #[.string ⟨r.nm.toArray⟩, .int .u8 r.a, .int .u8 r.b, .int .u8 r.c] N1) := HS1
  have HR2 : Hid (RdC w2 A n cs) := HR1
  clear HS1 HR1
  by_cases h1' : fitsB ins pr a r.a = true
  · have H1 := Lib.hid h1'
    clear h1'
    refine (fits_yes H1.out _ hp hp2).mono ?_
    rintro e w3 ⟨rfl, hb⟩
    have HS3 := Lib.hid (HS2.out.later hb)
    have HR3 := Lib.hid (HR2.out.later hb)
    clear hb HS2 HR2
    have hsa : w.heap.size < w3.heap.size := by have := HS3.out.lo; have := HS3.out.lt; omega
    have hsi : w.heap.size + 1 < w3.heap.size := by have := HS3.out.lo; have := HS3.out.lt; omega
    have hsn : N1 < w3.heap.size := HS3.out.lt
    have a0 : w3.cell? ⟨w.heap.size, 0, none⟩ = some (.int .i64 ins) := HS3.out.ca 0
    have a1 : w3.cell? ⟨w.heap.size, 1, none⟩ = some (.int .i64 pr) := HS3.out.ca 1
    have i2 : w3.cell? ⟨w.heap.size + 1, 2, none⟩ = some (.int .i64 b) := HS3.out.ci 2
    have f2 : w3.cell? ⟨N1, 2, none⟩ = some (.int .u8 r.b) := HS3.out.cf 2
    go_wp2_with fail
    clear hsa hsi hsn a0 a1 i2 f2
    by_cases h2' : fitsB ins pr b r.b = true
    · have H2 := Lib.hid h2'
      clear h2'
      refine (fits_yes H2.out _ hp hp2).mono ?_
      rintro e w4 ⟨rfl, hb⟩
      have HS4 := Lib.hid (HS3.out.later hb)
      have HR4 := Lib.hid (HR3.out.later hb)
      clear hb HS3 HR3
      have hsa : w.heap.size < w4.heap.size := by have := HS4.out.lo; have := HS4.out.lt; omega
      have hsi : w.heap.size + 1 < w4.heap.size := by have := HS4.out.lo; have := HS4.out.lt; omega
      have hsn : N1 < w4.heap.size := HS4.out.lt
      have a0 : w4.cell? ⟨w.heap.size, 0, none⟩ = some (.int .i64 ins) := HS4.out.ca 0
      have a1 : w4.cell? ⟨w.heap.size, 1, none⟩ = some (.int .i64 pr) := HS4.out.ca 1
      have i3 : w4.cell? ⟨w.heap.size + 1, 3, none⟩ = some (.int .i64 c) := HS4.out.ci 3
      have f3 : w4.cell? ⟨N1, 3, none⟩ = some (.int .u8 r.c) := HS4.out.cf 3
      go_wp2_with fail
      clear hsa hsi hsn a0 a1 i3 f3
      by_cases h3' : fitsB ins pr c r.c = true
      · have H3 := Lib.hid h3'
        clear h3'
        refine (fits_yes H3.out _ hp hp2).mono ?_
        rintro e w5 ⟨rfl, hb⟩
        have HS5 := Lib.hid (HS4.out.later hb)
        have HR5 := Lib.hid (HR4.out.later hb)
        clear hb HS4 HR4
        have hsa : w.heap.size < w5.heap.size := by have := HS5.out.lo; have := HS5.out.lt; omega
        have hsi : w.heap.size + 1 < w5.heap.size := by have := HS5.out.lo; have := HS5.out.lt; omega
        have hsn : N1 < w5.heap.size := HS5.out.lt
        have a0 : w5.cell? ⟨w.heap.size, 0, none⟩ = some (.int .i64 ins) := HS5.out.ca 0
        have a1 : w5.cell? ⟨w.heap.size, 1, none⟩ = some (.int .i64 pr) := HS5.out.ca 1
        have i0 : w5.cell? ⟨w.heap.size + 1, 0, none⟩ = some (.int .i64 k) := HS5.out.ci 0
        have i1 : w5.cell? ⟨w.heap.size + 1, 1, none⟩ = some (.int .i64 a) := HS5.out.ci 1
        have i2 : w5.cell? ⟨w.heap.size + 1, 2, none⟩ = some (.int .i64 b) := HS5.out.ci 2
        have i3 : w5.cell? ⟨w.heap.size + 1, 3, none⟩ = some (.int .i64 c) := HS5.out.ci 3
        have i4 : w5.cell? ⟨w.heap.size + 1, 4, none⟩ = some (.slice A n cap) := HS5.out.ci 4
        have i5 : w5.cell? ⟨w.heap.size + 1, 5, none⟩ = some (.bool d) := HS5.out.ci 5
        go_wp2_with fail
        clear hsa hsi hsn a0 a1 i0 i1 i2 i3 i4 i5
        refine (casesFit_any ins pr hp hp2 ⟨k, a, b, c, A, n, cap, d, cs⟩ w5 HR5).mono ?_
        rintro e w6 ⟨rfl, hb⟩
        have HB := Lib.hid (HS5.out.later hb).bel
        have HV : Hid (mayB ins pr ⟨k, a, b, c, A, n, cap, d, cs⟩ = casB ⟨k, a, b, c, A, n, cap, d, cs⟩) := by show _ = _; rw [HM.out, H1.out, H2.out, H3.out]; rfl
        clear hb HS5 HR5
        generalize casB ⟨k, a, b, c, A, n, cap, d, cs⟩ = z at *
        go_wp2_with fail
        go_ret
        exact ⟨ret_bool HV.out.symm, HB.out⟩
      · have H3 : Hid (fitsB ins pr c r.c = false) := eq_false_of_ne_true h3'
        clear h3'
        refine (fits_no H3.out _ hp hp2).mono ?_
        rintro e w5 ⟨rfl, hb⟩
        have HB := Lib.hid (HS4.out.later hb).bel
        clear hb HS4 HR4
        go_wp2_with fail
        go_ret
        exact ⟨ret_bool (by rw [HM.out, H1.out, H2.out, H3.out]; rfl), HB.out⟩
    · have H2 : Hid (fitsB ins pr b r.b = false) := eq_false_of_ne_true h2'
      clear h2'
      refine (fits_no H2.out _ hp hp2).mono ?_
      rintro e w4 ⟨rfl, hb⟩
      have HB := Lib.hid (HS3.out.later hb).bel
      clear hb HS3 HR3
      go_wp2_with fail
      go_ret
      exact ⟨ret_bool (by rw [HM.out, H1.out, H2.out]; rfl), HB.out⟩
  · have H1 : Hid (fitsB ins pr a r.a = false) := eq_false_of_ne_true h1'
    clear h1'
    refine (fits_no H1.out _ hp hp2).mono ?_
    rintro e w3 ⟨rfl, hb⟩
    have HB := Lib.hid (HS2.out.later hb).bel
    clear hb HS2 HR2
    go_wp2_with fail
    go_ret
    exact ⟨ret_bool (by rw [HM.out, H1.out]; rfl), HB.out⟩
set_option maxHeartbeats 1000000 in
theorem mayBe_out (ins pr : Int) (e : In) (h : ¬ (1 ≤ e.op ∧ e.op ≤ 32)) (w : World) : Calls Tryd.prog 23 #[vA ins pr, vI e] w (BoolR (mayB ins pr e) w) := by
  have HM := Lib.hid (mayB_out ins pr e h)
  obtain ⟨op, a, b, c, A, n, cap, d, cs⟩ := e
  simp only at h
  have hB0 := Lib.hid (two_box w (.cells #[.int .i64 ins, .int .i64 pr] 54) (.cells #[.int .i64 op, .int .i64 a, .int .i64 b, .int .i64 c, .slice A n cap, .bool d] 39))
  have hF' := Lib.hid (form_no op h (bxI w ins pr op a b c A n cap d))
  clear h
  go_enter Tryd.func23, Tryd.ntmps23
  go_wp2_with fail
  refine hF'.out.mono ?_
  rintro e w1 ⟨rfl, hb1⟩
  have HB1 := Lib.hid (hB0.out.trans (hb1.mono (by simp; omega)))
  have HB2 := Lib.hid (HB1.out.trans ((below_al w1 (.cells #[.string ⟨#[]⟩, .int .u8 0, .int .u8 0, .int .u8 0] 60)).mono HB1.out.size))
  clear hb1 hB0
  go_wp2_with fail
  go_ret
  exact ⟨ret_bool HM.out.symm, HB2.out⟩
theorem mayBe_any (ins pr : Int) (hp : 0 ≤ pr) (hp2 : pr ≤ 1000) (e : In) (w : World) (hF : Hid (FT w)) (hR : Hid (RdC w e.A e.n e.cs)) : Calls Tryd.prog 23 #[vA ins pr, vI e] w (BoolR (mayB ins pr e) w) := by
  by_cases h : 1 ≤ e.op ∧ e.op ≤ 32
  · obtain ⟨op, a, b, c, A, n, cap, d, cs⟩ := e
    simp only at h
    obtain ⟨k, rfl⟩ := Int.eq_ofNat_of_zero_le (show 0 ≤ op by omega)
    exact mayBe_in ins pr hp hp2 k (by omega) (by omega) a b c A n cap d cs w hF hR
  · exact mayBe_out ins pr e h w
theorem mayBe_yes {ins pr : Int} {e : In} (h : mayB ins pr e = true) (hp : 0 ≤ pr) (hp2 : pr ≤ 1000) (w : World) (hF : Hid (FT w)) (hR : Hid (RdC w e.A e.n e.cs)) : Calls Tryd.prog 23 #[vA ins pr, vI e] w (BoolR true w) := by
  have h1 := mayBe_any ins pr hp hp2 e w hF hR
  rwa [h] at h1
theorem mayBe_no {ins pr : Int} {e : In} (h : mayB ins pr e = false) (hp : 0 ≤ pr) (hp2 : pr ≤ 1000) (w : World) (hF : Hid (FT w)) (hR : Hid (RdC w e.A e.n e.cs)) : Calls Tryd.prog 23 #[vA ins pr, vI e] w (BoolR false w) := by
  have h1 := mayBe_any ins pr hp hp2 e w hF hR
  rwa [h] at h1
end Go.Proofs.YtgojnhbmelnpnaaDoor.Pg
