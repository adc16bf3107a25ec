/- The law's does, of time that goes on, and of no kind. Conditions: each theorem's own premises. -/
import Derived.Test.YtmadcnpkaijllaaGreatDk1
namespace Go.Proofs.YtmadcnpkaijllaaGreat
open Go.RowKit Ch
set_option linter.unusedVariables false
set_option maxRecDepth 100000
section
variable {W w w' : World} {b t mo k q : Nat} {kd nn d now : Int}
theorem RS.cellO {mo m n : Nat} {E : List On} {S : List It} {g : Int → Int} (h : RS W mo E m n S g w) {b : Nat} {cs : Array Value} {ty : TypeId} {fr : Nat × Nat} (hb : w.heap[b]? = some (.cells cs ty fr)) (ho : ty ≠ 35 ∧ ty ≠ 94 ∧ ty ≠ 122) (k : Nat) (u : Value) : RS W mo E m n S g (w.setCell ⟨b, k, none⟩ u) := by
  have key : ∀ q, q ≠ b → (w.setCell ⟨b, k, none⟩ u).heap[q]? = w.heap[q]? := fun q hq => Below.heap_setCell _ _ _ _ (by exact hq)
  have ne : ∀ (q : Nat) (cs9 : Array Value) (ty9 : TypeId) (fr9 : Nat × Nat), w.heap[q]? = some (.cells cs9 ty9 fr9) → ty9 ≠ ty → q ≠ b := fun q cs9 ty9 fr9 e1 e2 => by
    rintro rfl
    rw [hb] at e1; injection e1 with e1; injection e1 with _ e1 _; exact e2 e1.symm
  obtain ⟨p, P, c, k1, k2⟩ := h
  refine ⟨p, P, c, k1.rf fun q cs9 ty9 fr9 e1 e2 => (key q (ne q _ _ _ e1 (by rcases e2 with rfl | rfl; exact ho.1.symm; exact ho.2.1.symm))).trans e1, row_keep k2 fun q hq => ?_⟩
  obtain ⟨cs9, fr9, e1⟩ := row_tag k2 hq
  exact key q (ne q _ _ _ e1 ho.2.2.symm)
theorem BD.goes {B RC : List Nat} {X : List Oc} {T : List CS} {m n : Nat} {S : List It} {g : Int → Int} (h : BD W b t mo B RC X T m n S g now w) (now' : Int) : BD W b t mo B RC X T m n S g now' (w.setCell ⟨b, 2, none⟩ (.int .i64 now')) :=
  ⟨h.ss.cellO h.cb (by decide) h.lo 2 _, h.rs.cellO h.cb (by decide) 2 _, h.eB, h.eC, by rw [heap_setCell_same w b 2 _ _ _ h.cb]; rfl, h.lo⟩
theorem Fz.cell {cs : Array Value} {fr : Nat × Nat} (hb : w.heap[b]? = some (.cells cs 37 fr)) (k : Nat) (u : Value) : Fz w (w.setCell ⟨b, k, none⟩ u) := fun q cs9 ty9 fr9 e1 e2 => (Below.heap_setCell _ _ _ _ (show q ≠ b by
  rintro rfl
  rw [hb] at e1; injection e1 with e1; injection e1 with _ e1 _
  rcases e2 with e2 | e2 | e2 <;> (rw [e2] at e1; exact absurd e1 (by decide)))).trans e1
set_option maxHeartbeats 8000000 in
theorem does_0 (kd : Int) (h : BE W b t mo k w) (h0 : ∀ i : Int, 1 ≤ i → i ≤ 11 → kd ≠ i) : Calls Tryz.prog 6 #[.pointer (some ⟨b, 0, none⟩), .agg #[.int .i64 kd, .int .i64 nn, .int .i64 d]] w (Dz W b t mo k w) := by
  obtain ⟨B, RC, X, T, m, n, S, g, now, h1, h2⟩ := h
  have HB : Hid (BE W b t mo (k + 1) (w.alloc (aO kd nn d))) := (h1.later (below_al w (aO kd nn d))).be h2
  have HF1 := Lib.hid (Fz.of_below (below_al w (aO kd nn d)))
  clear h1 h2
  have e1 : (kd == 1) = false := by simpa using h0 1 (by decide) (by decide)
  have e2 : (kd == 2) = false := by simpa using h0 2 (by decide) (by decide)
  have e3 : (kd == 3) = false := by simpa using h0 3 (by decide) (by decide)
  have e4 : (kd == 4) = false := by simpa using h0 4 (by decide) (by decide)
  have e5 : (kd == 5) = false := by simpa using h0 5 (by decide) (by decide)
  have e6 : (kd == 6) = false := by simpa using h0 6 (by decide) (by decide)
  have e7 : (kd == 7) = false := by simpa using h0 7 (by decide) (by decide)
  have e8 : (kd == 8) = false := by simpa using h0 8 (by decide) (by decide)
  have e9 : (kd == 9) = false := by simpa using h0 9 (by decide) (by decide)
  have e10 : (kd == 10) = false := by simpa using h0 10 (by decide) (by decide)
  have e11 : (kd == 11) = false := by simpa using h0 11 (by decide) (by decide)
  clear h0
  unfold Dz
  go_enter Tryz.func6, Tryz.ntmps6
  go_wp2_with fail
  go_ret
  exact ⟨rfl, HB.out, HF1.out⟩
end
end Go.Proofs.YtmadcnpkaijllaaGreat
