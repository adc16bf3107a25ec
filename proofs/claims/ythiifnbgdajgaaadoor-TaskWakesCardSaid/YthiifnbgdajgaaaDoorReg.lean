/- Eight registers as a row; parts of a task's row. No condition. -/
import Derived.Test.YthiifnbgdajgaaaDoorTGet
namespace Go.Proofs.YthiifnbgdajgaaaDoor
open Go.RowKit
set_option linter.unusedVariables false
set_option maxRecDepth 100000

/-- Eight registers. -/
def gR (g : Nat → Int) : Array Value := #[.int .i64 (g 0), .int .i64 (g 1), .int .i64 (g 2), .int .i64 (g 3), .int .i64 (g 4), .int .i64 (g 5), .int .i64 (g 6), .int .i64 (g 7)]
theorem gR_size (g : Nat → Int) : (gR g).size = 8 := rfl
theorem gR_one (g : Nat → Int) : (gR g).all (·.oneCell') = true := by simp [gR, Value.oneCell']
theorem gR_at (g : Nat → Int) {k : Nat} (h : k < 8) : (gR g)[k]? = some (.int .i64 (g k)) := by
  match k, h with
  | 0, _ => rfl
  | 1, _ => rfl
  | 2, _ => rfl
  | 3, _ => rfl
  | 4, _ => rfl
  | 5, _ => rfl
  | 6, _ => rfl
  | 7, _ => rfl
def upd (g : Nat → Int) (k : Nat) (v : Int) (j : Nat) : Int := if j = k then v else g j
theorem gR_set (g : Nat → Int) {k : Nat} (h : k < 8) (v : Int) : (gR g).setIfInBounds k (.int .i64 v) = gR (upd g k v) := by
  match k, h with
  | 0, _ => rfl
  | 1, _ => rfl
  | 2, _ => rfl
  | 3, _ => rfl
  | 4, _ => rfl
  | 5, _ => rfl
  | 6, _ => rfl
  | 7, _ => rfl
/-- The six cells of an instruction. -/
def iR (t : T0) (A : Option Addr) (cap : Nat) : Array Value := #[.int .i64 t.op, .int .i64 t.a, .int .i64 t.b, .int .i64 t.c, .slice A t.cs.length cap, .bool t.d]
theorem iR_one (t : T0) (A : Option Addr) (cap : Nat) : (iR t A cap).all (·.oneCell') = true := by simp [iR, Value.oneCell']
/-- A part of a block. -/
theorem Bk.part {w : World} {b T o n : Nat} {u v : Array Value} (h : Bk w b T u) (hv : v.size = n) (he : ∀ j, j < n → u[o + j]? = v[j]?) : w.rangeAt b o v.toList := by
  intro j x hx
  have hj : j < n := by have := (List.getElem?_eq_some_iff.1 hx).1; simp at this; omega
  rw [h.cell, he j hj]; simpa using hx
theorem regs_part {w : World} {b : Nat} {t : T0} {A : Option Addr} {cap : Nat} (h : Bk w b 47 (tW t A cap)) : w.rangeAt b 4 (gR t.rg).toList :=
  h.part (n := 8) rfl fun j hj => by
    match j, hj with
    | 0, _ => rfl
    | 1, _ => rfl
    | 2, _ => rfl
    | 3, _ => rfl
    | 4, _ => rfl
    | 5, _ => rfl
    | 6, _ => rfl
    | 7, _ => rfl
theorem instr_part {w : World} {b : Nat} {t : T0} {A : Option Addr} {cap : Nat} (h : Bk w b 47 (tW t A cap)) : w.rangeAt b 12 (iR t A cap).toList :=
  h.part (n := 6) rfl fun j hj => by
    match j, hj with
    | 0, _ => rfl
    | 1, _ => rfl
    | 2, _ => rfl
    | 3, _ => rfl
    | 4, _ => rfl
    | 5, _ => rfl
theorem fold_regs {t : T0} {A : Option Addr} {cap : Nat} {g : Nat → Int} : ((gR g).toList.foldl (fun (x : Array Value × Nat) v => (x.1.setIfInBounds x.2 v, x.2 + 1)) (tW t A cap, 4)).1 = tW { t with rg := g } A cap := by kernel_rfl
theorem fold_instr {t s : T0} {A A' : Option Addr} {cap cap' : Nat} : ((iR s A' cap').toList.foldl (fun (x : Array Value × Nat) v => (x.1.setIfInBounds x.2 v, x.2 + 1)) (tW t A cap, 12)).1 = tW { t with op := s.op, a := s.a, b := s.b, c := s.c, cs := s.cs, d := s.d } A' cap' := by kernel_rfl
/-- The registers written. -/
theorem put_regs {w : World} {b : Nat} {t : T0} {A : Option Addr} {cap : Nat} (h : Bk w b 47 (tW t A cap)) (g : Nat → Int) : Bk (w.setCells b 4 (gR g).toList) b 47 (tW { t with rg := g } A cap) := by
  have h1 := Bk.sets (w := w) (gR g).toList 4 w _ h
  rwa [fold_regs] at h1
theorem put_instr {w : World} {b : Nat} {t : T0} {A : Option Addr} {cap : Nat} (h : Bk w b 47 (tW t A cap)) (s : T0) (A' : Option Addr) (cap' : Nat) : Bk (w.setCells b 12 (iR s A' cap').toList) b 47 (tW { t with op := s.op, a := s.a, b := s.b, c := s.c, cs := s.cs, d := s.d } A' cap') := by
  have h1 := Bk.sets (w := w) (iR s A' cap').toList 12 w _ h
  rwa [fold_instr] at h1
abbrev yPut (t : T0) (pc : Int) (g : Nat → Int) : T0 := ⟨t.prog, pc, t.st, t.how, g, t.op, t.a, t.b, t.c, t.d, t.cs⟩
abbrev yPark (t s : T0) : T0 := ⟨t.prog, t.pc, 1, t.how, t.rg, s.op, s.a, s.b, s.c, s.d, s.cs⟩
abbrev yWake (t : T0) (g : Nat → Int) : T0 := ⟨t.prog, t.pc + 1, 0, t.how, g, 0, 0, 0, 0, false, []⟩
abbrev yEnd (t : T0) (how : Int) : T0 := ⟨t.prog, t.pc, 2, how, t.rg, 0, 0, 0, 0, false, []⟩
theorem put_pc {w : World} {b : Nat} {t : T0} {A : Option Addr} {cap : Nat} (h : Bk w b 47 (tW t A cap)) (v : Int) : Bk (w.setCell ⟨b, 1, none⟩ (.int .i64 v)) b 47 (tW { t with pc := v } A cap) := h.set 1 _
theorem put_st {w : World} {b : Nat} {t : T0} {A : Option Addr} {cap : Nat} (h : Bk w b 47 (tW t A cap)) (v : Int) : Bk (w.setCell ⟨b, 2, none⟩ (.int .i64 v)) b 47 (tW { t with st := v } A cap) := h.set 2 _
theorem put_how {w : World} {b : Nat} {t : T0} {A : Option Addr} {cap : Nat} (h : Bk w b 47 (tW t A cap)) (v : Int) : Bk (w.setCell ⟨b, 3, none⟩ (.int .i64 v)) b 47 (tW { t with how := v } A cap) := h.set 3 _
/-- The arena's store leaves the rest. -/
theorem set_off {a b T : Nat} {p p' : Option Nat} {w0 w w' : World} {u : Array Value} (ch : Ar.Chg a p p' w w') (h : Bk w b T u) (ha : a < w0.heap.size) (hp : ∀ k, p = some k → k < w0.heap.size) (hb : w0.heap.size ≤ b) : Bk w' b T u :=
  h.keep (ch.block b h.lt (by omega) fun e => by have := hp b e; omega)
theorem tab_off {a b T : Nat} {P : Option Addr} {n c : Nat} {xs : List Value} {p' : Option Nat} {w w' : World} {u : Array Value} (ch : Ar.Chg a (blk P) p' w w') (h : Bk w b T u) (ha : ∃ u f, w.heap[a]? = some (.cells u 76 f)) (hP : w.ownsRow 0 47 18 (.slice P n c) n xs) (h1 : T ≠ 76) (h2 : T ≠ 47) : Bk w' b T u := by
  obtain ⟨u', f', ha⟩ := ha
  refine h.keep (ch.block b h.lt (tag_ne h ha h1) fun e => ?_)
  obtain ⟨cs, fr', hp⟩ := row_tag hP e
  exact tag_ne h hp h2 rfl
end Go.Proofs.YthiifnbgdajgaaaDoor
