/- Push puts one behind, Pop takes the first one. Conditions: each theorem's own premises. -/
import Derived.Test.YtdmdmaolbbjboaaCtW
import Derived.Laws.ResultCell
namespace Go.Proofs.Ytdmdmaolbbjboaa
open Go.RowKit
set_option linter.unusedVariables false

def PushR (B q : Nat) (l : List Wt) (w : World) (e : Ending) (w' : World) : Prop := e = .returned (.int .i64 l.length) ∧ QL w' B q l ∧ Fr B w w'
theorem PushR.draw {B q : Nat} {l : List Wt} {w w' w'' : World} {e : Ending} (h : PushR B q l w e w') (hh : w''.heap = w'.heap) (h1 : w''.os = w'.os) (h2 : w''.tape = w'.tape) (h3 : w''.output = w'.output) : PushR B q l w e w'' :=
  ⟨h.1, h.2.1.keep (fun k _ _ => by rw [hh]), h.2.2.trans ⟨h1, h2, h3, by rw [hh]; exact Nat.le_refl _, fun k _ _ => by rw [hh]⟩⟩

section
variable {w : World} {B q : Nat}
/-- With a new link, before it is hung on. -/
theorem two_al (w : World) (o o2 : Obj) : Below w.heap.size w ((w.alloc o).alloc o2) := (below_al w o).alloc (by simp) o2
theorem nd_new (w : World) (o : Obj) (x : Wt) (p : Option Nat) : Nd ((w.alloc o).alloc (.cells #[.int .i64 x.t, .int .i64 x.c, .int .i64 x.v, .pointer (adr p), .pointer none] 50)) (w.heap.size + 1) x p none := by
  have := heap_alloc_new (w.alloc o) (.cells #[.int .i64 x.t, .int .i64 x.c, .int .i64 x.v, .pointer (adr p), .pointer none] 50)
  rw [World.size_alloc] at this
  exact this
theorem LQ.small {ns : Ns} (h : LQ w B q ns) : q < w.heap.size ∧ ∀ m ∈ ns, m.1 < w.heap.size := ⟨isq_lt h.isq, fun m hm => isq_lt (h.isn m hm)⟩
theorem PushR.one (h : LQ w B q []) (o : Obj) (x : Wt) :
    PushR B q [x] w (.returned (.int .i64 1)) (((((w.alloc o).alloc (.cells #[.int .i64 x.t, .int .i64 x.c, .int .i64 x.v, .pointer (adr none), .pointer none] 50)).setCell ⟨q, 0, none⟩ (.pointer (adr (some (w.heap.size + 1))))).setCell ⟨q, 1, none⟩ (.pointer (adr (some (w.heap.size + 1))))).setCell ⟨q, 2, none⟩ (.int .i64 1)) := by
  have hb := two_al w o (.cells #[.int .i64 x.t, .int .i64 x.c, .int .i64 x.v, .pointer (adr none), .pointer none] 50)
  have hN := nd_new w o x none
  have h2 := h.later hb
  have hq := h.small.1
  have hne : w.heap.size + 1 ≠ q := by omega
  refine ⟨rfl, ⟨[(w.heap.size + 1, x)], ⟨?_, ⟨?_, trivial⟩, by simp, h.lo.1, fun m hm => ?_⟩, rfl⟩, ?_⟩
  · exact ((h2.hq.s0 _).s1 _).s2 1
  · exact ((hN.keep (Below.heap_setCell _ _ _ _ hne)).keep (Below.heap_setCell _ _ _ _ hne)).keep (Below.heap_setCell _ _ _ _ hne)
  · simp at hm; subst hm; have := h.lt; simp only; omega
  · exact ((((Fr.of_below hb).set h.lo.1 h2.isq _).set h.lo.1 (isq_set h2.isq _ _ _) _).set h.lo.1 (isq_set (isq_set h2.isq _ _ _) _ _ _) _)
theorem PushR.more {ns : Ns} {a : Nat} {y : Wt} (h : LQ w B q (ns ++ [(a, y)])) (o : Obj) (x : Wt) :
    PushR B q ((ns ++ [(a, y)]).map (·.2) ++ [x]) w (.returned (.int .i64 ((ns.length : Int) + 2))) (((((w.alloc o).alloc (.cells #[.int .i64 x.t, .int .i64 x.c, .int .i64 x.v, .pointer (adr (some a)), .pointer none] 50)).setCell ⟨a, 4, none⟩ (.pointer (adr (some (w.heap.size + 1))))).setCell ⟨q, 1, none⟩ (.pointer (adr (some (w.heap.size + 1))))).setCell ⟨q, 2, none⟩ (.int .i64 ((ns.length : Int) + 2))) := by
  have hb := two_al w o (.cells #[.int .i64 x.t, .int .i64 x.c, .int .i64 x.v, .pointer (adr (some a)), .pointer none] 50)
  have hN := nd_new w o x (some a)
  have h2 := h.later hb
  obtain ⟨hq, hs⟩ := h.small
  have hne : w.heap.size + 1 ≠ q := by omega
  have hna := h.ne (a, y) (by simp)
  have hsa := hs (a, y) (by simp)
  simp only at hna hsa
  have hql : ∀ m ∈ ns ++ [(a, y)], m.1 ≠ q := h.ne
  have e2 : (((ns ++ [(a, y)] ++ [(w.heap.size + 1, x)]).length : Nat) : Int) = (ns.length : Int) + 2 := by simp
  refine ⟨ret_int (by simp), ⟨ns ++ [(a, y)] ++ [(w.heap.size + 1, x)], ⟨?_, ?_, ?_, h.lo.1, fun m hm => ?_⟩, by simp⟩, ?_⟩
  · have hQ := h2.hq
    rw [hd_app] at hQ
    rw [hd_app, hd_app, lst_snoc]
    have hQ2 := Hd.s2 (Hd.s1 (hQ.keep (Below.heap_setCell _ ⟨a, 4, none⟩ (.pointer (adr (some (w.heap.size + 1)))) _ (by exact fun e => hna e.symm))) (some (w.heap.size + 1))) (ns ++ [(a, y)] ++ [(w.heap.size + 1, x)]).length
    rw [e2] at hQ2
    exact hQ2
  · refine (Sg.app _ _ _ _).2 ⟨?_, ?_, trivial⟩
    · exact Sg.other (Sg.other (Sg.next h2.sg (nodup_last h.nd) (some (w.heap.size + 1))) hql) hql
    · rw [lst_snoc]
      exact ((hN.keep (Below.heap_setCell _ _ _ _ (by show w.heap.size + 1 ≠ a; omega))).keep (Below.heap_setCell _ _ _ _ hne)).keep (Below.heap_setCell _ _ _ _ hne)
  · rw [List.map_append, List.nodup_append]
    refine ⟨h.nd, by simp, fun c hc d hd' => ?_⟩
    obtain ⟨m, hm, rfl⟩ := List.mem_map.1 hc
    simp at hd'; subst hd'
    have := hs m hm
    omega
  · rcases List.mem_append.1 hm with hm | hm
    · exact h.lo.2 m hm
    · simp at hm; subst hm; have := h.lt; simp only; omega
  · exact (((Fr.of_below hb).set (h.lo.2 (a, y) (by simp)) (h2.isn (a, y) (by simp)) _).set h.lo.1 (isq_set h2.isq _ _ _) _).set h.lo.1 (isq_set (isq_set h2.isq _ _ _) _ _ _) _

theorem push_one (x : Wt) (h : LQ w B q []) : Calls Try.prog 8 #[.pointer (some ⟨q, 0, none⟩), wG x] w (PushR B q [x] w) := by
  have hq := h.small.1
  have HE := PushR.one h (.cells #[.int .i64 x.t, .int .i64 x.c, .int .i64 x.v] 28) x
  repeat rw [World.setCell_alloc_past _ _ _ _ (by first | omega | (simp; omega))] at HE
  replace HE := Lib.hid HE
  have q0 := h.hq.c0
  have q1 := h.hq.c1
  have q2 : w.cell? ⟨q, 2, none⟩ = some (.int .i64 0) := h.hq.c2
  have f0 := h.hq.fz 0
  have f1 := h.hq.fz 1
  have f2 := h.hq.fz 2
  simp only [hd, lst, adr_none] at q0 q1
  unfold wG
  clear h
  go_enter Try.func8, Try.ntmps8
  go_wp2_with fail
  go_region
  go_wp2
  go_ret
  exact HE.out.draw rfl rfl rfl rfl
theorem push_more (x : Wt) {ns : Ns} {a : Nat} {y : Wt} (h : LQ w B q (ns ++ [(a, y)])) (hl : ns.length ≤ 1000000) : Calls Try.prog 8 #[.pointer (some ⟨q, 0, none⟩), wG x] w (PushR B q ((ns ++ [(a, y)]).map (·.2) ++ [x]) w) := by
  have hq := h.small.1
  have ha := h.small.2 (a, y) (by simp)
  simp only at ha
  have HE := PushR.more h (.cells #[.int .i64 x.t, .int .i64 x.c, .int .i64 x.v] 28) x
  repeat rw [World.setCell_alloc_past _ _ _ _ (by first | omega | (simp; omega))] at HE
  replace HE := Lib.hid HE
  have hna := h.ne (a, y) (by simp)
  have hA := ((Sg.app _ _ _ _).1 h.sg).2.1
  have a4 := hA.c4
  have fa := hA.fz 4
  have q1 := h.hq.c1
  have q2 : w.cell? ⟨q, 2, none⟩ = some (.int .i64 ((ns.length : Int) + 1)) := by have := h.hq.c2; rw [this]; simp
  rw [lst_snoc] at q1
  have f1 := h.hq.fz 1
  have f2 := h.hq.fz 2
  simp only [hd, adr_none, adr_some] at q1 a4 hna
  have k1 : (ns.length : Int) + 1 + 1 = (ns.length : Int) + 2 := by omega
  unfold wG
  clear h hA
  go_enter Try.func8, Try.ntmps8
  go_wp2_with fail
  go_region
  go_wp2
  go_ret
  exact HE.out.draw rfl rfl rfl rfl
end
theorem push_any {w : World} {B q : Nat} {l : List Wt} (x : Wt) (h : QL w B q l) (hl : l.length ≤ 1000000) : Calls Try.prog 8 #[.pointer (some ⟨q, 0, none⟩), wG x] w (PushR B q (l ++ [x]) w) := by
  obtain ⟨ns, h, rfl⟩ := h
  rcases snoc_cases ns with rfl | ⟨l0, a, y, rfl⟩
  · exact push_one x h
  · exact push_more x h (by simp at hl; omega)

def PopR (B q : Nat) (l : List Wt) (x : Wt) (b : Bool) (w : World) (e : Ending) (w' : World) : Prop := e = .returned (.tuple #[wG x, .bool b]) ∧ QL w' B q l ∧ Fr B w w'
end Go.Proofs.Ytdmdmaolbbjboaa
