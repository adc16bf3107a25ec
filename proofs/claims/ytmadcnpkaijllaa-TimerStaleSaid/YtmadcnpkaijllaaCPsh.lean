/- Push puts one behind, Pop takes the first one. Conditions: each theorem's own premises. -/
import Derived.Test.YtmadcnpkaijllaaCCtW
namespace Go.Proofs.Ytmadcnpkaijllaa.Ch
open Go.RowKit
set_option linter.unusedVariables false
set_option maxRecDepth 100000

def PushR (s : Bool) (q : Nat) (R : Rs) (ns : Ns) (x : Wt) (w : World) (e : Ending) (w' : World) : Prop := e = .returned (.int .i64 ((ns.length : Int) + 1)) ∧ ∃ b, w.heap.size ≤ b ∧ LQ w' s q R (ns ++ [(b, x)]) ∧ Tn (qF q ns) w w'
theorem PushR.draw {s : Bool} {q : Nat} {R : Rs} {ns : Ns} {x : Wt} {w w' w'' : World} {e : Ending} (h : PushR s q R ns x w e w') (hh : w''.heap = w'.heap) (h1 : w''.os = w'.os) (h2 : w''.tape = w'.tape) (h3 : w''.output = w'.output) : PushR s q R ns x w e w'' := by
  obtain ⟨e, b, h4, h5, h6⟩ := h
  exact ⟨e, b, h4, h5.keep (fun k _ => by rw [hh]), h6.draws hh h1 h2 h3⟩

section
variable {w : World} {s : Bool} {q : Nat} {R : Rs}
/-- With a new link, before it is hung on. -/
theorem two_al (w : World) (o o2 : Obj) : Below w.heap.size w ((w.alloc o).alloc o2) := (below_al w o).alloc (by simp) o2
theorem nd_new (w : World) (o : Obj) (x : Wt) (p : Option Nat) : Nd ((w.alloc o).alloc (.cells #[.int .i64 x.t, .int .i64 x.c, .int .i64 x.v, .pointer (adr p), .pointer none] 115)) (w.heap.size + 1) x p none := by
  have := heap_alloc_new (w.alloc o) (.cells #[.int .i64 x.t, .int .i64 x.c, .int .i64 x.v, .pointer (adr p), .pointer none] 115)
  rw [World.size_alloc] at this
  exact this
theorem PushR.one (h : LQ w s q R []) (o : Obj) (x : Wt) :
    PushR s q R [] x w (.returned (.int .i64 1)) (((((w.alloc o).alloc (.cells #[.int .i64 x.t, .int .i64 x.c, .int .i64 x.v, .pointer (adr none), .pointer none] 115)).setCell ⟨q, off s, none⟩ (.pointer (adr (some (w.heap.size + 1))))).setCell ⟨q, off s + 1, none⟩ (.pointer (adr (some (w.heap.size + 1))))).setCell ⟨q, off s + 2, none⟩ (.int .i64 1)) := by
  have hb := two_al w o (.cells #[.int .i64 x.t, .int .i64 x.c, .int .i64 x.v, .pointer (adr none), .pointer none] 115)
  have hN := nd_new w o x none
  have h2 := h.later hb
  have hq := h.lt.1
  have hne : w.heap.size + 1 ≠ q := by omega
  refine ⟨rfl, w.heap.size + 1, by omega, ⟨?_, ⟨?_, trivial⟩, by simp⟩, ?_⟩
  · exact ((h2.hq.s0 _).s1 _).s2 1
  · exact ((hN.keep (Below.heap_setCell _ _ _ _ hne)).keep (Below.heap_setCell _ _ _ _ hne)).keep (Below.heap_setCell _ _ _ _ hne)
  · exact (((Tn.of_below hb).set (.inl fq) _).set (.inl fq) _).set (.inl fq) _
theorem PushR.more {ns : Ns} {a : Nat} {y : Wt} (h : LQ w s q R (ns ++ [(a, y)])) (o : Obj) (x : Wt) :
    PushR s q R (ns ++ [(a, y)]) x w (.returned (.int .i64 ((ns.length : Int) + 2))) (((((w.alloc o).alloc (.cells #[.int .i64 x.t, .int .i64 x.c, .int .i64 x.v, .pointer (adr (some a)), .pointer none] 115)).setCell ⟨a, 4, none⟩ (.pointer (adr (some (w.heap.size + 1))))).setCell ⟨q, off s + 1, none⟩ (.pointer (adr (some (w.heap.size + 1))))).setCell ⟨q, off s + 2, none⟩ (.int .i64 ((ns.length : Int) + 2))) := by
  have hb := two_al w o (.cells #[.int .i64 x.t, .int .i64 x.c, .int .i64 x.v, .pointer (adr (some a)), .pointer none] 115)
  have hN := nd_new w o x (some a)
  have h2 := h.later hb
  obtain ⟨hq, hs⟩ := h.lt
  have hne : w.heap.size + 1 ≠ q := by omega
  have hna := h.ne (a, y) (by simp)
  have hsa := hs (a, y) (by simp)
  simp only at hna hsa
  have hql : ∀ m ∈ ns ++ [(a, y)], m.1 ≠ q := h.ne
  have e2 : (((ns ++ [(a, y)] ++ [(w.heap.size + 1, x)]).length : Nat) : Int) = (ns.length : Int) + 2 := by simp
  refine ⟨ret_int (by simp; omega), w.heap.size + 1, by omega, ⟨?_, ?_, ?_⟩, ?_⟩
  · have hQ := h2.hq
    rw [hd_app] at hQ
    rw [hd_app, hd_app, lst_snoc]
    have hQ2 := Hd.s2 (Hd.s1 (hQ.keep (Below.heap_setCell _ ⟨a, 4, none⟩ (.pointer (adr (some (w.heap.size + 1)))) _ (by exact fun e => hna e.symm))) (some (w.heap.size + 1))) (ns ++ [(a, y)] ++ [(w.heap.size + 1, x)]).length
    rw [e2] at hQ2
    exact hQ2
  · refine (Sg.app _ _ _ _).2 ⟨?_, ?_, trivial⟩
    · exact Sg.other (Sg.other (Sg.next h2.sg (nodup_last h.nd) (some (w.heap.size + 1))) hql) hql
    · rw [lst_snoc]
      exact ((hN.keep (Below.heap_setCell _ _ _ _ (by show w.heap.size + 1 ≠ a; omega))).keep (Below.heap_setCell _ _ _ _ hne)).keep (Below.heap_setCell _ _ _ _ hne)
  · rw [List.map_append, List.nodup_append]
    refine ⟨h.nd, by simp, fun c hc d hd' => ?_⟩
    obtain ⟨m, hm, rfl⟩ := List.mem_map.1 hc
    simp at hd'; subst hd'
    have := hs m hm
    omega
  · exact (((Tn.of_below hb).set (.inl (fn (m := (a, y)) (by simp))) _).set (.inl fq) _).set (.inl fq) _

theorem push_one (x : Wt) (h : LQ w s q R []) : Calls Try.prog 51 #[.pointer (some ⟨q, off s, none⟩), wG x] w (PushR s q R [] x w) := by
  have hq := h.lt.1
  have HE := PushR.one h (.cells #[.int .i64 x.t, .int .i64 x.c, .int .i64 x.v] 60) x
  repeat rw [World.setCell_alloc_past _ _ _ _ (by first | omega | (simp; omega))] at HE
  replace HE := Lib.hid HE
  have q0 := h.hq.c0
  have q1 := h.hq.c1
  have q2 : w.cell? ⟨q, off s + 2, none⟩ = some (.int .i64 0) := h.hq.c2
  have f0 := h.hq.fz (off s)
  have f1 := h.hq.fz (off s + 1)
  have f2 := h.hq.fz (off s + 2)
  simp only [hd, lst, adr_none] at q0 q1
  unfold wG
  clear h
  cases s
  all_goals
    simp only [off, Nat.reduceAdd] at *
    go_enter Try.func51, Try.ntmps51
    go_wp2_with fail
    go_region
    go_wp2
    go_ret
    exact HE.out.draw rfl rfl rfl rfl
theorem push_more (x : Wt) {ns : Ns} {a : Nat} {y : Wt} (h : LQ w s q R (ns ++ [(a, y)])) (hl : ns.length ≤ 1000000) : Calls Try.prog 51 #[.pointer (some ⟨q, off s, none⟩), wG x] w (PushR s q R (ns ++ [(a, y)]) x w) := by
  have hq := h.lt.1
  have ha := h.lt.2 (a, y) (by simp)
  simp only at ha
  have HE := PushR.more h (.cells #[.int .i64 x.t, .int .i64 x.c, .int .i64 x.v] 60) x
  repeat rw [World.setCell_alloc_past _ _ _ _ (by first | omega | (simp; omega))] at HE
  replace HE := Lib.hid HE
  have hna := h.ne (a, y) (by simp)
  have hA := ((Sg.app _ _ _ _).1 h.sg).2.1
  have a4 := hA.c4
  have fa := hA.fz 4
  have q1 := h.hq.c1
  have q2 : w.cell? ⟨q, off s + 2, none⟩ = some (.int .i64 ((ns.length : Int) + 1)) := by have := h.hq.c2; rw [this]; simp
  rw [lst_snoc] at q1
  have f1 := h.hq.fz (off s + 1)
  have f2 := h.hq.fz (off s + 2)
  simp only [hd, adr_none, adr_some] at q1 a4 hna
  have k1 : (ns.length : Int) + 1 + 1 = (ns.length : Int) + 2 := by omega
  unfold wG
  clear h hA
  cases s
  all_goals
    simp only [off, Nat.reduceAdd] at *
    go_enter Try.func51, Try.ntmps51
    go_wp2_with fail
    go_region
    go_wp2
    go_ret
    exact HE.out.draw rfl rfl rfl rfl
end
theorem push_any {w : World} {s : Bool} {q : Nat} {R : Rs} {ns : Ns} (x : Wt) (h : LQ w s q R ns) (hl : ns.length ≤ 1000000) : Calls Try.prog 51 #[.pointer (some ⟨q, off s, none⟩), wG x] w (PushR s q R ns x w) := by
  rcases snoc_cases ns with rfl | ⟨l0, a, y, rfl⟩
  · exact push_one x h
  · exact push_more x h (by simp at hl; omega)

def PopR (s : Bool) (q : Nat) (R : Rs) (ns ns' : Ns) (x : Wt) (b : Bool) (w : World) (e : Ending) (w' : World) : Prop := e = .returned (.tuple #[wG x, .bool b]) ∧ LQ w' s q R ns' ∧ Tn (qF q ns) w w'
theorem LQ.setN {w : World} {s : Bool} {q : Nat} {R : Rs} {ns : Ns} {g i : Nat} (h : LQ w s q R ns) (hg : ¬ qF q ns g) (v : Value) : LQ (w.setCell ⟨g, i, none⟩ v) s q R ns :=
  h.keep fun k hk => Below.heap_setCell _ _ _ _ (by rintro rfl; exact hg hk)
theorem pop_none {w : World} {s : Bool} {q : Nat} {R : Rs} (h : LQ w s q R []) : Calls Try.prog 35 #[.pointer (some ⟨q, off s, none⟩)] w (PopR s q R [] [] ⟨0, 0, 0⟩ false w) := by
  have HR := Lib.hid (h.later (below_al w (.cells #[.int .i64 0, .int .i64 0, .int .i64 0] 60)))
  clear h
  go_enter Try.func35, Try.ntmps35
  go_wp2_with fail
  refine (head_any HR.out).mono ?_
  rintro e w' ⟨rfl, rfl⟩
  simp only [hd, adr_none]
  go_wp2_with fail
  refine bodyPost_ret (v := .tuple #[wG ⟨0, 0, 0⟩, .bool false]) ?_ rfl ⟨rfl, HR.out, Tn.of_below (below_al _ _)⟩
  rw [results_cell_tmp rfl]; go_simp; rfl
theorem pop_some {w : World} {s : Bool} {q : Nat} {R : Rs} {b : Nat} {x : Wt} {r : Ns} (h : LQ w s q R ((b, x) :: r)) (hl : r.length ≤ 1000000) : Calls Try.prog 35 #[.pointer (some ⟨q, off s, none⟩)] w (PopR s q R ((b, x) :: r) r x true w) := by
  have HR := Lib.hid (h.later (below_al w (.cells #[.int .i64 0, .int .i64 0, .int .i64 0] 60)))
  have HB := Lib.hid (fun k hk => h.fl (k := k) hk)
  have hbs := h.lt.2 (b, x) (by simp)
  simp only at hbs
  clear h
  go_enter Try.func35, Try.ntmps35
  go_wp2_with fail
  refine (head_any HR.out).mono ?_
  rintro e w' ⟨rfl, rfl⟩
  simp only [hd, adr_some]
  go_wp2_with fail
  refine (cut_any (l := []) HR.out (by simp) hl).mono ?_
  rintro e w' ⟨rfl, h2, hb, hf⟩
  have hN : Nd w' b x none (hd r none) := Nd.keep HR.out.sg.1 hb
  have c0 := hN.c0
  have c1 := hN.c1
  have c2 := hN.c2
  have hs := hf.size
  have hnf : ¬ qF q ((b, x) :: r) w.heap.size := fun hk => Nat.lt_irrefl _ (HB.out _ hk)
  have hres : w'.heap[w.heap.size]? = some (.cells #[.int .i64 0, .int .i64 0, .int .i64 0] 60 (0, 0)) := (hf.block _ (by simp) hnf).trans (heap_alloc_new _ _)
  have hne : b ≠ w.heap.size := by omega
  have d0 : w'.cell? ⟨w.heap.size, 0, none⟩ = some (.int .i64 0) := by rw [cell_of_row w' _ 0 _ _ _ hres]; rfl
  have d1 : w'.cell? ⟨w.heap.size, 1, none⟩ = some (.int .i64 0) := by rw [cell_of_row w' _ 1 _ _ _ hres]; rfl
  have d2 : w'.cell? ⟨w.heap.size, 2, none⟩ = some (.int .i64 0) := by rw [cell_of_row w' _ 2 _ _ _ hres]; rfl
  have e0 := frozen_of_row w' w.heap.size 0 _ _ hres
  have e1 := frozen_of_row w' w.heap.size 1 _ _ hres
  have e2 := frozen_of_row w' w.heap.size 2 _ _ hres
  have H2 : Hid (LQ w' s q R r) := h2
  have HF : Hid (Tn (qF q ((b, x) :: r)) w w') := hf.early
  have HN : Hid (¬ qF q r w.heap.size) := fun hk => hnf (qF_sub (fun m hm => List.mem_cons_of_mem _ hm) _ hk)
  clear hres hN h2 hb hf hs HR hnf HB
  go_wp2_with fail
  refine bodyPost_ret (v := .tuple #[wG x, .bool true]) ?_ rfl ⟨rfl, ((H2.out.setN HN.out _).setN HN.out _).setN HN.out _, ((HF.out.set (.inr (Nat.le_refl _)) _).set (.inr (Nat.le_refl _)) _).set (.inr (Nat.le_refl _)) _⟩
  rw [results_cell_tmp rfl]; go_simp; rfl
end Go.Proofs.Ytmadcnpkaijllaa.Ch
