/- cut walked, at each of the four places. Conditions: the Queue has the link there.
Push puts one behind, Pop takes the first one. Conditions: each theorem's own premises.
Remove takes a task out. Conditions: the Queue holds ns, not too many. -/
import Derived.Test.YtmadcnpkaijllaaGreatCMemm
namespace Go.Proofs.YtmadcnpkaijllaaGreat.Ch
open Go.RowKit
set_option linter.unusedVariables false
set_option maxRecDepth 100000

section
variable {w : World} {s : Bool} {R : Rs} {q b : Nat} {x : Wt}
theorem cut_one (h : LQ w s q R [(b, x)]) : Calls Tryz.prog 90 #[.pointer (some ⟨q, off s, none⟩), .pointer (some ⟨b, 0, none⟩)] w (CutR s q R b [(b, x)] [] w) := by
  have HE := Lib.hid (CutR.one h)
  have hne := h.ne (b, x) (by simp)
  have hN := h.sg.1
  have n3 := hN.c3
  have n4 := hN.c4
  have q2 : w.cell? ⟨q, off s + 2, none⟩ = some (.int .i64 1) := h.hq.c2
  have q0 := h.hq.c0
  have q1 := h.hq.c1
  have f0 := h.hq.fz (off s)
  have f1 := h.hq.fz (off s + 1)
  have f2 := h.hq.fz (off s + 2)
  simp only [hd, lst, adr_none, adr_some] at n3 n4 q0 q1
  clear h hN
  cases s
  all_goals
   simp only [off, Nat.reduceAdd] at *
   go_enter Tryz.func90, Tryz.ntmps90
   go_wp2
   go_end0
   exact HE.out
theorem cut_first {c : Nat} {z : Wt} {r : Ns} (h : LQ w s q R ((b, x) :: (c, z) :: r)) (hl : r.length ≤ 1000000) : Calls Tryz.prog 90 #[.pointer (some ⟨q, off s, none⟩), .pointer (some ⟨b, 0, none⟩)] w (CutR s q R b (((b, x) :: (c, z) :: r)) ((c, z) :: r) w) := by
  have HE := Lib.hid (CutR.first h)
  have hne := h.ne (b, x) (by simp)
  have hnc := h.ne (c, z) (by simp)
  have hbc := (nodup_mid (l := []) h.nd).2.1 (c, z) (by simp)
  have hN := h.sg.1
  have hC := h.sg.2.1
  have n3 := hN.c3
  have n4 := hN.c4
  have c3 := hC.c3
  have fc := hC.fz 3
  have q2 : w.cell? ⟨q, off s + 2, none⟩ = some (.int .i64 ((r.length : Int) + 1 + 1)) := h.hq.c2
  have q0 := h.hq.c0
  have f0 := h.hq.fz (off s)
  have f2 := h.hq.fz (off s + 2)
  simp only [hd, adr_none, adr_some] at n3 n4 q0 c3 hne hnc hbc
  clear h hN hC
  cases s
  all_goals
   simp only [off, Nat.reduceAdd] at *
   go_enter Tryz.func90, Tryz.ntmps90
   go_wp2_with fail
   go_region
   go_wp2
   go_end0
   exact HE.out.draw rfl rfl rfl rfl
theorem cut_last {a : Nat} {y : Wt} {l : Ns} (h : LQ w s q R (l ++ [(a, y)] ++ [(b, x)])) (hl : l.length ≤ 1000000) : Calls Tryz.prog 90 #[.pointer (some ⟨q, off s, none⟩), .pointer (some ⟨b, 0, none⟩)] w (CutR s q R b (l ++ [(a, y)] ++ [(b, x)]) (l ++ [(a, y)]) w) := by
  have HE := Lib.hid (CutR.last h)
  have hne := h.ne (b, x) (by simp)
  have hna := h.ne (a, y) (by simp)
  have hab := (nodup_mid h.nd).1 (a, y) (by simp)
  obtain ⟨s1, hN, _⟩ := h.mid
  have hA := ((Sg.app _ _ _ _).1 s1).2.1
  rw [lst_snoc] at hN
  have n3 := hN.c3
  have n4 := hN.c4
  have a4 := hA.c4
  have fa := hA.fz 4
  have q2 : w.cell? ⟨q, off s + 2, none⟩ = some (.int .i64 ((l.length : Int) + 1 + 1)) := by have := h.hq.c2; rw [this]; simp; omega
  have q1 := h.hq.c1
  rw [lst_snoc] at q1
  have f1 := h.hq.fz (off s + 1)
  have f2 := h.hq.fz (off s + 2)
  simp only [hd, adr_none, adr_some] at n3 n4 q1 a4 hne hna hab
  clear h hN hA s1
  cases s
  all_goals
   simp only [off, Nat.reduceAdd] at *
   go_enter Tryz.func90, Tryz.ntmps90
   go_wp2_with fail
   go_region
   go_wp2
   go_end0
   exact HE.out.draw rfl rfl rfl rfl
theorem cut_midst {a c : Nat} {y z : Wt} {l r : Ns} (h : LQ w s q R (l ++ [(a, y)] ++ (b, x) :: (c, z) :: r)) (hl : l.length ≤ 1000000) (hr : r.length ≤ 1000000) : Calls Tryz.prog 90 #[.pointer (some ⟨q, off s, none⟩), .pointer (some ⟨b, 0, none⟩)] w (CutR s q R b (l ++ [(a, y)] ++ (b, x) :: (c, z) :: r) (l ++ [(a, y)] ++ (c, z) :: r) w) := by
  have HE := CutR.midst h
  rw [show (((l ++ [(a, y)] ++ (c, z) :: r).length : Nat) : Int) = (l.length : Int) + (r.length : Int) + 2 from by simp; omega] at HE
  replace HE := Lib.hid HE
  have hne := h.ne (b, x) (by simp)
  have hna := h.ne (a, y) (by simp)
  have hnc := h.ne (c, z) (by simp)
  obtain ⟨hL, hR, _, hX⟩ := nodup_mid h.nd
  have hab := hL (a, y) (by simp)
  have hcb := hR (c, z) (by simp)
  have hac := hX (a, y) (by simp) (c, z) (by simp)
  obtain ⟨s1, hN, s2⟩ := h.mid
  have hA := ((Sg.app _ _ _ _).1 s1).2.1
  have hC := s2.1
  rw [lst_snoc] at hN
  have n3 := hN.c3
  have n4 := hN.c4
  have a4 := hA.c4
  have fa := hA.fz 4
  have c3 := hC.c3
  have fc := hC.fz 3
  have q2 : w.cell? ⟨q, off s + 2, none⟩ = some (.int .i64 ((l.length : Int) + (r.length : Int) + 3)) := by
    have := h.hq.c2
    rw [this, show (((l ++ [(a, y)] ++ (b, x) :: (c, z) :: r).length : Nat) : Int) = (l.length : Int) + (r.length : Int) + 3 from by simp; omega]
  have f2 := h.hq.fz (off s + 2)
  simp only [hd, adr_some] at n3 n4 a4 c3 hne hna hab hnc hcb hac
  have k1 : (0 : Int) ≤ (l.length : Int) + (r.length : Int) := by omega
  have k2 : (l.length : Int) + (r.length : Int) ≤ 2000000 := by omega
  have k3 : (l.length : Int) + (r.length : Int) + 3 - 1 = (l.length : Int) + (r.length : Int) + 2 := by omega
  clear h hN hA hC s1 s2 hL hR hX
  cases s
  all_goals
   simp only [off, Nat.reduceAdd] at *
   go_enter Tryz.func90, Tryz.ntmps90
   go_wp2_with fail
   go_region
   go_wp2_with fail
   go_region
   go_wp2
   go_end0
   exact HE.out.draw rfl rfl rfl rfl
end
/-- At any place. -/
theorem snoc_cases (l : Ns) : l = [] ∨ ∃ l0 a y, l = l0 ++ [(a, y)] := by
  rcases l.eq_nil_or_concat with h | ⟨l0, ⟨a, y⟩, h⟩
  · exact .inl h
  · exact .inr ⟨l0, a, y, by rw [h, List.concat_eq_append]⟩
theorem cut_any {w : World} {s : Bool} {R : Rs} {q b : Nat} {x : Wt} {l r : Ns} (h : LQ w s q R (l ++ (b, x) :: r)) (hl : l.length ≤ 1000000) (hr : r.length ≤ 1000000) : Calls Tryz.prog 90 #[.pointer (some ⟨q, off s, none⟩), .pointer (some ⟨b, 0, none⟩)] w (CutR s q R b (l ++ (b, x) :: r) (l ++ r) w) := by
  rcases snoc_cases l with rfl | ⟨l0, a, y, rfl⟩
  · cases r with
    | nil => exact cut_one h
    | cons cz r => exact cut_first h (by simp at hr; omega)
  · cases r with
    | nil => rw [List.append_nil]; exact cut_last h (by simp at hl; omega)
    | cons cz r => exact cut_midst h (by simp at hl; omega) (by simp at hr; omega)
end Go.Proofs.YtmadcnpkaijllaaGreat.Ch
namespace Go.Proofs.YtmadcnpkaijllaaGreat.Ch
open Go.RowKit
set_option linter.unusedVariables false
set_option maxRecDepth 100000

def PushR (s : Bool) (q : Nat) (R : Rs) (ns : Ns) (x : Wt) (w : World) (e : Ending) (w' : World) : Prop := e = .returned (.int .i64 ((ns.length : Int) + 1)) ∧ ∃ b, w.heap.size ≤ b ∧ LQ w' s q R (ns ++ [(b, x)]) ∧ Tn (qF q ns) w w'
theorem PushR.draw {s : Bool} {q : Nat} {R : Rs} {ns : Ns} {x : Wt} {w w' w'' : World} {e : Ending} (h : PushR s q R ns x w e w') (hh : w''.heap = w'.heap) (h1 : w''.os = w'.os) (h2 : w''.tape = w'.tape) (h3 : w''.output = w'.output) : PushR s q R ns x w e w'' := by
  obtain ⟨e, b, h4, h5, h6⟩ := h
  exact ⟨e, b, h4, h5.keep (fun k _ => by rw [hh]), h6.draws hh h1 h2 h3⟩

section
variable {w : World} {s : Bool} {q : Nat} {R : Rs}
/-- With a new link, before it is hung on. -/
theorem two_al (w : World) (o o2 : Obj) : Below w.heap.size w ((w.alloc o).alloc o2) := (below_al w o).alloc (by simp) o2
theorem nd_new (w : World) (o : Obj) (x : Wt) (p : Option Nat) : Nd ((w.alloc o).alloc (.cells #[.int .i64 x.t, .int .i64 x.c, .int .i64 x.v, .pointer (adr p), .pointer none] 157)) (w.heap.size + 1) x p none := by
  have := heap_alloc_new (w.alloc o) (.cells #[.int .i64 x.t, .int .i64 x.c, .int .i64 x.v, .pointer (adr p), .pointer none] 157)
  rw [World.size_alloc] at this
  exact this
theorem PushR.one (h : LQ w s q R []) (o : Obj) (x : Wt) :
    PushR s q R [] x w (.returned (.int .i64 1)) (((((w.alloc o).alloc (.cells #[.int .i64 x.t, .int .i64 x.c, .int .i64 x.v, .pointer (adr none), .pointer none] 157)).setCell ⟨q, off s, none⟩ (.pointer (adr (some (w.heap.size + 1))))).setCell ⟨q, off s + 1, none⟩ (.pointer (adr (some (w.heap.size + 1))))).setCell ⟨q, off s + 2, none⟩ (.int .i64 1)) := by
  have hb := two_al w o (.cells #[.int .i64 x.t, .int .i64 x.c, .int .i64 x.v, .pointer (adr none), .pointer none] 157)
  have hN := nd_new w o x none
  have h2 := h.later hb
  have hq := h.lt.1
  have hne : w.heap.size + 1 ≠ q := by omega
  refine ⟨rfl, w.heap.size + 1, by omega, ⟨?_, ⟨?_, trivial⟩, by simp⟩, ?_⟩
  · exact ((h2.hq.s0 _).s1 _).s2 1
  · exact ((hN.keep (Below.heap_setCell _ _ _ _ hne)).keep (Below.heap_setCell _ _ _ _ hne)).keep (Below.heap_setCell _ _ _ _ hne)
  · exact (((Tn.of_below hb).set (.inl fq) _).set (.inl fq) _).set (.inl fq) _
theorem PushR.more {ns : Ns} {a : Nat} {y : Wt} (h : LQ w s q R (ns ++ [(a, y)])) (o : Obj) (x : Wt) :
    PushR s q R (ns ++ [(a, y)]) x w (.returned (.int .i64 ((ns.length : Int) + 2))) (((((w.alloc o).alloc (.cells #[.int .i64 x.t, .int .i64 x.c, .int .i64 x.v, .pointer (adr (some a)), .pointer none] 157)).setCell ⟨a, 4, none⟩ (.pointer (adr (some (w.heap.size + 1))))).setCell ⟨q, off s + 1, none⟩ (.pointer (adr (some (w.heap.size + 1))))).setCell ⟨q, off s + 2, none⟩ (.int .i64 ((ns.length : Int) + 2))) := by
  have hb := two_al w o (.cells #[.int .i64 x.t, .int .i64 x.c, .int .i64 x.v, .pointer (adr (some a)), .pointer none] 157)
  have hN := nd_new w o x (some a)
  have h2 := h.later hb
  obtain ⟨hq, hs⟩ := h.lt
  have hne : w.heap.size + 1 ≠ q := by omega
  have hna := h.ne (a, y) (by simp)
  have hsa := hs (a, y) (by simp)
  simp only at hna hsa
  have hql : ∀ m ∈ ns ++ [(a, y)], m.1 ≠ q := h.ne
  have e2 : (((ns ++ [(a, y)] ++ [(w.heap.size + 1, x)]).length : Nat) : Int) = (ns.length : Int) + 2 := by simp
  refine ⟨ret_int (by simp; omega), w.heap.size + 1, by omega, ⟨?_, ?_, ?_⟩, ?_⟩
  · have hQ := h2.hq
    rw [hd_app] at hQ
    rw [hd_app, hd_app, lst_snoc]
    have hQ2 := Hd.s2 (Hd.s1 (hQ.keep (Below.heap_setCell _ ⟨a, 4, none⟩ (.pointer (adr (some (w.heap.size + 1)))) _ (by exact fun e => hna e.symm))) (some (w.heap.size + 1))) (ns ++ [(a, y)] ++ [(w.heap.size + 1, x)]).length
    rw [e2] at hQ2
    exact hQ2
  · refine (Sg.app _ _ _ _).2 ⟨?_, ?_, trivial⟩
    · exact Sg.other (Sg.other (Sg.next h2.sg (nodup_last h.nd) (some (w.heap.size + 1))) hql) hql
    · rw [lst_snoc]
      exact ((hN.keep (Below.heap_setCell _ _ _ _ (by show w.heap.size + 1 ≠ a; omega))).keep (Below.heap_setCell _ _ _ _ hne)).keep (Below.heap_setCell _ _ _ _ hne)
  · rw [List.map_append, List.nodup_append]
    refine ⟨h.nd, by simp, fun c hc d hd' => ?_⟩
    obtain ⟨m, hm, rfl⟩ := List.mem_map.1 hc
    simp at hd'; subst hd'
    have := hs m hm
    omega
  · exact (((Tn.of_below hb).set (.inl (fn (m := (a, y)) (by simp))) _).set (.inl fq) _).set (.inl fq) _

theorem push_one (x : Wt) (h : LQ w s q R []) : Calls Tryz.prog 69 #[.pointer (some ⟨q, off s, none⟩), wG x] w (PushR s q R [] x w) := by
  have hq := h.lt.1
  have HE := PushR.one h (.cells #[.int .i64 x.t, .int .i64 x.c, .int .i64 x.v] 87) x
  repeat rw [World.setCell_alloc_past _ _ _ _ (by first | omega | (simp; omega))] at HE
  replace HE := Lib.hid HE
  have q0 := h.hq.c0
  have q1 := h.hq.c1
  have q2 : w.cell? ⟨q, off s + 2, none⟩ = some (.int .i64 0) := h.hq.c2
  have f0 := h.hq.fz (off s)
  have f1 := h.hq.fz (off s + 1)
  have f2 := h.hq.fz (off s + 2)
  simp only [hd, lst, adr_none] at q0 q1
  unfold wG
  clear h
  cases s
  all_goals
    simp only [off, Nat.reduceAdd] at *
    go_enter Tryz.func69, Tryz.ntmps69
    go_wp2_with fail
    go_region
    go_wp2
    go_ret
    exact HE.out.draw rfl rfl rfl rfl
theorem push_more (x : Wt) {ns : Ns} {a : Nat} {y : Wt} (h : LQ w s q R (ns ++ [(a, y)])) (hl : ns.length ≤ 1000000) : Calls Tryz.prog 69 #[.pointer (some ⟨q, off s, none⟩), wG x] w (PushR s q R (ns ++ [(a, y)]) x w) := by
  have hq := h.lt.1
  have ha := h.lt.2 (a, y) (by simp)
  simp only at ha
  have HE := PushR.more h (.cells #[.int .i64 x.t, .int .i64 x.c, .int .i64 x.v] 87) x
  repeat rw [World.setCell_alloc_past _ _ _ _ (by first | omega | (simp; omega))] at HE
  replace HE := Lib.hid HE
  have hna := h.ne (a, y) (by simp)
  have hA := ((Sg.app _ _ _ _).1 h.sg).2.1
  have a4 := hA.c4
  have fa := hA.fz 4
  have q1 := h.hq.c1
  have q2 : w.cell? ⟨q, off s + 2, none⟩ = some (.int .i64 ((ns.length : Int) + 1)) := by have := h.hq.c2; rw [this]; simp
  rw [lst_snoc] at q1
  have f1 := h.hq.fz (off s + 1)
  have f2 := h.hq.fz (off s + 2)
  simp only [hd, adr_none, adr_some] at q1 a4 hna
  have k1 : (ns.length : Int) + 1 + 1 = (ns.length : Int) + 2 := by omega
  unfold wG
  clear h hA
  cases s
  all_goals
    simp only [off, Nat.reduceAdd] at *
    go_enter Tryz.func69, Tryz.ntmps69
    go_wp2_with fail
    go_region
    go_wp2
    go_ret
    exact HE.out.draw rfl rfl rfl rfl
end
theorem push_any {w : World} {s : Bool} {q : Nat} {R : Rs} {ns : Ns} (x : Wt) (h : LQ w s q R ns) (hl : ns.length ≤ 1000000) : Calls Tryz.prog 69 #[.pointer (some ⟨q, off s, none⟩), wG x] w (PushR s q R ns x w) := by
  rcases snoc_cases ns with rfl | ⟨l0, a, y, rfl⟩
  · exact push_one x h
  · exact push_more x h (by simp at hl; omega)

def PopR (s : Bool) (q : Nat) (R : Rs) (ns ns' : Ns) (x : Wt) (b : Bool) (w : World) (e : Ending) (w' : World) : Prop := e = .returned (.tuple #[wG x, .bool b]) ∧ LQ w' s q R ns' ∧ Tn (qF q ns) w w'
theorem LQ.setN {w : World} {s : Bool} {q : Nat} {R : Rs} {ns : Ns} {g i : Nat} (h : LQ w s q R ns) (hg : ¬ qF q ns g) (v : Value) : LQ (w.setCell ⟨g, i, none⟩ v) s q R ns :=
  h.keep fun k hk => Below.heap_setCell _ _ _ _ (by rintro rfl; exact hg hk)
theorem pop_none {w : World} {s : Bool} {q : Nat} {R : Rs} (h : LQ w s q R []) : Calls Tryz.prog 65 #[.pointer (some ⟨q, off s, none⟩)] w (PopR s q R [] [] ⟨0, 0, 0⟩ false w) := by
  have HR := Lib.hid (h.later (below_al w (.cells #[.int .i64 0, .int .i64 0, .int .i64 0] 87)))
  clear h
  go_enter Tryz.func65, Tryz.ntmps65
  go_wp2_with fail
  refine (head_any HR.out).mono ?_
  rintro e w' ⟨rfl, rfl⟩
  simp only [hd, adr_none]
  go_wp2_with fail
  refine bodyPost_ret (v := .tuple #[wG ⟨0, 0, 0⟩, .bool false]) ?_ rfl ⟨rfl, HR.out, Tn.of_below (below_al _ _)⟩
  rw [results_cell_tmp rfl]; go_simp; rfl
theorem pop_some {w : World} {s : Bool} {q : Nat} {R : Rs} {b : Nat} {x : Wt} {r : Ns} (h : LQ w s q R ((b, x) :: r)) (hl : r.length ≤ 1000000) : Calls Tryz.prog 65 #[.pointer (some ⟨q, off s, none⟩)] w (PopR s q R ((b, x) :: r) r x true w) := by
  have HR := Lib.hid (h.later (below_al w (.cells #[.int .i64 0, .int .i64 0, .int .i64 0] 87)))
  have HB := Lib.hid (fun k hk => h.fl (k := k) hk)
  have hbs := h.lt.2 (b, x) (by simp)
  simp only at hbs
  clear h
  go_enter Tryz.func65, Tryz.ntmps65
  go_wp2_with fail
  refine (head_any HR.out).mono ?_
  rintro e w' ⟨rfl, rfl⟩
  simp only [hd, adr_some]
  go_wp2_with fail
  refine (cut_any (l := []) HR.out (by simp) hl).mono ?_
  rintro e w' ⟨rfl, h2, hb, hf⟩
  have hN : Nd w' b x none (hd r none) := Nd.keep HR.out.sg.1 hb
  have c0 := hN.c0
  have c1 := hN.c1
  have c2 := hN.c2
  have hs := hf.size
  have hnf : ¬ qF q ((b, x) :: r) w.heap.size := fun hk => Nat.lt_irrefl _ (HB.out _ hk)
  have hres : w'.heap[w.heap.size]? = some (.cells #[.int .i64 0, .int .i64 0, .int .i64 0] 87 (0, 0)) := (hf.block _ (by simp) hnf).trans (heap_alloc_new _ _)
  have hne : b ≠ w.heap.size := by omega
  have d0 : w'.cell? ⟨w.heap.size, 0, none⟩ = some (.int .i64 0) := by rw [cell_of_row w' _ 0 _ _ _ hres]; rfl
  have d1 : w'.cell? ⟨w.heap.size, 1, none⟩ = some (.int .i64 0) := by rw [cell_of_row w' _ 1 _ _ _ hres]; rfl
  have d2 : w'.cell? ⟨w.heap.size, 2, none⟩ = some (.int .i64 0) := by rw [cell_of_row w' _ 2 _ _ _ hres]; rfl
  have e0 := frozen_of_row w' w.heap.size 0 _ _ hres
  have e1 := frozen_of_row w' w.heap.size 1 _ _ hres
  have e2 := frozen_of_row w' w.heap.size 2 _ _ hres
  have H2 : Hid (LQ w' s q R r) := h2
  have HF : Hid (Tn (qF q ((b, x) :: r)) w w') := hf.early
  have HN : Hid (¬ qF q r w.heap.size) := fun hk => hnf (qF_sub (fun m hm => List.mem_cons_of_mem _ hm) _ hk)
  clear hres hN h2 hb hf hs HR hnf HB
  go_wp2_with fail
  refine bodyPost_ret (v := .tuple #[wG x, .bool true]) ?_ rfl ⟨rfl, ((H2.out.setN HN.out _).setN HN.out _).setN HN.out _, ((HF.out.set (.inr (Nat.le_refl _)) _).set (.inr (Nat.le_refl _)) _).set (.inr (Nat.le_refl _)) _⟩
  rw [results_cell_tmp rfl]; go_simp; rfl
end Go.Proofs.YtmadcnpkaijllaaGreat.Ch
namespace Go.Proofs.YtmadcnpkaijllaaGreat.Ch
open Go.RowKit
set_option linter.unusedVariables false
set_option maxRecDepth 100000

def isT (t : Int) (x : Wt) : Bool := x.t == t
def kp (t : Int) (ns : Ns) : Ns := ns.filter fun m => !isT t m.2
def ct (t : Int) (ns : Ns) : Nat := ns.countP fun m => isT t m.2
def RemR (s : Bool) (q : Nat) (R : Rs) (t : Int) (ns : Ns) (w : World) (e : Ending) (w' : World) : Prop := e = .returned (.int .i64 (ct t ns : Int)) ∧ LQ w' s q R (kp t ns) ∧ Tn (qF q ns) w w'
structure RemS (W : World) (s : Bool) (q : Nat) (R : Rs) (ns : Ns) (t : Int) (pre rest : Ns) (k : Nat) (wr : World) : Prop where
  e : ns = pre ++ rest
  lq : LQ wr s q R (kp t pre ++ rest)
  fr : Tn (qF q ns) W wr
  hk : k = ct t pre
theorem kp_sub (t : Int) (ns : Ns) : ∀ m ∈ kp t ns, m ∈ ns := fun m hm => (List.mem_filter.1 hm).1
theorem RemS.sub {W wr : World} {s : Bool} {q : Nat} {R : Rs} {ns : Ns} {t : Int} {pre rest : Ns} {k : Nat} (h : RemS W s q R ns t pre rest k wr) : ∀ m ∈ kp t pre ++ rest, m ∈ ns := fun m hm => by
  rw [h.e]
  rcases List.mem_append.1 hm with hm | hm
  · exact List.mem_append_left _ (kp_sub t pre m hm)
  · exact List.mem_append_right _ hm
theorem kp_le (t : Int) (ns : Ns) : (kp t ns).length ≤ ns.length := List.length_filter_le _ _
theorem ct_le (t : Int) (ns : Ns) : ct t ns ≤ ns.length := List.countP_le_length
theorem kp_out {t : Int} {x : Wt} (h : isT t x = true) (pre : Ns) (b : Nat) : kp t (pre ++ [(b, x)]) = kp t pre := by simp [kp, List.filter_append, h]
theorem kp_in {t : Int} {x : Wt} (h : isT t x = false) (pre : Ns) (b : Nat) : kp t (pre ++ [(b, x)]) = kp t pre ++ [(b, x)] := by simp [kp, List.filter_append, h]
theorem ct_out {t : Int} {x : Wt} (h : isT t x = true) (pre : Ns) (b : Nat) : ct t (pre ++ [(b, x)]) = ct t pre + 1 := by simp [ct, List.countP_append, h]
theorem ct_in {t : Int} {x : Wt} (h : isT t x = false) (pre : Ns) (b : Nat) : ct t (pre ++ [(b, x)]) = ct t pre := by simp [ct, List.countP_append, h]
theorem kp_map (t : Int) (ns : Ns) : (kp t ns).map (·.2) = (ns.map (·.2)).filter fun x => !isT t x := by simp [kp, List.filter_map]; rfl
theorem ct_map (t : Int) (ns : Ns) : ct t ns = (ns.map (·.2)).countP (isT t) := by simp [ct, List.countP_map]; rfl
end Go.Proofs.YtmadcnpkaijllaaGreat.Ch
