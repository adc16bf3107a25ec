/- cut takes a link out: those next to it stand next to each other then. Condition: the Queue has it. -/
import Derived.Test.YtmadcnpkaijllaaCMem
namespace Go.Proofs.Ytmadcnpkaijllaa.Ch
open Go.RowKit
set_option linter.unusedVariables false
set_option maxRecDepth 100000

theorem head_any {w : World} {s : Bool} {q : Nat} {R : Rs} {ns : Ns} (h : LQ w s q R ns) : Calls Try.prog 57 #[.pointer (some ⟨q, off s, none⟩)] w fun e w' => e = .returned (.pointer (adr (hd ns none))) ∧ w = w' := by
  have h0 := h.hq.c0
  clear h
  cases s
  all_goals
    simp only [off] at h0 ⊢
    go_enter Try.func57, Try.ntmps57
    go_wp2
    go_ret
    exact ⟨rfl, rfl⟩
theorem len_any {w : World} {s : Bool} {q : Nat} {R : Rs} {ns : Ns} (h : LQ w s q R ns) : Calls Try.prog 40 #[.pointer (some ⟨q, off s, none⟩)] w fun e w' => e = .returned (.int .i64 ns.length) ∧ w = w' := by
  have h0 := h.hq.c2
  clear h
  cases s
  all_goals
    simp only [off, Nat.reduceAdd] at h0 ⊢
    go_enter Try.func40, Try.ntmps40
    go_wp2
    go_ret
    exact ⟨rfl, rfl⟩

def CutR (s : Bool) (q : Nat) (R : Rs) (b : Nat) (ns ns' : Ns) (w : World) (e : Ending) (w' : World) : Prop := e = .returned (.tuple #[]) ∧ LQ w' s q R ns' ∧ w'.heap[b]? = w.heap[b]? ∧ Tn (qF q ns) w w'
theorem CutR.draw {s : Bool} {q : Nat} {R : Rs} {b : Nat} {ns ns' : Ns} {w w' w'' : World} {e : Ending} (h : CutR s q R b ns ns' w e w') (hh : w''.heap = w'.heap) (h1 : w''.os = w'.os) (h2 : w''.tape = w'.tape) (h3 : w''.output = w'.output) : CutR s q R b ns ns' w e w'' :=
  ⟨h.1, h.2.1.keep (fun k _ => by rw [hh]), by rw [hh]; exact h.2.2.1, h.2.2.2.draws hh h1 h2 h3⟩

theorem nodup_mid {l r : Ns} {b : Nat} {x : Wt} (h : ((l ++ (b, x) :: r).map (·.1)).Nodup) : (∀ m ∈ l, m.1 ≠ b) ∧ (∀ m ∈ r, m.1 ≠ b) ∧ ((l ++ r).map (·.1)).Nodup ∧ (∀ m ∈ l, ∀ k ∈ r, m.1 ≠ k.1) := by
  simp only [List.map_append, List.map_cons, List.nodup_append, List.nodup_cons, List.mem_map, List.mem_cons] at h ⊢
  obtain ⟨h1, ⟨h2, h3⟩, h4⟩ := h
  refine ⟨fun m hm => h4 _ ⟨m, hm, rfl⟩ _ (.inl rfl), fun m hm e => h2 ⟨m, hm, e⟩, ⟨h1, h3, fun a ha c hc => h4 a ha c (.inr hc)⟩, fun m hm k hk => h4 _ ⟨m, hm, rfl⟩ _ (.inr ⟨k, hk, rfl⟩)⟩
theorem lst_snoc (l : Ns) (a : Nat) (y : Wt) (p : Option Nat) : lst (l ++ [(a, y)]) p = some a := by rw [lst_app]; rfl
theorem nodup_last {l : Ns} {a : Nat} {y : Wt} (h : ((l ++ [(a, y)]).map (·.1)).Nodup) : ∀ m ∈ l, m.1 ≠ a := (nodup_mid h).1
theorem nodup_app {l r : Ns} (h : ((l ++ r).map (·.1)).Nodup) : (l.map (·.1)).Nodup ∧ (r.map (·.1)).Nodup := by
  simp only [List.map_append, List.nodup_append] at h; exact ⟨h.1, h.2.1⟩

section
variable {w : World} {s : Bool} {R : Rs} {q b : Nat} {x : Wt}
theorem LQ.mid {l r : Ns} (h : LQ w s q R (l ++ (b, x) :: r)) : Sg w none l (some b) ∧ Nd w b x (lst l none) (hd r none) ∧ Sg w (some b) r none := by
  have := (Sg.app _ _ _ _).1 h.sg
  exact ⟨this.1, this.2.1, this.2.2⟩
theorem fq {ns : Ns} : qF q ns q := .inl rfl
theorem fn {ns : Ns} {m : Nat × Wt} (h : m ∈ ns) : qF q ns m.1 := .inr ⟨m, h, rfl⟩
theorem CutR.one (h : LQ w s q R [(b, x)]) : CutR s q R b [(b, x)] [] w (.returned (.tuple #[])) (((w.setCell ⟨q, off s, none⟩ (.pointer (adr none))).setCell ⟨q, off s + 1, none⟩ (.pointer (adr none))).setCell ⟨q, off s + 2, none⟩ (.int .i64 0)) := by
  have hne := h.ne (b, x) (by simp)
  refine ⟨rfl, ⟨(((h.hq.s0 _).s1 _).s2 0), trivial, List.nodup_nil⟩, ?_, (((Tn.refl _ w).set (.inl fq) _).set (.inl fq) _).set (.inl fq) _⟩
  rw [Below.heap_setCell _ _ _ _ hne, Below.heap_setCell _ _ _ _ hne, Below.heap_setCell _ _ _ _ hne]
theorem CutR.first {c : Nat} {z : Wt} {r : Ns} (h : LQ w s q R ((b, x) :: (c, z) :: r)) : CutR s q R b ((b, x) :: (c, z) :: r) ((c, z) :: r) w (.returned (.tuple #[])) (((w.setCell ⟨q, off s, none⟩ (.pointer (adr (some c)))).setCell ⟨c, 3, none⟩ (.pointer (adr none))).setCell ⟨q, off s + 2, none⟩ (.int .i64 ((r.length + 1 : Nat) : Int))) := by
  have hb := h.ne (b, x) (by simp)
  have hc := h.ne (c, z) (by simp)
  obtain ⟨_, hr, hnd, _⟩ := nodup_mid (l := []) h.nd
  have hbc := hr (c, z) (by simp)
  have hcr := (nodup_mid (l := []) hnd).2.1
  have hsg : Sg w (some b) ((c, z) :: r) none := h.sg.2
  have hqr : ∀ m ∈ (c, z) :: r, m.1 ≠ q := fun m hm => h.ne m (List.mem_cons_of_mem _ hm)
  refine ⟨rfl, ⟨?_, ?_, hnd⟩, ?_, (((Tn.refl _ w).set (.inl fq) _).set (.inl (fn (m := (c, z)) (by simp))) _).set (.inl fq) _⟩
  · exact Hd.s2 ((h.hq.s0 (some c)).keep (Below.heap_setCell _ _ _ _ (by exact fun e => hc e.symm))) _
  · exact Sg.other (Sg.prev (Sg.other hsg hqr) hcr none) hqr
  · rw [Below.heap_setCell _ _ _ _ hb, Below.heap_setCell _ _ _ _ (by exact fun e => hbc e.symm), Below.heap_setCell _ _ _ _ hb]
theorem CutR.last {a : Nat} {y : Wt} {l : Ns} (h : LQ w s q R (l ++ [(a, y)] ++ [(b, x)])) : CutR s q R b (l ++ [(a, y)] ++ [(b, x)]) (l ++ [(a, y)]) w (.returned (.tuple #[])) (((w.setCell ⟨a, 4, none⟩ (.pointer (adr none))).setCell ⟨q, off s + 1, none⟩ (.pointer (adr (some a)))).setCell ⟨q, off s + 2, none⟩ (.int .i64 ((l.length + 1 : Nat) : Int))) := by
  have hb := h.ne (b, x) (by simp)
  have ha := h.ne (a, y) (by simp)
  obtain ⟨hl, _, hnd, _⟩ := nodup_mid h.nd
  rw [List.append_nil] at hnd
  have hab := hl (a, y) (by simp)
  have hal := nodup_last hnd
  have hsg : Sg w none (l ++ [(a, y)]) (some b) := h.mid.1
  have hql : ∀ m ∈ l ++ [(a, y)], m.1 ≠ q := fun m hm => h.ne m (List.mem_append_left _ hm)
  have hq := h.hq
  rw [hd_app, hd_app] at hq
  refine ⟨rfl, ⟨?_, ?_, hnd⟩, ?_, (((Tn.refl _ w).set (.inl (fn (m := (a, y)) (by simp))) _).set (.inl fq) _).set (.inl fq) _⟩
  · rw [lst_snoc, List.length_append, hd_app]
    exact Hd.s2 (Hd.s1 (hq.keep (Below.heap_setCell _ _ _ _ (by exact fun e => ha e.symm))) _) _
  · exact Sg.other (Sg.other (Sg.next hsg hal none) hql) hql
  · rw [Below.heap_setCell _ _ _ _ hb, Below.heap_setCell _ _ _ _ hb, Below.heap_setCell _ _ _ _ (by exact fun e => hab e.symm)]
theorem CutR.midst {a c : Nat} {y z : Wt} {l r : Ns} (h : LQ w s q R (l ++ [(a, y)] ++ (b, x) :: (c, z) :: r)) : CutR s q R b (l ++ [(a, y)] ++ (b, x) :: (c, z) :: r) (l ++ [(a, y)] ++ (c, z) :: r) w (.returned (.tuple #[])) (((w.setCell ⟨a, 4, none⟩ (.pointer (adr (some c)))).setCell ⟨c, 3, none⟩ (.pointer (adr (some a)))).setCell ⟨q, off s + 2, none⟩ (.int .i64 (((l ++ [(a, y)] ++ (c, z) :: r).length : Nat) : Int))) := by
  have hb := h.ne (b, x) (by simp)
  have ha := h.ne (a, y) (by simp)
  have hc := h.ne (c, z) (by simp)
  obtain ⟨hl, hr, hnd, hx⟩ := nodup_mid h.nd
  have hab := hl (a, y) (by simp)
  have hcb := hr (c, z) (by simp)
  have hal := nodup_last (nodup_app hnd).1
  have hcr := (nodup_mid (l := []) (nodup_app hnd).2).2.1
  obtain ⟨s1, _, s2⟩ := h.mid
  have hql : ∀ m ∈ l ++ [(a, y)], m.1 ≠ q := fun m hm => h.ne m (List.mem_append_left _ hm)
  have hqr : ∀ m ∈ (c, z) :: r, m.1 ≠ q := fun m hm => h.ne m (List.mem_append_right _ (List.mem_cons_of_mem _ hm))
  have hq := h.hq
  rw [hd_app, hd_app, lst_app] at hq
  refine ⟨rfl, ⟨?_, ?_, hnd⟩, ?_, (((Tn.refl _ w).set (.inl (fn (m := (a, y)) (by simp))) _).set (.inl (fn (m := (c, z)) (by simp))) _).set (.inl fq) _⟩
  · rw [hd_app, hd_app, lst_app]
    exact Hd.s2 ((hq.keep (Below.heap_setCell _ _ _ _ (by exact fun e => ha e.symm))).keep (Below.heap_setCell _ _ _ _ (by exact fun e => hc e.symm))) _
  · refine Sg.other ((Sg.app _ _ _ _).2 ⟨?_, ?_⟩) (fun m hm => ?_)
    · exact Sg.other (Sg.next s1 hal (some c)) (fun m hm => hx m hm (c, z) (by simp))
    · rw [lst_snoc]
      exact Sg.prev (Sg.other s2 (fun m hm e => hx (a, y) (by simp) m hm e.symm)) hcr (some a)
    · rcases List.mem_append.1 hm with hm | hm
      · exact hql m hm
      · exact hqr m hm
  · rw [Below.heap_setCell _ _ _ _ hb, Below.heap_setCell _ _ _ _ (by exact fun e => hcb e.symm), Below.heap_setCell _ _ _ _ (by exact fun e => hab e.symm)]
end
end Go.Proofs.Ytmadcnpkaijllaa.Ch
