/- cut takes a link out: those next to it stand next to each other then. Condition: the Queue has it. -/
import Derived.Test.YtdmdmaolbbjboaaOps
namespace Go.Proofs.Ytdmdmaolbbjboaa
open Go.RowKit
set_option linter.unusedVariables false

def CutR (B q b : Nat) (ns : Ns) (w : World) (e : Ending) (w' : World) : Prop := e = .returned (.tuple #[]) ∧ LQ w' B q ns ∧ w'.heap[b]? = w.heap[b]? ∧ Fr B w w'
theorem CutR.draw {B q b : Nat} {ns : Ns} {w w' w'' : World} {e : Ending} (h : CutR B q b ns w e w') (hh : w''.heap = w'.heap) (h1 : w''.os = w'.os) (h2 : w''.tape = w'.tape) (h3 : w''.output = w'.output) : CutR B q b ns w e w'' :=
  ⟨h.1, h.2.1.keep (fun k _ _ => by rw [hh]), by rw [hh]; exact h.2.2.1, h.2.2.2.trans ⟨h1, h2, h3, by rw [hh]; exact Nat.le_refl _, fun k _ _ => by rw [hh]⟩⟩

theorem nodup_mid {l r : Ns} {b : Nat} {x : Wt} (h : ((l ++ (b, x) :: r).map (·.1)).Nodup) : (∀ m ∈ l, m.1 ≠ b) ∧ (∀ m ∈ r, m.1 ≠ b) ∧ ((l ++ r).map (·.1)).Nodup ∧ (∀ m ∈ l, ∀ k ∈ r, m.1 ≠ k.1) := by
  simp only [List.map_append, List.map_cons, List.nodup_append, List.nodup_cons, List.mem_map, List.mem_cons] at h ⊢
  obtain ⟨h1, ⟨h2, h3⟩, h4⟩ := h
  refine ⟨fun m hm => h4 _ ⟨m, hm, rfl⟩ _ (.inl rfl), fun m hm e => h2 ⟨m, hm, e⟩, ⟨h1, h3, fun a ha c hc => h4 a ha c (.inr hc)⟩, fun m hm k hk => h4 _ ⟨m, hm, rfl⟩ _ (.inr ⟨k, hk, rfl⟩)⟩
theorem lst_snoc (l : Ns) (a : Nat) (y : Wt) (p : Option Nat) : lst (l ++ [(a, y)]) p = some a := by rw [lst_app]; rfl
theorem nodup_last {l : Ns} {a : Nat} {y : Wt} (h : ((l ++ [(a, y)]).map (·.1)).Nodup) : ∀ m ∈ l, m.1 ≠ a := (nodup_mid h).1
theorem nodup_app {l r : Ns} (h : ((l ++ r).map (·.1)).Nodup) : (l.map (·.1)).Nodup ∧ (r.map (·.1)).Nodup := by
  simp only [List.map_append, List.nodup_append] at h; exact ⟨h.1, h.2.1⟩

section
variable {w : World} {B q b : Nat} {x : Wt}
/-- What is known of the midst. -/
theorem LQ.mid {l r : Ns} (h : LQ w B q (l ++ (b, x) :: r)) : Sg w none l (some b) ∧ Nd w b x (lst l none) (hd r none) ∧ Sg w (some b) r none := by
  have := (Sg.app _ _ _ _).1 h.sg
  exact ⟨this.1, this.2.1, this.2.2⟩
theorem LQ.lo' {l r : Ns} (h : LQ w B q (l ++ (b, x) :: r)) : B ≤ q ∧ ∀ m ∈ l ++ r, B ≤ m.1 := ⟨h.lo.1, fun m hm => h.lo.2 m (by rcases List.mem_append.1 hm with hm | hm; exact List.mem_append_left _ hm; exact List.mem_append_right _ (List.mem_cons_of_mem _ hm))⟩
theorem CutR.one (h : LQ w B q [(b, x)]) : CutR B q b [] w (.returned (.tuple #[])) (((w.setCell ⟨q, 0, none⟩ (.pointer (adr none))).setCell ⟨q, 1, none⟩ (.pointer (adr none))).setCell ⟨q, 2, none⟩ (.int .i64 0)) := by
  have hne := h.ne (b, x) (by simp)
  refine ⟨rfl, ⟨(((h.hq.s0 _).s1 _).s2 0), trivial, List.nodup_nil, h.lo.1, fun m hm => by simp at hm⟩, ?_, (((Fr.refl B w).set h.lo.1 h.isq _).set h.lo.1 (isq_set h.isq _ _ _) _).set h.lo.1 (isq_set (isq_set h.isq _ _ _) _ _ _) _⟩
  rw [Below.heap_setCell _ _ _ _ hne, Below.heap_setCell _ _ _ _ hne, Below.heap_setCell _ _ _ _ hne]
theorem CutR.first {c : Nat} {z : Wt} {r : Ns} (h : LQ w B q ((b, x) :: (c, z) :: r)) : CutR B q b ((c, z) :: r) w (.returned (.tuple #[])) (((w.setCell ⟨q, 0, none⟩ (.pointer (adr (some c)))).setCell ⟨c, 3, none⟩ (.pointer (adr none))).setCell ⟨q, 2, none⟩ (.int .i64 ((r.length + 1 : Nat) : Int))) := by
  have hb := h.ne (b, x) (by simp)
  have hc := h.ne (c, z) (by simp)
  obtain ⟨_, hr, hnd, _⟩ := nodup_mid (l := []) h.nd
  have hbc := hr (c, z) (by simp)
  have hcr := (nodup_mid (l := []) hnd).2.1
  have hsg : Sg w (some b) ((c, z) :: r) none := h.sg.2
  have hqr : ∀ m ∈ (c, z) :: r, m.1 ≠ q := fun m hm => h.ne m (List.mem_cons_of_mem _ hm)
  refine ⟨rfl, ⟨?_, ?_, hnd, h.lo.1, fun m hm => h.lo.2 m (List.mem_cons_of_mem _ hm)⟩, ?_, (((Fr.refl B w).set h.lo.1 h.isq _).set (h.lo.2 (c, z) (by simp)) (isq_set (h.isn (c, z) (by simp)) _ _ _) _).set h.lo.1 (isq_set (isq_set h.isq _ _ _) _ _ _) _⟩
  · exact Hd.s2 ((h.hq.s0 (some c)).keep (Below.heap_setCell _ _ _ _ (by exact fun e => hc e.symm))) _
  · exact Sg.other (Sg.prev (Sg.other hsg hqr) hcr none) hqr
  · rw [Below.heap_setCell _ _ _ _ hb, Below.heap_setCell _ _ _ _ (by exact fun e => hbc e.symm), Below.heap_setCell _ _ _ _ hb]
theorem CutR.last {a : Nat} {y : Wt} {l : Ns} (h : LQ w B q (l ++ [(a, y)] ++ [(b, x)])) : CutR B q b (l ++ [(a, y)]) w (.returned (.tuple #[])) (((w.setCell ⟨a, 4, none⟩ (.pointer (adr none))).setCell ⟨q, 1, none⟩ (.pointer (adr (some a)))).setCell ⟨q, 2, none⟩ (.int .i64 ((l.length + 1 : Nat) : Int))) := by
  have hb := h.ne (b, x) (by simp)
  have ha := h.ne (a, y) (by simp)
  obtain ⟨hl, _, hnd, _⟩ := nodup_mid h.nd
  rw [List.append_nil] at hnd
  have hab := hl (a, y) (by simp)
  have hal := nodup_last hnd
  have hsg : Sg w none (l ++ [(a, y)]) (some b) := h.mid.1
  have hql : ∀ m ∈ l ++ [(a, y)], m.1 ≠ q := fun m hm => h.ne m (List.mem_append_left _ hm)
  have hq := h.hq
  rw [hd_app, hd_app] at hq
  refine ⟨rfl, ⟨?_, ?_, hnd, h.lo.1, fun m hm => h.lo.2 m (List.mem_append_left _ hm)⟩, ?_, (((Fr.refl B w).set (h.lo.2 (a, y) (by simp)) (h.isn (a, y) (by simp)) _).set h.lo.1 (isq_set h.isq _ _ _) _).set h.lo.1 (isq_set (isq_set h.isq _ _ _) _ _ _) _⟩
  · rw [lst_snoc, List.length_append, hd_app]
    exact Hd.s2 (Hd.s1 (hq.keep (Below.heap_setCell _ _ _ _ (by exact fun e => ha e.symm))) _) _
  · exact Sg.other (Sg.other (Sg.next hsg hal none) hql) hql
  · rw [Below.heap_setCell _ _ _ _ hb, Below.heap_setCell _ _ _ _ hb, Below.heap_setCell _ _ _ _ (by exact fun e => hab e.symm)]
theorem CutR.midst {a c : Nat} {y z : Wt} {l r : Ns} (h : LQ w B q (l ++ [(a, y)] ++ (b, x) :: (c, z) :: r)) : CutR B q b (l ++ [(a, y)] ++ (c, z) :: r) w (.returned (.tuple #[])) (((w.setCell ⟨a, 4, none⟩ (.pointer (adr (some c)))).setCell ⟨c, 3, none⟩ (.pointer (adr (some a)))).setCell ⟨q, 2, none⟩ (.int .i64 (((l ++ [(a, y)] ++ (c, z) :: r).length : Nat) : Int))) := by
  have hb := h.ne (b, x) (by simp)
  have ha := h.ne (a, y) (by simp)
  have hc := h.ne (c, z) (by simp)
  obtain ⟨hl, hr, hnd, hx⟩ := nodup_mid h.nd
  have hab := hl (a, y) (by simp)
  have hcb := hr (c, z) (by simp)
  have hal := nodup_last (nodup_app hnd).1
  have hcr := (nodup_mid (l := []) (nodup_app hnd).2).2.1
  obtain ⟨s1, _, s2⟩ := h.mid
  have hql : ∀ m ∈ l ++ [(a, y)], m.1 ≠ q := fun m hm => h.ne m (List.mem_append_left _ hm)
  have hqr : ∀ m ∈ (c, z) :: r, m.1 ≠ q := fun m hm => h.ne m (List.mem_append_right _ (List.mem_cons_of_mem _ hm))
  have hq := h.hq
  rw [hd_app, hd_app, lst_app] at hq
  refine ⟨rfl, ⟨?_, ?_, hnd, h.lo'⟩, ?_, (((Fr.refl B w).set (h.lo.2 (a, y) (by simp)) (h.isn (a, y) (by simp)) _).set (h.lo.2 (c, z) (by simp)) (isq_set (h.isn (c, z) (by simp)) _ _ _) _).set h.lo.1 (isq_set (isq_set h.isq _ _ _) _ _ _) _⟩
  · rw [hd_app, hd_app, lst_app]
    exact Hd.s2 ((hq.keep (Below.heap_setCell _ _ _ _ (by exact fun e => ha e.symm))).keep (Below.heap_setCell _ _ _ _ (by exact fun e => hc e.symm))) _
  · refine Sg.other ((Sg.app _ _ _ _).2 ⟨?_, ?_⟩) (fun m hm => ?_)
    · exact Sg.other (Sg.next s1 hal (some c)) (fun m hm => hx m hm (c, z) (by simp))
    · rw [lst_snoc]
      exact Sg.prev (Sg.other s2 (fun m hm e => hx (a, y) (by simp) m hm e.symm)) hcr (some a)
    · rcases List.mem_append.1 hm with hm | hm
      · exact hql m hm
      · exact hqr m hm
  · rw [Below.heap_setCell _ _ _ _ hb, Below.heap_setCell _ _ _ _ (by exact fun e => hcb e.symm), Below.heap_setCell _ _ _ _ (by exact fun e => hab e.symm)]
end
end Go.Proofs.Ytdmdmaolbbjboaa
