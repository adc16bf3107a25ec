/- Two heaps beside each other; two that hold the same but for turns. No condition. -/
import Derived.Test.YtcfdfepndjkllaaAds
namespace Go.Proofs.Ytcfdfepndjkllaa
open Go.RowKit
set_option linter.unusedVariables false
/-- Two heaps that share no block. -/
structure TW (W : World) (o b n : Nat) (S : List It) (o' b' n' : Nat) (S' : List It) (w : World) : Prop where
  bel : Below W.heap.size W w
  ok : Ok n S
  ok' : Ok n' S'
  hg : ∃ p p', HG W.heap.size w o b p n S ∧ HG W.heap.size w o' b' p' n' S' ∧ o ≠ o' ∧ b ≠ b' ∧ ∀ k, p = some k → p' ≠ some k
section
variable {W w w' : World} {o b n o' b' n' m : Nat} {S S' T : List It} {p q p' : Option Nat} {e : Ending} {v : Value}
theorem HG.off (h : HG W.heap.size w o b p n S) (h' : HG W.heap.size w o' b' p' n' S') : o' ≠ b ∧ b' ≠ o ∧ p ≠ some o' ∧ p ≠ some b' ∧ ∀ k, p' = some k → k ≠ o ∧ k ≠ b := by
  obtain ⟨c1, f1, t1⟩ := h.to
  obtain ⟨c2, f2, t2⟩ := h'.to
  obtain ⟨c3, f3, t3⟩ := h.tb
  obtain ⟨c4, f4, t4⟩ := h'.tb
  refine ⟨fun e => ?_, fun e => ?_, fun e => ?_, fun e => ?_, fun k hk => ⟨fun e => ?_, fun e => ?_⟩⟩
  · rw [e, t3] at t2; cases t2
  · rw [e, t1] at t4; cases t4
  · obtain ⟨c5, f5, t5⟩ := h.tp e
    rw [t2] at t5; injection t5 with t5; injection t5 with _ t5 _; cases t5
  · obtain ⟨c5, f5, t5⟩ := h.tp e
    rw [t4] at t5; cases t5
  · obtain ⟨c5, f5, t5⟩ := h'.tp hk
    rw [e, t1] at t5; injection t5 with t5; injection t5 with _ t5 _; cases t5
  · obtain ⟨c5, f5, t5⟩ := h'.tp hk
    rw [e, t3] at t5; cases t5
theorem TW.swap (h : TW W o b n S o' b' n' S' w) : TW W o' b' n' S' o b n S w := by
  obtain ⟨p, p', h1, h2, h3, h4, h5⟩ := h.hg
  exact ⟨h.bel, h.ok', h.ok, p', p, h2, h1, h3.symm, h4.symm, fun k hk hp => h5 k hp hk⟩
theorem TW.later (h : TW W o b n S o' b' n' S' w) (hb : Below w.heap.size w w') : TW W o b n S o' b' n' S' w' := by
  obtain ⟨p, p', h1, h2, h3⟩ := h.hg
  exact ⟨h.bel.trans (hb.mono h.bel.size), h.ok, h.ok', p, p', h1.later hb, h2.later hb, h3⟩
/-- The first one turns. -/
theorem TW.go (h : TW W o b n S o' b' n' S' w) (ok : Ok m T) (hc : ∀ p, HG W.heap.size w o b p n S → ∃ q, HG W.heap.size w' o b q m T ∧ Chg o b p q w w') : TW W o b m T o' b' n' S' w' := by
  obtain ⟨p, p', h1, h2, h3, h4, h5⟩ := h.hg
  obtain ⟨q, r1, r2⟩ := hc p h1
  obtain ⟨a1, a2, a3, a4, a5⟩ := h1.off h2
  refine ⟨h.bel.trans (h1.below r2 h.bel.size), ok, h.ok', q, p', r1, h2.keep (r2.block _ h2.lo h3.symm a1 a3) (r2.block _ h2.lb a2 h4.symm a4) (fun k hk => r2.block k (h2.lp hk).2 (a5 k hk).1 (a5 k hk).2 fun e => h5 k e hk), h3, h4, fun k hk hk' => ?_⟩
  rcases r2.new with h6 | h6
  · exact h5 k (h6.symm.trans hk) hk'
  · have := h6 k hk; have := (h2.lp hk').2; omega
theorem TW.of (h : ChR W.heap.size o b p m T v w e w') : ∃ q, HG W.heap.size w' o b q m T ∧ Chg o b p q w w' := h.2
theorem tw_new (hb : Below W.heap.size W w) (h : HG W.heap.size w o b p n S) (ok : Ok n S) : Calls Try.prog 10 #[] w fun e w' => e = .returned (.pointer (some ⟨w.heap.size + 1, 0, none⟩)) ∧ TW W o b n S (w.heap.size + 1) w.heap.size 0 [] w' :=
  (new_any w).mono fun _ _ r => ⟨r.1, ⟨hb.trans (r.2.2.mono hb.size), ok, Ok.nil 0, p, none, h.later r.2.2, r.2.1 _ hb.size, by have := h.lo; omega, by have := h.lb; omega, fun k _ e => by cases e⟩⟩
theorem tw_add (k t : Int) (h : TW W o b n S o' b' n' S' w) (hk : Wf k) (hm : k ∉ ids S) (hn : n ≤ 1000000) (hl : S.length < 1000) : Calls Try.prog 11 #[.pointer (some ⟨o, 0, none⟩), .int .i64 k, .int .i64 t] w fun e w' => e = .returned (.int .i64 0) ∧ TW W o b (n + 1) (ins ⟨k, t, (n : Int) + 1⟩ S) o' b' n' S' w' := by
  obtain ⟨p, p', h1, h2, h3, h4, h5⟩ := h.hg
  exact (add_new k t h1 h.ok hk hm hn hl h.bel.size).mono fun _ _ c => ⟨c.1, by
    obtain ⟨a1, a2, a3, a4, a5⟩ := h1.off h2
    obtain ⟨q, r1, r2⟩ := c.2
    refine ⟨h.bel.trans (h1.below r2 h.bel.size), h.ok.ins k t hm, h.ok', q, p', r1, h2.keep (r2.block _ h2.lo h3.symm a1 a3) (r2.block _ h2.lb a2 h4.symm a4) (fun k hk => r2.block k (h2.lp hk).2 (a5 k hk).1 (a5 k hk).2 fun e => h5 k e hk), h3, h4, fun k hk hk' => ?_⟩
    rcases r2.new with h6 | h6
    · exact h5 k (h6.symm.trans hk) hk'
    · have := h6 k hk; have := (h2.lp hk').2; omega⟩
theorem tw_move (k t : Int) (h : TW W o b n S o' b' n' S' w) (hk : Wf k) (hm : k ∈ ids S) (hn : n ≤ 1000000) (hl : S.length ≤ 1000) : Calls Try.prog 16 #[.pointer (some ⟨o, 0, none⟩), .int .i64 k, .int .i64 t] w fun e w' => e = .returned (.int .i64 0) ∧ TW W o b (n + 1) (ins ⟨k, t, (n : Int) + 1⟩ (del k S)) o' b' n' S' w' := by
  obtain ⟨p, p', h1, h2, h3, h4, h5⟩ := h.hg
  exact (move_yes k t h1 h.ok hk hm hn hl).mono fun _ _ c => ⟨c.1, by
    obtain ⟨a1, a2, a3, a4, a5⟩ := h1.off h2
    obtain ⟨q, r1, r2⟩ := c.2
    refine ⟨h.bel.trans (h1.below r2 h.bel.size), (h.ok.del k).ins k t del_ids, h.ok', q, p', r1, h2.keep (r2.block _ h2.lo h3.symm a1 a3) (r2.block _ h2.lb a2 h4.symm a4) (fun k hk => r2.block k (h2.lp hk).2 (a5 k hk).1 (a5 k hk).2 fun e => h5 k e hk), h3, h4, fun k hk hk' => ?_⟩
    rcases r2.new with h6 | h6
    · exact h5 k (h6.symm.trans hk) hk'
    · have := h6 k hk; have := (h2.lp hk').2; omega⟩
theorem TW.st (h : TW W o b n S o' b' n' S' w) : ST W o b n S [] w := by
  obtain ⟨p, p', h1, _⟩ := h.hg
  exact ⟨h.bel, h.ok, p, h1, fun q hq => by cases hq⟩
end
/-! The same but for turns. -/
def Sim (A B : List It) : Prop := A.map (fun x => (x.id, x.w)) = B.map (fun x => (x.id, x.w))
theorem Sim.len {A B : List It} (h : Sim A B) : A.length = B.length := by have := congrArg List.length h; simpa using this
theorem Sim.ids {A B : List It} (h : Sim A B) : ids A = ids B := by
  have := congrArg (List.map Prod.fst) h
  simpa [Ytcfdfepndjkllaa.ids, List.map_map, Function.comp_def] using this
theorem Sim.at {A B : List It} (h : Sim A B) {i : Nat} {x y : It} (hx : A[i]? = some x) (hy : B[i]? = some y) : x.id = y.id ∧ x.w = y.w := by
  have h1 : (A.map (fun x => (x.id, x.w)))[i]? = some (x.id, x.w) := by simp [hx]
  have h2 : (B.map (fun x => (x.id, x.w)))[i]? = some (y.id, y.w) := by simp [hy]
  unfold Sim at h
  rw [h, h2] at h1
  injection h1 with h1; injection h1 with h1 h3
  exact ⟨h1.symm, h3.symm⟩
theorem Sim.ins {x y : It} (e1 : x.id = y.id) (e2 : x.w = y.w) : ∀ {A B : List It}, Sim A B → Sim (ins x A) (ins y B)
  | [], [], _ => by simp [Sim, Ytcfdfepndjkllaa.ins, e1, e2]
  | [], _ :: _, h => by simp [Sim] at h
  | _ :: _, [], h => by simp [Sim] at h
  | a :: A, b :: B, h => by
    have h' : (a.id, a.w) = (b.id, b.w) ∧ Sim A B := by simpa [Sim] using h
    obtain ⟨h1, h2⟩ := h'
    injection h1 with h1 h3
    unfold Ytcfdfepndjkllaa.ins
    by_cases c : x.w < a.w
    · have c' : y.w < b.w := by omega
      rw [if_pos c, if_pos c']
      simp only [Sim, List.map_cons, e1, e2, h1, h3] at h2 ⊢
      rw [h2]
    · have c' : ¬ y.w < b.w := by omega
      rw [if_neg c, if_neg c']
      have := Sim.ins e1 e2 h2
      simp only [Sim, List.map_cons, h1, h3] at this ⊢
      rw [this]
theorem ins_front {x : It} : ∀ {l : List It}, (∀ y ∈ l, x.w < y.w) → ins x l = x :: l
  | [], _ => rfl
  | y :: t, h => by rw [ins, if_pos (h y (by simp))]
theorem del_cons_ne {k : Int} {y : It} {t : List It} (h : y.id ≠ k) : del k (y :: t) = y :: del k t := by simp [del, h]
theorem del_cons_eq {k : Int} {y : It} {t : List It} (h : y.id = k) : del k (y :: t) = del k t := by simp [del, h]
theorem del_ins {k : Int} {x : It} (hx : x.id ≠ k) : ∀ {l : List It}, Srt l → del k (ins x l) = ins x (del k l)
  | [], _ => by simp [ins, del, hx]
  | y :: t, hs => by
    have ht := List.pairwise_cons.1 hs
    rw [ins]
    by_cases c : x.w < y.w
    · rw [if_pos c, del_cons_ne hx]
      refine (ins_front fun z hz => ?_).symm
      rcases List.mem_cons.1 (del_mem.1 hz).1 with rfl | e
      · exact c
      · have := ht.1 z e; unfold It.lt at this; omega
    · rw [if_neg c]
      by_cases e : y.id = k
      · rw [del_cons_eq e, del_cons_eq e, del_ins hx ht.2]
      · rw [del_cons_ne e, del_cons_ne e, del_ins hx ht.2, ins, if_neg c]
theorem del_ins_eq {k : Int} {x : It} (hx : x.id = k) : ∀ {l : List It}, del k (ins x l) = del k l
  | [] => by simp [ins, del, hx]
  | y :: t => by
    rw [ins]
    by_cases c : x.w < y.w
    · rw [if_pos c, del_cons_eq hx]
    · rw [if_neg c]
      by_cases e : y.id = k
      · rw [del_cons_eq e, del_cons_eq e, del_ins_eq hx]
      · rw [del_cons_ne e, del_cons_ne e, del_ins_eq hx]
end Go.Proofs.Ytcfdfepndjkllaa
