/- One heap since a call began: what each call makes of it. Conditions: each theorem's own premises. -/
import Derived.Test.YtbpoippgioincaaHlp
namespace Go.Proofs.Ytbpoippgioincaa
open Go.RowKit
set_option linter.unusedVariables false
set_option maxRecDepth 100000
/-- No row of another kind has turned. -/
def OT (w w' : World) : Prop := ∀ (k : Nat) (cs : Array Value) (t : TypeId) (fr : Nat × Nat), w.heap[k]? = some (.cells cs t fr) → t ≠ 83 → t ≠ 36 → w'.heap[k]? = some (.cells cs t fr)
theorem OT.refl (w : World) : OT w w := fun _ _ _ _ h _ _ => h
theorem OT.trans {u v w : World} (h : OT u v) (k : OT v w) : OT u w := fun i cs t fr h1 h2 h3 => k i cs t fr (h i cs t fr h1 h2 h3) h2 h3
theorem OT.of_below {w w' : World} (h : Below w.heap.size w w') : OT w w' := fun k cs t fr h1 _ _ => (h.block k (lt_of_blk h1)).trans h1
theorem OT.row {w w' : World} {B e s n c : Nat} {P : Option Addr} {xs : List Value} (h : OT w w') (r : w.ownsRow B e s (.slice P n c) n xs) (h1 : e ≠ 83) (h2 : e ≠ 36) : w'.ownsRow B e s (.slice P n c) n xs :=
  row_keep r fun k hk => by
    obtain ⟨cs, fr, ht⟩ := row_tag r hk
    rw [ht]; exact h k cs e fr ht h1 h2
section
variable {W w w' : World} {B o b n n' : Nat} {p p' : Option Nat} {S S' : List It} {e : Ending} {v : Value} {L : List (Nat × It)}
theorem HG.ot (h : HG B w o b p n S) (hc : Chg o b p p' w w') : OT w w' := fun k cs t fr h1 h2 h3 => by
  rw [hc.block k (lt_of_blk h1) ?_ ?_ ?_]; exact h1
  · rintro rfl
    obtain ⟨cs', fr', h4⟩ := h.to
    rw [h4] at h1; injection h1 with h1; injection h1 with _ h1 _; exact h2 h1.symm
  · rintro rfl
    obtain ⟨es, cl, h4⟩ := h.tb
    rw [h4] at h1; cases h1
  · intro hk
    obtain ⟨cs', fr', h4⟩ := h.tp hk
    rw [h4] at h1; injection h1 with h1; injection h1 with _ h1 _; exact h3 h1.symm
/-- The heap holds S; items lie in blocks of their own. -/
structure ST (W : World) (o b n : Nat) (S : List It) (L : List (Nat × It)) (w : World) : Prop where
  bel : Below W.heap.size W w
  ok : Ok n S
  hg : ∃ p, HG W.heap.size w o b p n S ∧ ∀ q ∈ L, Blk w q.1 q.2 ∧ W.heap.size ≤ q.1 ∧ p ≠ some q.1
/-- What is answered, and what the heap has come to hold. -/
def SR (W : World) (o b n : Nat) (S : List It) (L : List (Nat × It)) (v : Value) (w : World) (e : Ending) (w' : World) : Prop := e = .returned v ∧ ST W o b n S L w' ∧ OT w w'
theorem ST.later (h : ST W o b n S L w) (hb : Below w.heap.size w w') : ST W o b n S L w' := ⟨h.bel.trans (hb.mono h.bel.size), h.ok, by obtain ⟨p, hp, hq⟩ := h.hg; exact ⟨p, hp.later hb, fun q h1 => ⟨(hq q h1).1.later hb, (hq q h1).2⟩⟩⟩
theorem ST.drewN (h : ST W o b n S L w) (q : Nat) : ST W o b n S L (w.drewN q) := h.later (below_drewN w q)
theorem ST.go (h : ST W o b n S L w) (hg : HG W.heap.size w o b p n S) (hq : ∀ q ∈ L, Blk w q.1 q.2 ∧ W.heap.size ≤ q.1 ∧ p ≠ some q.1) (ok : Ok n' S') (c : ChR W.heap.size o b p n' S' v w e w') : SR W o b n' S' L v w e w' := by
  obtain ⟨h1, p', h2, h3⟩ := c
  refine ⟨h1, ⟨h.bel.trans (hg.below h3 h.bel.size), ok, p', h2, fun q hq1 => ?_⟩, hg.ot h3⟩
  obtain ⟨a1, a2, a3⟩ := hq q hq1
  refine ⟨a1.chg h3 ⟨?_, ?_, a3⟩, a2, ?_⟩
  · rintro rfl
    obtain ⟨cs', fr', h4⟩ := hg.to
    unfold Blk at a1
    rw [h4] at a1; injection a1 with a1; injection a1 with _ a1 _; cases a1
  · rintro rfl
    obtain ⟨es, cl, h4⟩ := hg.tb
    unfold Blk at a1
    rw [h4] at a1; cases a1
  · rcases h3.new with h5 | h5
    · rw [h5]; exact a3
    · intro h6; have := h5 _ h6; have := lt_of_blk a1; omega
theorem ST.same (h : ST W o b n S L w) (hr : e = .returned v ∧ Below w.heap.size w w') : SR W o b n S L v w e w' := ⟨hr.1, h.later hr.2, OT.of_below hr.2⟩
theorem ST.hold (h : ST W o b n S L w) (hr : e = .returned v ∧ w = w') : SR W o b n S L v w e w' := by obtain ⟨h1, rfl⟩ := hr; exact ⟨h1, h, OT.refl _⟩
/-- One more item in a block of its own. -/
theorem ST.box (h : ST W o b n S L w) (x : It) : ST W o b n S ((w.heap.size, x) :: L) (w.alloc (.cells #[.int .i64 x.id, .int .i64 x.w, .int .i64 x.s] 36)) := by
  have h1 := h.later (below_al w (.cells #[.int .i64 x.id, .int .i64 x.w, .int .i64 x.s] 36))
  obtain ⟨p0, hp0, _⟩ := h.hg
  obtain ⟨p, hp, hq⟩ := h.hg
  refine ⟨h1.bel, h1.ok, p, hp.later (below_al w _), fun q hq1 => ?_⟩
  rcases List.mem_cons.1 hq1 with rfl | e
  · exact ⟨Blk.new w x, h.bel.size, fun e => by have := (hp.lp e).2; exact absurd this (Nat.lt_irrefl _)⟩
  · exact ⟨(hq q e).1.later (below_al w _), (hq q e).2⟩
theorem ST.sub {L' : List (Nat × It)} (h : ST W o b n S L w) (hs : ∀ q ∈ L', q ∈ L) : ST W o b n S L' w := ⟨h.bel, h.ok, by obtain ⟨p, hp, hq⟩ := h.hg; exact ⟨p, hp, fun q h1 => hq q (hs q h1)⟩⟩
theorem ST.blk {s : Nat} {x : It} (h : ST W o b n S L w) (hq : (s, x) ∈ L) : Blk w s x := by obtain ⟨p, _, h1⟩ := h.hg; exact (h1 _ hq).1
theorem ST.blo {s : Nat} {x : It} (h : ST W o b n S L w) (hq : (s, x) ∈ L) : W.heap.size ≤ s ∧ s < w.heap.size := ⟨by obtain ⟨p, _, h1⟩ := h.hg; exact (h1 _ hq).2.1, lt_of_blk (h.blk hq)⟩
/-- An item in a block of its own is another. -/
theorem ST.put3 {s : Nat} {x : It} (h : ST W o b n S ((s, x) :: L) w) (hn : ∀ q ∈ L, q.1 ≠ s) (y : It) : ST W o b n S ((s, y) :: L) (((w.setCell ⟨s, 0, none⟩ (.int .i64 y.id)).setCell ⟨s, 1, none⟩ (.int .i64 y.w)).setCell ⟨s, 2, none⟩ (.int .i64 y.s)) := by
  obtain ⟨p, hp, hq⟩ := h.hg
  obtain ⟨a1, a2, a3⟩ := hq (s, x) (by simp)
  have ne : o ≠ s ∧ b ≠ s ∧ p ≠ some s := by
    refine ⟨?_, ?_, a3⟩
    · rintro rfl
      obtain ⟨cs', fr', h4⟩ := hp.to
      unfold Blk at a1
      rw [h4] at a1; injection a1 with a1; injection a1 with _ a1 _; cases a1
    · rintro rfl
      obtain ⟨es, cl, h4⟩ := hp.tb
      unfold Blk at a1
      rw [h4] at a1; cases a1
  refine ⟨((h.bel.setCell a2 _).setCell a2 _).setCell a2 _, h.ok, p, ((hp.set ne 0 _).set ne 1 _).set ne 2 _, fun q hq1 => ?_⟩
  rcases List.mem_cons.1 hq1 with rfl | e
  · exact ⟨a1.set3 y, a2, a3⟩
  · obtain ⟨b1, b2, b3⟩ := hq q (by simp [e])
    have hne := hn q e
    exact ⟨((Below.heap_setCell _ _ _ _ (by exact hne)).trans ((Below.heap_setCell _ _ _ _ (by exact hne)).trans (Below.heap_setCell _ _ _ _ (by exact hne)))).trans b1, b2, b3⟩
theorem ot_set3 {s : Nat} {x : It} (h : Blk w s x) (y : It) : OT w (((w.setCell ⟨s, 0, none⟩ (.int .i64 y.id)).setCell ⟨s, 1, none⟩ (.int .i64 y.w)).setCell ⟨s, 2, none⟩ (.int .i64 y.s)) := fun k cs t fr h1 h2 h3 => by
  have hne : k ≠ s := by
    rintro rfl
    unfold Blk at h
    rw [h] at h1; injection h1 with h1; injection h1 with _ h1 _; exact h3 h1.symm
  exact ((Below.heap_setCell _ _ _ _ (by exact hne)).trans ((Below.heap_setCell _ _ _ _ (by exact hne)).trans (Below.heap_setCell _ _ _ _ (by exact hne)))).trans h1
/-- A store into a row of another kind. -/
theorem ST.cell (h : ST W o b n S L w) {s t j : Nat} (hs : W.heap.size ≤ s) {cs : Array Value} {fr : Nat × Nat} (ht : w.heap[s]? = some (.cells cs t fr)) (h1 : t ≠ 83) (h2 : t ≠ 36) (v : Value) : ST W o b n S L (w.setCell ⟨s, j, none⟩ v) := by
  obtain ⟨p, hp, hq⟩ := h.hg
  refine ⟨h.bel.setCell hs _, h.ok, p, hp.keep (Below.heap_setCell _ _ _ _ ?_) (Below.heap_setCell _ _ _ _ ?_) (fun k hk => Below.heap_setCell _ _ _ _ ?_), fun q h1 => ⟨(Below.heap_setCell _ _ _ _ ?_).trans (hq q h1).1, (hq q h1).2⟩⟩
  · intro e
    have e' : o = s := e
    obtain ⟨cs', fr', h4⟩ := hp.to
    rw [e', ht] at h4; injection h4 with h4; injection h4 with _ h4 _; exact h1 h4
  · intro e
    have e' : b = s := e
    obtain ⟨es, cl, h4⟩ := hp.tb
    rw [e', ht] at h4; cases h4
  · intro e
    have e' : k = s := e
    obtain ⟨cs', fr', h4⟩ := hp.tp hk
    rw [e', ht] at h4; injection h4 with h4; injection h4 with _ h4 _; exact h2 h4
  · intro e
    have e' : q.1 = s := e
    have h4 := (hq q h1).1
    unfold Blk at h4
    rw [e', ht] at h4; injection h4 with h4; injection h4 with _ h4 _; exact h2 h4
/-- A row of another kind has grown. -/
theorem ST.grew (h : ST W o b n S L w) {row : Option Nat} (hg : w.grownBy w' row) (hr : ∀ k, row = some k → W.heap.size ≤ k ∧ ∃ cs t fr, w.heap[k]? = some (.cells cs t fr) ∧ t ≠ 83 ∧ t ≠ 36) : ST W o b n S L w' := by
  obtain ⟨p, hp, hq⟩ := h.hg
  have hs := h.bel.size
  refine ⟨⟨hg.os.trans h.bel.os, hg.tape.trans h.bel.tape, hg.output.trans h.bel.output, Nat.le_trans hs hg.size, fun k hk => ?_⟩, h.ok, p, hp.keep ?_ ?_ (fun k hk => ?_), fun q h1 => ⟨(hg.block q.1 (lt_of_blk (hq q h1).1) fun e => ?_).trans (hq q h1).1, (hq q h1).2⟩⟩
  · rw [hg.block k (by omega) fun e => by have := (hr k e.symm).1; omega]
    exact h.bel.block k hk
  · refine hg.block o hp.lo fun e => ?_
    obtain ⟨_, cs, t, fr, h4, h5, _⟩ := hr o e.symm
    obtain ⟨cs', fr', h6⟩ := hp.to
    rw [h6] at h4; injection h4 with h4; injection h4 with _ h4 _; exact h5 h4.symm
  · refine hg.block b hp.lb fun e => ?_
    obtain ⟨_, cs, t, fr, h4, h5, _⟩ := hr b e.symm
    obtain ⟨es, cl, h6⟩ := hp.tb
    rw [h6] at h4; cases h4
  · refine hg.block k (hp.lp hk).2 fun e => ?_
    obtain ⟨_, cs, t, fr, h4, _, h5⟩ := hr k e.symm
    obtain ⟨cs', fr', h6⟩ := hp.tp hk
    rw [h6] at h4; injection h4 with h4; injection h4 with _ h4 _; exact h5 h4.symm
  · obtain ⟨_, cs, t, fr, h4, _, h5⟩ := hr q.1 e.symm
    have h6 := (hq q h1).1
    unfold Blk at h6
    rw [h6] at h4; injection h4 with h4; injection h4 with _ h4 _; exact h5 h4.symm

theorem st_new (hb : Below W.heap.size W w) : Calls Try.prog 11 #[] w fun e w' => e = .returned (.pointer (some ⟨w.heap.size + 1, 0, none⟩)) ∧ ST W (w.heap.size + 1) w.heap.size 0 [] [] w' ∧ Below w.heap.size w w' :=
  (new_any w).mono fun _ _ h => ⟨h.1, ⟨hb.trans (h.2.2.mono hb.size), Ok.nil 0, none, h.2.1 _ hb.size, fun q h => (by cases h)⟩, h.2.2⟩
theorem st_add (k t : Int) (h : ST W o b n S L w) (hk : Wf k) (hm : k ∉ ids S) (hn : n ≤ 1000000) (hl : S.length < 1000) : Calls Try.prog 12 #[.pointer (some ⟨o, 0, none⟩), .int .i64 k, .int .i64 t] w (SR W o b (n + 1) (ins ⟨k, t, (n : Int) + 1⟩ S) L (.int .i64 0) w) := by
  obtain ⟨p, hp, hq⟩ := h.hg
  exact (add_new k t hp h.ok hk hm hn hl h.bel.size).mono fun _ _ c => h.go hp hq (h.ok.ins k t hm) c
theorem st_add_old (k t : Int) (h : ST W o b n S L w) (hk : Wf k) (hm : k ∈ ids S) : Calls Try.prog 12 #[.pointer (some ⟨o, 0, none⟩), .int .i64 k, .int .i64 t] w (SR W o b n S L (.int .i64 1) w) := by
  obtain ⟨p, hp, hq⟩ := h.hg
  exact (add_old k t hp hk hm).mono fun _ _ c => h.hold c
theorem st_move (k t : Int) (h : ST W o b n S L w) (hk : Wf k) (hm : k ∈ ids S) (hn : n ≤ 1000000) (hl : S.length ≤ 1000) : Calls Try.prog 17 #[.pointer (some ⟨o, 0, none⟩), .int .i64 k, .int .i64 t] w (SR W o b (n + 1) (ins ⟨k, t, (n : Int) + 1⟩ (del k S)) L (.int .i64 0) w) := by
  obtain ⟨p, hp, hq⟩ := h.hg
  exact (move_yes k t hp h.ok hk hm hn hl).mono fun _ _ c => h.go hp hq ((h.ok.del k).ins k t del_ids) c
theorem st_move_no (k t : Int) (h : ST W o b n S L w) (hk : Wf k) (hm : k ∉ ids S) : Calls Try.prog 17 #[.pointer (some ⟨o, 0, none⟩), .int .i64 k, .int .i64 t] w (SR W o b n S L (.int .i64 4) w) := by
  obtain ⟨p, hp, hq⟩ := h.hg
  exact (move_no k t hp hk hm).mono fun _ _ c => h.hold c
theorem st_rem {x : It} (h : ST W o b n S L w) (hx : x ∈ S) (hl : S.length ≤ 1000) : Calls Try.prog 14 #[.pointer (some ⟨o, 0, none⟩), .int .i64 x.id] w (SR W o b n (del x.id S) L (.tuple #[vI x, .bool true]) w) := by
  obtain ⟨p, hp, hq⟩ := h.hg
  exact (remove_yes hp h.ok hx hl).mono fun _ _ c => h.go hp hq (h.ok.del x.id) c.chr
theorem st_rem_no {k : Int} (h : ST W o b n S L w) (hk : Wf k) (hm : k ∉ ids S) : Calls Try.prog 14 #[.pointer (some ⟨o, 0, none⟩), .int .i64 k] w (SR W o b n S L (.tuple #[vI zI, .bool false]) w) := by
  obtain ⟨p, hp, hq⟩ := h.hg
  exact (remove_no hp hk hm).mono fun _ _ c => h.same c
theorem st_pop {x : It} (h : ST W o b n (x :: S) L w) (hl : (x :: S).length ≤ 1000) : Calls Try.prog 19 #[.pointer (some ⟨o, 0, none⟩)] w (SR W o b n S L (.tuple #[vI x, .bool true]) w) := by
  obtain ⟨p, hp, hq⟩ := h.hg
  exact (pop_yes hp h.ok hl).mono fun _ _ c => h.go hp hq h.ok.tail.2 c.chr
theorem st_pop_no (h : ST W o b n [] L w) : Calls Try.prog 19 #[.pointer (some ⟨o, 0, none⟩)] w (SR W o b n [] L (.tuple #[vI zI, .bool false]) w) := by
  obtain ⟨p, hp, hq⟩ := h.hg
  exact (pop_no hp).mono fun _ _ c => h.same c
theorem st_min {x : It} (h : ST W o b n (x :: S) L w) (hl : (x :: S).length ≤ 1000) : Calls Try.prog 20 #[.pointer (some ⟨o, 0, none⟩)] w (SR W o b n (x :: S) L (.tuple #[vI x, .bool true]) w) := by
  obtain ⟨p, hp, hq⟩ := h.hg
  exact (gmin_some hp h.ok.srt hl).mono fun _ _ c => h.same c
theorem st_min_no (h : ST W o b n [] L w) : Calls Try.prog 20 #[.pointer (some ⟨o, 0, none⟩)] w (SR W o b n [] L (.tuple #[vI zI, .bool false]) w) := by
  obtain ⟨p, hp, hq⟩ := h.hg
  exact (gmin_none hp).mono fun _ _ c => h.same c
theorem st_find {x : It} (h : ST W o b n S L w) (hx : x ∈ S) (hl : S.length ≤ 1000) : Calls Try.prog 21 #[.pointer (some ⟨o, 0, none⟩), .int .i64 x.id] w (SR W o b n S L (.tuple #[vI x, .bool true]) w) := by
  obtain ⟨p, hp, hq⟩ := h.hg
  exact (gfind_yes hp hx hl).mono fun _ _ c => h.same c
theorem st_find_no {k : Int} (h : ST W o b n S L w) (hk : Wf k) (hm : k ∉ ids S) : Calls Try.prog 21 #[.pointer (some ⟨o, 0, none⟩), .int .i64 k] w (SR W o b n S L (.tuple #[vI zI, .bool false]) w) := by
  obtain ⟨p, hp, hq⟩ := h.hg
  exact (gfind_no hp hk hm).mono fun _ _ c => h.same c
theorem st_len (h : ST W o b n S L w) : Calls Try.prog 23 #[.pointer (some ⟨o, 0, none⟩)] w fun e w' => e = .returned (.int .i64 (S.length : Int)) ∧ w = w' := by
  obtain ⟨p, hp, hq⟩ := h.hg
  exact glen hp
theorem st_rows (h : ST W o b n S L w) (hl : S.length ≤ 1000) : Calls Try.prog 26 #[.pointer (some ⟨o, 0, none⟩)] w fun e w' => ∃ A c l, e = .returned (.slice A S.length c) ∧ Hid (Rt w' A l.length l) ∧ Hid (Hp l) ∧ Hid (l.Perm S) ∧ Below w.heap.size w w' := by
  obtain ⟨p, hp, hq⟩ := h.hg
  exact (rows_any hp hl).mono fun _ _ c => by
    obtain ⟨A, c, l, rfl, r1, r2, r3, r4⟩ := c
    exact ⟨A, c, l, by rw [r3.length_eq], Rt.of_own r1, r2, r3, r4⟩
theorem st_all (h : ST W o b n S L w) (hl : S.length ≤ 1000) : Calls Try.prog 25 #[.pointer (some ⟨o, 0, none⟩)] w (AllR S w) := by
  obtain ⟨p, hp, hq⟩ := h.hg
  exact all_any hp h.ok hl
/-- Rows stand as they should. -/
theorem st_heaped {A : Option Addr} {c : Nat} {l : List It} (h : ST W o b n S L w) (hr : Rt w A l.length l) (hp : Hp l) (e : l.Perm S) (hl : S.length ≤ 1000) : Calls Try.prog 27 #[.slice A S.length c] w (BoolR true w) := by
  rw [← e.length_eq] at hl ⊢
  exact heaped_any hr hp ((e.map It.s).nodup_iff.2 h.ok.one) hl
end
end Go.Proofs.Ytbpoippgioincaa
