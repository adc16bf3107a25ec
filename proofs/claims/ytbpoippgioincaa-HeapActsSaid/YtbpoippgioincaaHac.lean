/- Items compared; a heap, the document's heap and an act beside each other. Conditions: each theorem's own premises. -/
import Derived.Test.YtbpoippgioincaaRrm
namespace Go.Proofs.Ytbpoippgioincaa
open Go.RowKit
set_option linter.unusedVariables false
set_option maxRecDepth 100000
/-- item: as the document's. -/
theorem item_any (x : It) (w : World) : Calls Try.prog 16 #[vI x] w fun e w' => e = .returned (vI x) ∧ Below w.heap.size w w' := by
  go_enter Try.func16, Try.ntmps16
  go_wp2_with fail
  refine bodyPost_ret (v := vI x) ?_ rfl ⟨rfl, ?_⟩
  · rw [results_cell_row rfl _ _ (w.heap.size + 1) 39 #[.int .i64 x.id, .int .i64 x.w, .int .i64 x.s] (0, 0) _ rfl (heap_w3 w _ _) Try.underlying39 rfl (by kernel_rfl)]
  · exact al2 w _ _
section
variable {W w w' : World} {o b n m n2 N c c2 : Nat} {S S2 : List It} {L L' : List (Nat × It)} {kd id wh : Int} {e : Ending} {v : Value} {A A2 : Option Addr} {l : List It}
theorem ST.km (h : ST W o b n S L w) (hk : Km m w w') (hm : ∃ cs, w.heap[m]? = some (.cells cs 29 (0, 0))) (hB : W.heap.size ≤ m) : ST W o b n S L w' := by
  obtain ⟨p, hp, hq⟩ := h.hg
  obtain ⟨cs, hm⟩ := hm
  have ne : ∀ k, w.heap[k]? ≠ some (.cells cs 29 (0, 0)) → k ≠ m := fun k h1 e => h1 (by rw [e]; exact hm)
  have ho : o ≠ m := ne o fun e => by
    obtain ⟨cs', fr', h4⟩ := hp.to
    rw [h4] at e; injection e with e; injection e with _ e _; cases e
  have hb : b ≠ m := ne b fun e => by
    obtain ⟨es, cl, h4⟩ := hp.tb
    rw [h4] at e; cases e
  have hpp : ∀ k, p = some k → k ≠ m := fun k hk => ne k fun e => by
    obtain ⟨cs', fr', h4⟩ := hp.tp hk
    rw [h4] at e; injection e with e; injection e with _ e _; cases e
  have hq1 : ∀ q ∈ L, q.1 ≠ m := fun q h1 => ne q.1 fun e => by
    have h4 := (hq q h1).1
    unfold Blk at h4
    rw [h4] at e; injection e with e; injection e with _ e _; cases e
  exact ⟨h.bel.trans (hk.below hB h.bel.size), h.ok, p, hp.keep (hk.block o hp.lo ho) (hk.block b hp.lb hb) (fun k h1 => hk.block k (hp.lp h1).2 (hpp k h1)), fun q h1 => ⟨(hk.block q.1 (lt_of_blk (hq q h1).1) (hq1 q h1)).trans (hq q h1).1, (hq q h1).2⟩⟩
/-- A heap, the document's, an act. -/
structure AS (W : World) (o b n : Nat) (S : List It) (L : List (Nat × It)) (m n2 : Nat) (S2 : List It) (N : Nat) (kd id wh : Int) (w : World) : Prop where
  st : ST W o b n S L w
  mh : MH W.heap.size w m n2 S2
  ab : w.heap[N]? = some (.cells #[.int .i64 kd, .int .i64 id, .int .i64 wh] 31 (0, 0))
theorem AS.later (h : AS W o b n S L m n2 S2 N kd id wh w) (hb : Below w.heap.size w w') : AS W o b n S L m n2 S2 N kd id wh w' := ⟨h.st.later hb, h.mh.later hb, (hb.block N (lt_of_blk h.ab)).trans h.ab⟩
theorem AS.go {n' : Nat} {S' : List It} (h : AS W o b n S L m n2 S2 N kd id wh w) (r : SR W o b n' S' L v w e w') : AS W o b n' S' L m n2 S2 N kd id wh w' := ⟨r.2.1, h.mh.ot r.2.2, r.2.2 N _ 31 (0, 0) h.ab (by decide) (by decide)⟩
theorem AS.ref {n' : Nat} {S' : List It} (h : AS W o b n S L m n2 S2 N kd id wh w) (r : MR W.heap.size m n' S' v w e w') : AS W o b n S L m n' S' N kd id wh w' :=
  ⟨h.st.km r.2.2 h.mh.hb h.mh.lo, r.2.1, (r.2.2.block N (lt_of_blk h.ab) (fun e => by
    obtain ⟨cs, h4⟩ := h.mh.hb
    have h5 := h.ab
    rw [e, h4] at h5; injection h5 with h5; injection h5 with _ h5 _; cases h5)).trans h.ab⟩
theorem AS.box (h : AS W o b n S L m n2 S2 N kd id wh w) (x : It) : AS W o b n S ((w.heap.size, x) :: L) m n2 S2 N kd id wh (w.alloc (.cells #[.int .i64 x.id, .int .i64 x.w, .int .i64 x.s] 36)) :=
  ⟨h.st.box x, h.mh.later (below_al _ _), ((below_al w _).block N (lt_of_blk h.ab)).trans h.ab⟩
theorem AS.sub (h : AS W o b n S L m n2 S2 N kd id wh w) (hs : ∀ q ∈ L', q ∈ L) : AS W o b n S L' m n2 S2 N kd id wh w := ⟨h.st.sub hs, h.mh, h.ab⟩
theorem AS.hB (h : AS W o b n S L m n2 S2 N kd id wh w) : W.heap.size ≤ w.heap.size := h.st.bel.size
theorem AS.cells (h : AS W o b n S L m n2 S2 N kd id wh w) : w.cell? ⟨N, 0, none⟩ = some (.int .i64 kd) ∧ w.cell? ⟨N, 1, none⟩ = some (.int .i64 id) ∧ w.cell? ⟨N, 2, none⟩ = some (.int .i64 wh) :=
  ⟨by rw [cell_of_row w N 0 _ _ _ h.ab]; rfl, by rw [cell_of_row w N 1 _ _ _ h.ab]; rfl, by rw [cell_of_row w N 2 _ _ _ h.ab]; rfl⟩
theorem AS.c12 (h : AS W o b n S L m n2 S2 N kd id wh w) : w.cell? ⟨N, 1, none⟩ = some (.int .i64 id) ∧ w.cell? ⟨N, 2, none⟩ = some (.int .i64 wh) := h.cells.2
theorem below_drew (w : World) : Below w.heap.size w w.drew := (Below.refl _ _).drew
set_option maxHeartbeats 4000000 in
/-- same: both rows read alike. -/
theorem same_any (h1 : Rt w A l.length l) (h2 : RdI w A2 l.length l) (hl : l.length ≤ 1000) : Calls Try.prog 24 #[.slice A l.length c, .slice A2 l.length c2] w (BoolR true w) := by
  have H1 := Lib.hid h1
  have H2 := Lib.hid h2
  clear h1 h2
  go_enter Try.func24, Try.ntmps24
  go_wp2_with fail
  go_loopw [5] (fun i wr => ∃ j : Nat, j ≤ l.length ∧ i = .int .i64 j ∧ Hid (Below w.heap.size w wr)) (fun i _ => l.length - (intOf i).toNat)
  case atStart => exact ⟨0, by omega, rfl, Below.refl _ _⟩
  case round =>
    obtain ⟨j, hj, rfl, HB⟩ := hrel
    by_cases hlt : j < l.length
    · obtain ⟨x, hx⟩ := ex_at hlt
      have R1 := H1.out.later HB.out
      have R2 := H2.out.later HB.out
      obtain ⟨g1, o1, rfl, hg1, hc1⟩ := R1.at (by omega)
      obtain ⟨g2, o2, rfl, hg2, hc2⟩ := R2.cells (by omega)
      obtain ⟨x0, x1, x2⟩ := hc1 j x hx
      obtain ⟨y0, y1, y2⟩ := hc2 j x hx
      have k1 : (j : Int) < (l.length : Int) := by omega
      have b1 : IntKind.i64.wrap ((j : Int) + 1) = (j : Int) + 1 := by rw [IntKind.wrap_i64]; omega
      have KP : Hid (∀ w', Below wr.heap.size wr w' → w'.cell? ⟨g1, o1 + j * 3, none⟩ = some (.int .i64 x.id) ∧ w'.cell? ⟨g1, o1 + j * 3 + 1, none⟩ = some (.int .i64 x.w) ∧ w'.cell? ⟨g1, o1 + j * 3 + 2, none⟩ = some (.int .i64 x.s) ∧ w'.cell? ⟨g2, o2 + j * 3, none⟩ = some (.int .i64 x.id) ∧ w'.cell? ⟨g2, o2 + j * 3 + 1, none⟩ = some (.int .i64 x.w) ∧ w'.cell? ⟨g2, o2 + j * 3 + 2, none⟩ = some (.int .i64 x.s)) := fun w' hb =>
        ⟨(cell_blk (hb.block g1 hg1) _).trans x0, (cell_blk (hb.block g1 hg1) _).trans x1, (cell_blk (hb.block g1 hg1) _).trans x2, (cell_blk (hb.block g2 hg2) _).trans y0, (cell_blk (hb.block g2 hg2) _).trans y1, (cell_blk (hb.block g2 hg2) _).trans y2⟩
      clear hc1 hc2 hx x0 x1 x2 y0 y1 y2 R1 R2
      go_wp2_with fail
      refine but_start 1000 (fun w' => w'.cell? ⟨g1, o1 + j * 3, none⟩ = some (.int .i64 x.id) ∧ w'.cell? ⟨g1, o1 + j * 3 + 1, none⟩ = some (.int .i64 x.w) ∧ w'.cell? ⟨g1, o1 + j * 3 + 2, none⟩ = some (.int .i64 x.s) ∧ w'.cell? ⟨g2, o2 + j * 3, none⟩ = some (.int .i64 x.id) ∧ w'.cell? ⟨g2, o2 + j * 3 + 1, none⟩ = some (.int .i64 x.w) ∧ w'.cell? ⟨g2, o2 + j * 3 + 2, none⟩ = some (.int .i64 x.s)) (by kernel_rfl) ?_
      have hHeld := KP.out wr.drew (below_drew wr)
      change AnyBut _ _ _ _ _ _ 10 _ _ _
      refine but_take (i := 0) (v := ?_) rfl (by kernel_rfl) (by kernel_rfl) (by kernel_rfl) (by kernel_rfl) (fun _ _ _ h => h) (Or.inl ⟨by rfl, ?_⟩) hHeld ?_
      rotate_left
      · intro w hSw
        (try dsimp only at hSw)
        go_split_ands
        go_simp
        try with_reducible rfl
      try simp only [List.getElem_toArray, List.getElem_cons_zero, Act.put, List.setIfInBounds_toArray, List.set_cons_zero, List.set_cons_succ]
      refine but_take (i := 1) (v := ?_) rfl (by kernel_rfl) (by kernel_rfl) (by kernel_rfl) (by kernel_rfl) (fun _ _ _ h => h) (Or.inl ⟨by rfl, ?_⟩) hHeld ?_
      rotate_left
      · intro w hSw
        (try dsimp only at hSw)
        go_split_ands
        go_simp
        try with_reducible rfl
      try simp only [List.getElem_toArray, List.getElem_cons_succ, List.getElem_cons_zero, Act.put, List.setIfInBounds_toArray, List.set_cons_zero, List.set_cons_succ]
      refine but_take (i := 2) (v := ?_) rfl (by kernel_rfl) (by kernel_rfl) (by kernel_rfl) (by kernel_rfl) (fun _ _ _ h => h) (Or.inl ⟨by rfl, ?_⟩) hHeld ?_
      rotate_left
      · intro w hSw
        (try dsimp only at hSw)
        go_split_ands
        go_simp
        try with_reducible rfl
      try simp only [List.getElem_toArray, List.getElem_cons_succ, List.getElem_cons_zero, Act.put, List.setIfInBounds_toArray, List.set_cons_zero, List.set_cons_succ]
      refine but_take (i := 3) (v := ?_) rfl (by kernel_rfl) (by kernel_rfl) (by kernel_rfl) (by kernel_rfl) (fun _ _ _ h => h) (Or.inl ⟨by rfl, ?_⟩) hHeld ?_
      rotate_left
      · intro w hSw
        (try dsimp only at hSw)
        go_split_ands
        go_simp
        try with_reducible rfl
      try simp only [List.getElem_toArray, List.getElem_cons_succ, List.getElem_cons_zero, Act.put, List.setIfInBounds_toArray, List.set_cons_zero, List.set_cons_succ]
      refine but_take (i := 5) (v := ?_) rfl (by kernel_rfl) (by kernel_rfl) (by kernel_rfl) (by kernel_rfl) (fun _ _ _ h => h) (Or.inl ⟨by rfl, ?_⟩) hHeld ?_
      rotate_left
      · intro w hSw
        (try dsimp only at hSw)
        go_split_ands
        go_simp
        try with_reducible rfl
      try simp only [List.getElem_toArray, List.getElem_cons_succ, List.getElem_cons_zero, Act.put, List.setIfInBounds_toArray, List.set_cons_zero, List.set_cons_succ]
      refine but_take (i := 6) (v := ?_) rfl (by kernel_rfl) (by kernel_rfl) (by kernel_rfl) (by kernel_rfl) (fun _ _ _ h => h) (Or.inl ⟨by rfl, ?_⟩) hHeld ?_
      rotate_left
      · intro w hSw
        (try dsimp only at hSw)
        go_split_ands
        go_simp
        try with_reducible rfl
      try simp only [List.getElem_toArray, List.getElem_cons_succ, List.getElem_cons_zero, Act.put, List.setIfInBounds_toArray, List.set_cons_zero, List.set_cons_succ]
      refine but_take (i := 7) (v := ?_) rfl (by kernel_rfl) (by kernel_rfl) (by kernel_rfl) (by kernel_rfl) (fun _ _ _ h => h) (Or.inl ⟨by rfl, ?_⟩) hHeld ?_
      rotate_left
      · intro w hSw
        (try dsimp only at hSw)
        go_split_ands
        go_simp
        try with_reducible rfl
      try simp only [List.getElem_toArray, List.getElem_cons_succ, List.getElem_cons_zero, Act.put, List.setIfInBounds_toArray, List.set_cons_zero, List.set_cons_succ]
      refine but_take (i := 8) (v := ?_) rfl (by kernel_rfl) (by kernel_rfl) (by kernel_rfl) (by kernel_rfl) (fun _ _ _ h => h) (Or.inl ⟨by rfl, ?_⟩) hHeld ?_
      rotate_left
      · intro w hSw
        (try dsimp only at hSw)
        go_split_ands
        go_simp
        try with_reducible rfl
      try simp only [List.getElem_toArray, List.getElem_cons_succ, List.getElem_cons_zero, Act.put, List.setIfInBounds_toArray, List.set_cons_zero, List.set_cons_succ]
      refine but_one (i := 4) (by kernel_rfl) rfl ?_
      intro K hK
      go_simp
      go_at_call 16
      refine (item_any x _).mono ?_
      rintro e w5 ⟨rfl, hb5⟩
      have HW5 : Hid (Below wr.heap.size wr w5) := (below_drew wr).trans (hb5.mono (below_drew wr).size)
      clear hb5
      try dsimp only
      have hHeld2 := KP.out w5 HW5.out
      refine hK _ _ (fun _ => hHeld2) ?_
      clear hK K hHeld
      have hHeld := hHeld2
      clear hHeld2
      try simp only [List.getElem_toArray, List.getElem_cons_succ, List.getElem_cons_zero, Act.put, List.setIfInBounds_toArray, List.set_cons_zero, List.set_cons_succ]
      refine but_take (i := 9) (v := ?_) rfl (by kernel_rfl) (by kernel_rfl) (by kernel_rfl) (by kernel_rfl) (fun _ _ _ h => h) (Or.inl ⟨by rfl, ?_⟩) hHeld ?_
      rotate_left
      · intro w hSw
        (try dsimp only at hSw)
        go_split_ands
        go_simp
        try with_reducible rfl
      try simp only [List.getElem_toArray, List.getElem_cons_succ, List.getElem_cons_zero, Act.put, List.setIfInBounds_toArray, List.set_cons_zero, List.set_cons_succ]
      refine but_done (by kernel_rfl) ?_
      clear hHeld
      have HB2 : Hid (Below w.heap.size w w5) := HB.out.trans (HW5.out.mono HB.out.size)
      clear HB HW5 KP
      go_wp2_with fail
      go_roundw
      case rel => exact ⟨j + 1, by omega, by go_num, HB2⟩
      case measure => simp [intOf]; omega
    · obtain rfl : j = l.length := by omega
      have k1 : ¬ (l.length : Int) < (l.length : Int) := by omega
      go_wp2_with fail
      go_ret
      exact ⟨rfl, HB.out⟩
end
end Go.Proofs.Ytbpoippgioincaa
