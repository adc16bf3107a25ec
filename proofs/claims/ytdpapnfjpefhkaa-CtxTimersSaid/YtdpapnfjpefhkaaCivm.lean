/- What holds at all times holds behind each call: plain mathematics. No condition but those that each names.
The document's own contexts, made anew: nothing that was there turns. No condition.
A bed of contexts, timers, and the document's own, made anew. Conditions: each theorem's own premises. -/
import Derived.Test.YtdpapnfjpefhkaaCdlm
import Derived.Test.YtdpapnfjpefhkaaCadm
namespace Go.Proofs.Ytdpapnfjpefhkaa
open Go.RowKit Tr
set_option linter.unusedVariables false
set_option maxRecDepth 100000
section
variable {s : St} {i k : Nat} {x y : Cx} {er cs : Int}
theorem Inv.addD (h : Inv s) (hy : s.C[i]? = some y) (hC : s.C.length < 64) (hx : x.er = 0 ∧ x.cl = false ∧ x.rs = []) (hc : ∃ c, x.ch = some c) (he : er ≠ 0) : Inv (addD s x (y.nd : Int) er cs) := by
  have v2 := h.add hy hC true hx fun _ => hc
  have := Inv.fold (cs := cs) he _ _ v2 (v2.good addS_new hc hx.1) (walk_once v2.wf (v2.ndlt addS_new))
  rw [fold_new h x _ ⟨hx.2.2, hx.2.1⟩] at this
  exact this
theorem Inv.mkC (h : Inv s) (hy : s.C[i]? = some y) (hC : s.C.length < 64) (hx : x.er = 0 ∧ x.cl = false ∧ x.rs = []) (hc : ∃ c, x.ch = some c) : Inv (mkC s x y) := by
  unfold Ytdpapnfjpefhkaa.mkC
  by_cases he : y.er = 0
  · rw [if_pos he]; exact h.add hy hC true hx fun _ => hc
  · rw [if_neg he]; exact h.addD hy hC hx hc he
theorem Inv.nx (h : Inv s) (hy : s.C[i]? = some y) (hC : s.C.length < 64) (c : Nat) (wh : Int) (a b : Bool) : Inv (Ytdpapnfjpefhkaa.mkC s (nx0 c wh a b) y) := h.mkC hy hC ⟨rfl, rfl, rfl⟩ ⟨c, rfl⟩
theorem Inv.wo (h : Inv s) (hy : s.C[i]? = some y) (hC : s.C.length < 64) : Inv (addS s nxW (y.nd : Int) false) := h.add hy hC false ⟨rfl, rfl, rfl⟩ fun e => by cases e
theorem Inv.cn (h : Inv s) (hx : s.C[i]? = some x) (hc : ∃ c, x.ch = some c) (he : er ≠ 0) : Inv (cnS s x er cs).1 := by
  unfold cnS
  by_cases h0 : x.er ≠ 0
  · rw [if_pos h0]; exact h
  · rw [if_neg h0]
    exact Inv.fold he _ _ h (h.good hx hc (by omega)) (walk_once h.wf (h.ndlt hx))
theorem Inv.dl {p : Option Nat} (h : Inv s) (hy : s.C[i]? = some y) (hC : s.C.length < 64) (c : Nat) (z : Int) : Inv (dlS p s (nx0 c z true true) (y.nd : Int) z) := by
  have v := h.add (x := nx0 c z true true) hy hC true ⟨rfl, rfl, rfl⟩ fun _ => ⟨c, rfl⟩
  have hat : ∀ (j : Nat) (q : Cx), (s.C ++ [{ nw (nx0 c z true true) s.T.length with lp := lpV p s.E }])[j]? = some q → ∃ q', (s.C ++ [nw (nx0 c z true true) s.T.length])[j]? = some q' ∧ q.nd = q'.nd ∧ q.ch = q'.ch ∧ q.er = q'.er ∧ q.cl = q'.cl ∧ q.rs = q'.rs := by
    intro j q hq
    rcases Nat.lt_or_ge j s.C.length with h1 | h1
    · rw [List.getElem?_append_left h1] at hq
      exact ⟨q, by rw [List.getElem?_append_left h1]; exact hq, rfl, rfl, rfl, rfl, rfl⟩
    · rw [List.getElem?_append_right h1] at hq
      by_cases e : j - s.C.length = 0
      · rw [e] at hq; simp at hq; subst hq
        exact ⟨nw (nx0 c z true true) s.T.length, by rw [List.getElem?_append_right h1, e]; rfl, rfl, rfl, rfl, rfl, rfl⟩
      · rw [List.getElem?_eq_none (by simp; omega)] at hq; cases hq
  have hta : ∀ (j : Nat) (q : Cx), (s.C ++ [nw (nx0 c z true true) s.T.length])[j]? = some q → ∃ q', (s.C ++ [{ nw (nx0 c z true true) s.T.length with lp := lpV p s.E }])[j]? = some q' ∧ q'.nd = q.nd := by
    intro j q hq
    rcases Nat.lt_or_ge j s.C.length with h1 | h1
    · rw [List.getElem?_append_left h1] at hq
      exact ⟨q, by rw [List.getElem?_append_left h1]; exact hq, rfl⟩
    · rw [List.getElem?_append_right h1] at hq
      by_cases e : j - s.C.length = 0
      · rw [e] at hq; simp at hq; subst hq
        exact ⟨{ nw (nx0 c z true true) s.T.length with lp := lpV p s.E }, by rw [List.getElem?_append_right h1, e]; rfl, rfl⟩
      · rw [List.getElem?_eq_none (by simp; omega)] at hq; cases hq
  have el : (lpE p s.E s.C.length).length ≤ s.E.length + 1 ∧ s.E.length ≤ (lpE p s.E s.C.length).length := by cases p <;> simp [lpE]
  have sl : (lpS p s.E s.n s.S z).length ≤ s.S.length + ((lpE p s.E s.C.length).length - s.E.length) := by
    cases p with
    | none => simp [lpS, lpE]
    | some q => simp only [lpS, lpE]; rw [(ins_perm _ s.S).length_eq]; simp
  have nl : lpN p s.n ≤ s.n + ((lpE p s.E s.C.length).length - s.E.length) := by
    cases p with
    | none => simp [lpN, lpE]
    | some q => simp [lpN, lpE]
  have sp : ∀ q ∈ lpS p s.E s.n s.S z, 0 ≤ q.id := by
    intro q hq
    cases p with
    | none => exact h.sp q hq
    | some k =>
      rcases List.mem_cons.1 ((ins_perm _ s.S).mem_iff.1 hq) with rfl | hq
      · show (0 : Int) ≤ (s.E.length : Int); omega
      · exact h.sp q hq
  have e1 := h.el
  have e2 := h.sl
  have e3 := h.nl
  refine ⟨v.wf, v.kl, by have := v.tl; simp [addS] at this; simp [dlS, addS]; omega, by show (s.C ++ _).length ≤ 64; simp; omega, v.al, by show (lpE p s.E s.C.length).length ≤ (s.C ++ _).length; simp; omega, by show (lpS p s.E s.n s.S z).length ≤ (lpE p s.E s.C.length).length; omega, by show lpN p s.n ≤ (lpE p s.E s.C.length).length; omega, sp, ?_, v.ka, ?_, v.ak, ?_, ?_⟩
  · intro k j hk
    obtain ⟨q, h1, h2⟩ := v.kc k j hk
    obtain ⟨q', h3, h4⟩ := hta j q h1
    exact ⟨q', h3, h4.trans h2⟩
  · intro j q hq
    obtain ⟨q', h3, h4, _⟩ := hat j q hq
    have := v.ck j q' h3
    rw [h4]; exact this
  · intro j q r hq hr
    obtain ⟨q', h3, h4, h5, h6, _⟩ := hat j q hq
    have hr : (s.T ++ [((y.nd : Int), true)])[q.nd]? = some (r, true) := hr
    rw [h4] at hr
    have := v.lv j q' r h3 hr
    rw [h5, h6]; exact this
  · intro j q hq
    obtain ⟨q', h3, h4, h5, h6, h7, h8⟩ := hat j q hq
    have := v.cx j q' h3
    rw [h5, h6, h7, h8]; exact this
theorem Inv.af (h : Inv s) (hy : s.C[i]? = some y) (hA : s.A.length < 64) (pg : Int) : Inv (afS s y pg) := by
  have hn := h.ndlt hy
  have atA : ∀ (j : Nat) (a : Af), (s.A ++ [⟨s.T.length, pg⟩])[j]? = some a → s.A[j]? = some a ∨ (j = s.A.length ∧ a = ⟨s.T.length, pg⟩) := by
    intro j z hz
    rcases Nat.lt_or_ge j s.A.length with c | c
    · rw [List.getElem?_append_left c] at hz; exact .inl hz
    · rw [List.getElem?_append_right c] at hz
      by_cases e : j - s.A.length = 0
      · rw [e] at hz; simp at hz; exact .inr ⟨by omega, hz.symm⟩
      · rw [List.getElem?_eq_none (by simp; omega)] at hz; cases hz
  have atK : ∀ (j : Nat) (z : Kd), (s.K ++ [⟨true, s.A.length⟩])[j]? = some z → s.K[j]? = some z ∨ (j = s.K.length ∧ z = ⟨true, s.A.length⟩) := by
    intro j z hz
    rcases Nat.lt_or_ge j s.K.length with c | c
    · rw [List.getElem?_append_left c] at hz; exact .inl hz
    · rw [List.getElem?_append_right c] at hz
      by_cases e : j - s.K.length = 0
      · rw [e] at hz; simp at hz; exact .inr ⟨by omega, hz.symm⟩
      · rw [List.getElem?_eq_none (by simp; omega)] at hz; cases hz
  have upK : ∀ (j : Nat) (z : Kd), s.K[j]? = some z → (s.K ++ [⟨true, s.A.length⟩])[j]? = some z := fun j z hz => by rw [List.getElem?_append_left (List.getElem?_eq_some_iff.1 hz).1]; exact hz
  refine ⟨h.wf.push (by omega) (by omega) (by omega), by simp [afS, h.kl], by have := h.tl; simp [afS]; omega, h.cl, by simp [afS]; omega, h.el, h.sl, h.nl, h.sp, ?_, ?_, ?_, ?_, ?_, h.cx⟩
  · intro k j hk
    rcases atK k _ hk with h1 | ⟨_, e⟩
    · exact h.kc k j h1
    · cases e
  · intro k j hk
    rcases atK k _ hk with h1 | ⟨rfl, e⟩
    · obtain ⟨a, h2, h3⟩ := h.ka k j h1
      exact ⟨a, by show (s.A ++ _)[j]? = _; rw [List.getElem?_append_left (List.getElem?_eq_some_iff.1 h2).1]; exact h2, h3⟩
    · injection e with _ e; subst e
      exact ⟨⟨s.T.length, pg⟩, by show (s.A ++ _)[_]? = _; simp, h.kl.symm⟩
  · intro j z hz
    exact upK _ _ (h.ck j z hz)
  · intro j a ha
    rcases atA j a ha with h1 | ⟨rfl, rfl⟩
    · exact upK _ _ (h.ak j a h1)
    · show (s.K ++ _)[s.T.length]? = _
      rw [← h.kl]; simp
  · intro j z q hz hq
    have h2 := h.ndlt hz
    have hq : (s.T ++ [((y.nd : Int), decide (y.er = 0))])[z.nd]? = some (q, true) := hq
    rw [List.getElem?_append_left h2] at hq
    exact h.lv j z q hz hq
theorem Inv.un (h : Inv s) (k : Nat) : Inv { s with T := Tr.cut s.T k } := by
  refine ⟨h.wf.cut k, by rw [Tr.cut_len]; exact h.kl, by rw [Tr.cut_len]; exact h.tl, h.cl, h.al, h.el, h.sl, h.nl, h.sp, h.kc, h.ka, h.ck, h.ak, fun j x q hx hq => ?_, h.cx⟩
  have hq : (Tr.cut s.T k)[x.nd]? = some (q, true) := hq
  rw [cut_at] at hq
  by_cases e : x.nd = k
  · rw [if_pos e] at hq
    cases hs : s.T[x.nd]? with
    | none => rw [hs] at hq; cases hq
    | some y => rw [hs] at hq; simp at hq
  · rw [if_neg e] at hq; exact h.lv j x q hx hq
end
end Go.Proofs.Ytdpapnfjpefhkaa
namespace Go.Proofs.Ytdpapnfjpefhkaa
open Go.RowKit Tr
set_option linter.unusedVariables false
set_option maxRecDepth 100000
theorem infRN : (Try.prog.info? 197).map (fun i => (i.zero, i.size, i.bytes)) = some (some (.agg #[.int .i64 0, .bool false]), 2, 16) := by kernel_rfl
theorem infRC : (Try.prog.info? 172).map (fun i => (i.zero, i.size, i.bytes)) = some (some (.agg #[.bool false, .int .i64 0, .int .i64 0, .bool false, .bool false, .int .i64 0, .int .i64 0, .int .i64 0, .bool false, .bool false, .int .i64 0, .pointer none]), 12, 80) := by kernel_rfl
section
variable {w w' : World} {b : Nat} {a0 a2 a3 a4 : Value}
/-- Nothing but block b and new ones has turned; b is as it is told. -/
def RfZ (b : Nat) (cs : Array Value) (w w' : World) : Prop := w'.heap[b]? = some (.cells cs 168 (0, 0)) ∧ Tn (fun k => k = b) w w'
theorem radd0 (h : w.heap[b]? = some (.cells #[a0, .slice none 0 0, a2, a3, a4] 168 (0, 0))) : Calls Try.prog 79 #[.pointer (some ⟨b, 1, none⟩), .int .i64 (-1), .bool false] w fun e w' => e = .returned (.tuple #[.int .i64 0, .int .i64 0]) ∧ ∃ P c, Hid (RfZ b #[a0, .slice P 1 c, a2, a3, a4] w w') := by
  obtain ⟨i0, hi, hz0, hz1, hz2⟩ := info_parts infRN
  have c1 : w.cell? ⟨b, 1, none⟩ = some (.slice none 0 0) := by rw [cell_of_row w b 1 _ _ _ h]; rfl
  have f1 := frozen_of_row w b 1 _ _ h
  have hb := lt_of_blk h
  have HE : Hid (∀ {wx w1 : World} {g cap : Nat}, Below w.heap.size w wx → wx.grownBy w1 (Value.slice none 0 0).ownBlock → (w1.cell? ⟨b, 1, none⟩ = some (.slice none 0 0) ∧ w1.frozen? ⟨b, 1, none⟩ = false) ∧ RfZ b #[a0, .slice (some ⟨g, 0, none⟩) 1 cap, a2, a3, a4] w (w1.setCell ⟨b, 1, none⟩ (.slice (some ⟨g, 0, none⟩) 1 cap))) := by
    intro wx w1 g cap hx hg
    have T1 : Tn (fun k => (none : Option Nat) = some k) w w1 := Tn.grown hx hg
    have e1 := (T1.block b hb (by simp)).trans h
    exact ⟨⟨by rw [cell_of_row w1 b 1 _ _ _ e1]; rfl, frozen_of_row w1 b 1 _ _ e1⟩, heap_setCell_same w1 b 1 _ _ (.slice (some ⟨g, 0, none⟩) 1 cap) e1, (T1.mono (G := fun k => k = b) fun k hk => by cases hk).set (b := b) (.inl rfl) _⟩
  clear h
  go_enter Try.func79, Try.ntmps79
  go_wp2_with (at_builtin; go_loud (refine wpList_append_lies _ rfl _ _ 163 rfl 0 197 i0 _ 2 16 Try.underlying163 hi hz0 hz1 hz2 rfl (by omega) (.slice none 0 0) 0 [] rfl (World.ownsRow_nil _ _ _ _) ⟨w.heap.size, 0, none⟩ 1 1 [.int .i64 (-1), .bool false] rfl rfl (World.news_of_block (cs := #[.int .i64 (-1), .bool false]) (heap_alloc_new w _)) (by intro u hu; simp at hu; rcases hu with rfl | rfl <;> rfl) (by omega) (by unfold maxLen; omega) (by omega) (by omega) (w.heap.size + 1) (by first | (simp; done) | (simp; rfl)) ?_; intro g cap w1 hown hgrow hat hlt1; have HM := HE.out (g := g) (cap := cap) (below_al w _) hgrow; have hc1 := HM.1.1; have hf1 := HM.1.2; have HD := Lib.hid HM.2; clear HM hown hgrow hat hlt1 c1 f1))
  go_wp2_with fail
  have hc2 : w1.cell? ⟨b, 1, none⟩ = some (.slice none 0 0) := hc1
  go_ret2
  exact ⟨rfl, _, _, HD⟩

abbrev nB : Array Value := #[.bool false, .int .i64 0, .int .i64 0, .bool false, .bool true, .int .i64 0, .int .i64 0, .int .i64 0, .bool false, .bool false, .int .i64 (-1), .pointer none]
theorem nB_cells {q : Nat} (h : w.heap[q]? = some (.cells nB 172 (0, 0))) : (w.cell? ⟨q, 0, none⟩ = some (.bool false) ∧ w.cell? ⟨q, 1, none⟩ = some (.int .i64 0) ∧ w.cell? ⟨q, 2, none⟩ = some (.int .i64 0) ∧ w.cell? ⟨q, 3, none⟩ = some (.bool false) ∧ w.cell? ⟨q, 4, none⟩ = some (.bool true) ∧ w.cell? ⟨q, 5, none⟩ = some (.int .i64 0) ∧ w.cell? ⟨q, 6, none⟩ = some (.int .i64 0) ∧ w.cell? ⟨q, 7, none⟩ = some (.int .i64 0) ∧ w.cell? ⟨q, 8, none⟩ = some (.bool false) ∧ w.cell? ⟨q, 9, none⟩ = some (.bool false) ∧ w.cell? ⟨q, 10, none⟩ = some (.int .i64 (-1)) ∧ w.cell? ⟨q, 11, none⟩ = some (.pointer none)) ∧ ∀ j, w.frozen? ⟨q, j, none⟩ = false := by
  refine ⟨⟨?_, ?_, ?_, ?_, ?_, ?_, ?_, ?_, ?_, ?_, ?_, ?_⟩, fun j => frozen_of_row w q j _ _ h⟩
  · rw [cell_of_row w q 0 _ _ _ h]; rfl
  · rw [cell_of_row w q 1 _ _ _ h]; rfl
  · rw [cell_of_row w q 2 _ _ _ h]; rfl
  · rw [cell_of_row w q 3 _ _ _ h]; rfl
  · rw [cell_of_row w q 4 _ _ _ h]; rfl
  · rw [cell_of_row w q 5 _ _ _ h]; rfl
  · rw [cell_of_row w q 6 _ _ _ h]; rfl
  · rw [cell_of_row w q 7 _ _ _ h]; rfl
  · rw [cell_of_row w q 8 _ _ _ h]; rfl
  · rw [cell_of_row w q 9 _ _ _ h]; rfl
  · rw [cell_of_row w q 10 _ _ _ h]; rfl
  · rw [cell_of_row w q 11 _ _ _ h]; rfl
theorem nB_one : ∀ u ∈ nB.toList, u.oneCell' = true := by
  intro u hu
  simp at hu
  rcases hu with rfl | rfl | rfl | rfl | rfl | rfl | rfl | rfl <;> rfl
set_option maxHeartbeats 4000000 in
theorem radd_new {u : Value} (h : w.heap[b]? = some (.cells #[u, .slice none 0 0, .slice none 0 0, .slice none 0 0, .slice none 0 0] 168 (0, 0))) : Calls Try.prog 66 #[.pointer (some ⟨b, 0, none⟩), .int .i64 (-1), .bool false, .agg nB] w fun e w' => e = .returned (.int .i64 0) ∧ Tn (fun k => k = b) w w' := by
  obtain ⟨i0, hi, hz0, hz1, hz2⟩ := info_parts infRC
  obtain ⟨i3, hi3, hy0, hy1, hy2⟩ := info_parts Tr.inf3
  have hb := lt_of_blk h
  have HC : Hid (Calls Try.prog 79 #[.pointer (some ⟨b, 1, none⟩), .int .i64 (-1), .bool false] (w.alloc (.cells nB 172)) fun e w' => e = .returned (.tuple #[.int .i64 0, .int .i64 0]) ∧ ∃ P c, Hid (RfZ b #[u, .slice P 1 c, .slice none 0 0, .slice none 0 0, .slice none 0 0] w w' ∧ w'.heap[w.heap.size]? = some (.cells nB 172 (0, 0)))) := by
    refine (radd0 (((below_al w _).block b hb).trans h)).mono ?_
    rintro e w' ⟨rfl, P, c, h1, h2⟩
    refine ⟨rfl, P, c, ⟨h1, (Tn.of_below (below_al w _)).trans h2⟩, ?_⟩
    exact (h2.block w.heap.size (by simp) (by show ¬ w.heap.size = b; omega)).trans (heap_alloc_new w _)
  clear h
  go_enter Try.func66, Try.ntmps66
  go_wp2_with fail
  refine HC.out.mono ?_
  rintro e w2 ⟨rfl, P, c, hR⟩
  clear HC
  obtain ⟨⟨x0, x1, x2, x3, x4, x5, x6, x7, x8, x9, x10, x11⟩, xf⟩ := nB_cells hR.out.2
  have f1 := xf 1
  have k3 : w2.cell? ⟨b, 3, none⟩ = some (.slice none 0 0) := by rw [cell_of_row w2 b 3 _ _ _ hR.out.1.1]; rfl
  have hb2 := lt_of_blk hR.out.1.1
  have hq2 := lt_of_blk hR.out.2
  clear xf
  go_wp2_with fail
  have e3 := heap_setCell_same w2 w.heap.size 1 _ _ (.int .i64 0) hR.out.2
  have e4 : (w2.setCell ⟨w.heap.size, 1, none⟩ (.int .i64 0)).heap[b]? = some (.cells #[u, .slice P 1 c, .slice none 0 0, .slice none 0 0, .slice none 0 0] 168 (0, 0)) := (Below.heap_setCell _ _ _ _ (show b ≠ w.heap.size by omega)).trans hR.out.1.1
  have e5 : Tn (fun k => k = b) w (w2.setCell ⟨w.heap.size, 1, none⟩ (.int .i64 0)) := hR.out.1.2.set (.inr (Nat.le_refl _)) _
  have HQ : Hid ((w2.setCell ⟨w.heap.size, 1, none⟩ (.int .i64 0)).heap[w.heap.size]? = some (.cells nB 172 (0, 0)) ∧ (w2.setCell ⟨w.heap.size, 1, none⟩ (.int .i64 0)).heap[b]? = some (.cells #[u, .slice P 1 c, .slice none 0 0, .slice none 0 0, .slice none 0 0] 168 (0, 0)) ∧ Tn (fun k => k = b) w (w2.setCell ⟨w.heap.size, 1, none⟩ (.int .i64 0))) := ⟨e3, e4, e5⟩
  clear e3 e4 e5 hR x0 x1 x2 x3 x4 x5 x6 x7 x8 x9 x10 x11 f1 k3 hb2 hq2
  generalize w2.setCell ⟨w.heap.size, 1, none⟩ (.int .i64 0) = w3 at *
  obtain ⟨⟨x0, x1, x2, x3, x4, x5, x6, x7, x8, x9, x10, x11⟩, -⟩ := nB_cells HQ.out.1
  have k2 : w3.cell? ⟨b, 2, none⟩ = some (.slice none 0 0) := by rw [cell_of_row w3 b 2 _ _ _ HQ.out.2.1]; rfl
  have f2 := frozen_of_row w3 b 2 _ _ HQ.out.2.1
  have hb3 := lt_of_blk HQ.out.2.1
  have hq3 := lt_of_blk HQ.out.1
  have hs3 := HQ.out.2.2.size
  have HE : Hid (∀ {wx w5 : World} {g cap : Nat}, Below w3.heap.size w3 wx → wx.grownBy w5 (Value.slice none 0 0).ownBlock → (w5.cell? ⟨b, 2, none⟩ = some (.slice none 0 0) ∧ w5.frozen? ⟨b, 2, none⟩ = false) ∧ Hid ((w5.setCell ⟨b, 2, none⟩ (.slice (some ⟨g, 0, none⟩) 1 cap)).heap[w.heap.size]? = some (.cells nB 172 (0, 0)) ∧ (w5.setCell ⟨b, 2, none⟩ (.slice (some ⟨g, 0, none⟩) 1 cap)).heap[b]? = some (.cells #[u, .slice P 1 c, .slice (some ⟨g, 0, none⟩) 1 cap, .slice none 0 0, .slice none 0 0] 168 (0, 0)) ∧ Tn (fun k => k = b) w (w5.setCell ⟨b, 2, none⟩ (.slice (some ⟨g, 0, none⟩) 1 cap)))) := by
    intro wx w5 g cap hx hg
    have T1 : Tn (fun k => (none : Option Nat) = some k) w3 w5 := Tn.grown hx hg
    have e1 := (T1.block b hb3 (by simp)).trans HQ.out.2.1
    refine ⟨⟨by rw [cell_of_row w5 b 2 _ _ _ e1]; rfl, frozen_of_row w5 b 2 _ _ e1⟩, ?_, heap_setCell_same w5 b 2 _ _ (.slice (some ⟨g, 0, none⟩) 1 cap) e1, (HQ.out.2.2.trans (T1.mono (G := fun k => k = b) fun k hk => by cases hk)).set (b := b) (.inl rfl) _⟩
    rw [Below.heap_setCell _ _ _ _ (show w.heap.size ≠ b by omega)]
    exact (T1.block _ hq3 (by simp)).trans HQ.out.1
  go_region_law (go_loud (refine step_append_lies _ (by rfl) _ _ _ (by rfl) 0 172 i0 (.agg #[.bool false, .int .i64 0, .int .i64 0, .bool false, .bool false, .int .i64 0, .int .i64 0, .int .i64 0, .bool false, .bool false, .int .i64 0, .pointer none]) 12 80 Try.underlying166 hi hz0 hz1 hz2 rfl (by omega) (.slice none 0 0) 0 [] (by rfl) (World.ownsRow_nil _ _ _ _) ⟨w3.heap.size, 0, none⟩ 1 1 nB.toList (by rfl) (by rfl) (World.news_of_block (cs := nB) (t := 172) (fr := (0, 0)) (news_one (w := w3) (by rfl))) nB_one (by omega) (by unfold maxLen; omega) (by omega) (by first | omega | (simp; done) | (simp; omega)) (w3.heap.size + 1) (by simp) ?_; intro g5 cap5 w5 hown hgrow hat hlt5; have HM := HE.out (g := g5) (cap := cap5) (by exact below_one rfl rfl rfl rfl) hgrow; have hc1 := HM.1.1; have hf1 := HM.1.2; have HD := HM.2; clear HM hown hgrow hat hlt5 k2 f2))
  all_goals
    clear HE hc1 hf1 x0 x1 x2 x3 x4 x5 x6 x7 x8 x9 x10 x11
    generalize w5.setCell ⟨b, 2, none⟩ (.slice (some ⟨g5, 0, none⟩) 1 cap5) = w6 at *
    have y1 : w6.cell? ⟨w.heap.size, 1, none⟩ = some (.int .i64 0) := by rw [cell_of_row w6 w.heap.size 1 _ _ _ HD.out.1]; rfl
    have k3 : w6.cell? ⟨b, 3, none⟩ = some (.slice none 0 0) := by rw [cell_of_row w6 b 3 _ _ _ HD.out.2.1]; rfl
    have f3 := frozen_of_row w6 b 3 _ _ HD.out.2.1
    have hb6 := lt_of_blk HD.out.2.1
    have hq6 := lt_of_blk HD.out.1
    have HE2 : Hid (∀ {wx w7 : World} {g cap : Nat}, Below w6.heap.size w6 wx → wx.grownBy w7 (Value.slice none 0 0).ownBlock → (w7.cell? ⟨b, 3, none⟩ = some (.slice none 0 0) ∧ w7.frozen? ⟨b, 3, none⟩ = false) ∧ (w7.setCell ⟨b, 3, none⟩ (.slice (some ⟨g, 0, none⟩) 1 cap)).cell? ⟨w.heap.size, 1, none⟩ = some (.int .i64 0) ∧ Hid (Tn (fun k => k = b) w (w7.setCell ⟨b, 3, none⟩ (.slice (some ⟨g, 0, none⟩) 1 cap)))) := by
      intro wx w7 g cap hx hg
      have T1 : Tn (fun k => (none : Option Nat) = some k) w6 w7 := Tn.grown hx hg
      have e1 := (T1.block b hb6 (by simp)).trans HD.out.2.1
      have e2 := (T1.block _ hq6 (by simp)).trans HD.out.1
      refine ⟨⟨by rw [cell_of_row w7 b 3 _ _ _ e1]; rfl, frozen_of_row w7 b 3 _ _ e1⟩, ?_, (HD.out.2.2.trans (T1.mono (G := fun k => k = b) fun k hk => by cases hk)).set (b := b) (.inl rfl) _⟩
      rw [World.cell?_setCell_other _ _ _ _ (by simp), cell_of_row w7 w.heap.size 1 _ _ _ e2]; rfl
    go_wp2_with (at_builtin; go_loud (refine wpList_append_lies _ rfl _ _ 22 rfl 0 3 i3 _ 1 8 Try.underlying22 hi3 hy0 hy1 hy2 rfl (by omega) (.slice none 0 0) 0 [] rfl (World.ownsRow_nil _ _ _ _) ⟨w6.heap.size, 0, none⟩ 1 1 [.int .i64 0] rfl rfl (World.news_of_block (cs := #[.int .i64 0]) (heap_alloc_new w6 _)) (int_cell _) (by omega) (by unfold maxLen; omega) (by omega) (by omega) (w6.heap.size + 1) (by first | (simp; done) | (simp; rfl)) ?_; intro g7 cap7 w7 hown hgrow hat hlt7; have HM := HE2.out (g := g7) (cap := cap7) (below_al w6 _) hgrow; have hc7 := HM.1.1; have hf7 := HM.1.2; have hr7 := HM.2.1; have HF := HM.2.2; clear HM hown hgrow hat hlt7 k3 f3))
    go_wp2_with fail
    go_ret
    exact ⟨rfl, HF.out⟩
theorem newref_any (u : Option Addr) (w : World) : Calls Try.prog 51 #[.pointer u] w fun e w' => (∃ b, e = .returned (.pointer (some ⟨b, 0, none⟩))) ∧ Below w.heap.size w w' := by
  have HC : Hid (Calls Try.prog 66 #[.pointer (some ⟨w.heap.size, 0, none⟩), .int .i64 (-1), .bool false, .agg nB] (w.alloc (.cells #[.pointer u, .slice none 0 0, .slice none 0 0, .slice none 0 0, .slice none 0 0] 168)) fun e w' => e = .returned (.int .i64 0) ∧ Hid (Below w.heap.size w w')) := by
    refine (radd_new (heap_alloc_new w _)).mono ?_
    rintro e w' ⟨rfl, h⟩
    exact ⟨rfl, (below_al w _).trans (h.below (by simp) fun b hb => by rw [hb]; exact Nat.le_refl _)⟩
  go_enter Try.func51, Try.ntmps51
  go_wp2_with fail
  refine HC.out.mono ?_
  rintro e w2 ⟨rfl, hb⟩
  go_wp2_with fail
  go_ret
  exact ⟨⟨_, rfl⟩, hb.out⟩
end
end Go.Proofs.Ytdpapnfjpefhkaa
namespace Go.Proofs.Ytdpapnfjpefhkaa
open Go.RowKit Tr
set_option linter.unusedVariables false
set_option maxRecDepth 100000
/-- A bed's block, as a row of one. -/
def bdR (b ts t : Nat) (u m : Option Addr) : Rr := ⟨some ⟨b, 0, none⟩, 81, 5, 1, 1, [.pointer (some ⟨ts, 0, none⟩), .pointer (some ⟨t, 0, none⟩), .pointer u, .pointer m, .int .i64 0]⟩
section
variable {W w w' : World} {t ts b : Nat} {p : Option Nat} {s s' : St} {rs : List Rr} {u m : Option Addr}
theorem LQ.bed {i : Nat} (h : LQ W t p s rs w) (hr : rs[i]? = some (bdR b ts t u m)) : w.cell? ⟨b, 0, none⟩ = some (.pointer (some ⟨ts, 0, none⟩)) ∧ w.cell? ⟨b, 1, none⟩ = some (.pointer (some ⟨t, 0, none⟩)) := by
  have ho : w.ownsRow 0 81 5 (.slice (some ⟨b, 0, none⟩) 1 1) 1 [.pointer (some ⟨ts, 0, none⟩), .pointer (some ⟨t, 0, none⟩), .pointer u, .pointer m, .int .i64 0] := h.own hr
  exact ⟨by rw [ho.cellAt 0 (by omega)]; rfl, by rw [ho.cellAt 1 (by omega)]; rfl⟩
theorem LQ.new {b : Nat} {n : Nat} {E : List On} {S : List It} (g : GS W b p (s0 E n S) (fun _ => False) w w') (hi : Inv (s0 E n S)) : LQ W b p (s0 E n S) [] w' := by
  obtain ⟨O', f, _, _⟩ := g
  exact ⟨⟨O', f, fun r hr => (by cases hr)⟩, fun r hr => (by cases hr), List.Pairwise.nil, hi⟩
/-- Contexts with timers of their own. -/
theorem ss_tms (hb : Below W.heap.size W w) : Calls Try.prog 12 #[] w fun e w' => e = .returned (pS w.heap.size) ∧ Hid (TMs W (some w.heap.size) [] 0 [] w') ∧ Hid (Below w.heap.size w w') := by
  refine (ss_new hb).mono ?_
  rintro e w' ⟨rfl, h1, h2⟩
  exact ⟨rfl, ⟨h1, fun x hx => (by cases hx), fun x hx => (by cases hx)⟩, h2⟩
theorem TMs.later' (h : TMs W p [] 0 [] w) (h0 : Below W.heap.size W w) (b : Below w.heap.size w w') : TMs W p [] 0 [] w' := h.tm (h0.trans (b.mono h0.size)) fun j hj _ => b.block j hj
theorem newctx_lq (m : TMs W p [] 0 [] w) (hb : Below W.heap.size W w) : Calls Try.prog 11 #[.pointer (cp p)] w fun e w' => e = .returned (pS w.heap.size) ∧ Hid (LQ W w.heap.size p (s0 [] 0 []) [] w') := by
  refine (new_ctx m hb).mono ?_
  rintro e w' ⟨rfl, h⟩
  exact ⟨rfl, LQ.new h.out (Inv.s0 (by simp) (by simp) (by simp) (fun z hz => by cases hz))⟩
theorem LQ.addB (h : LQ W t p s [] w) (ts : Nat) (u m : Option Addr) : LQ W t p s [bdR w.heap.size ts t u m] (w.alloc (.cells #[.pointer (some ⟨ts, 0, none⟩), .pointer (some ⟨t, 0, none⟩), .pointer u, .pointer m, .int .i64 0] 81)) := by
  have hn := heap_alloc_new w (.cells #[.pointer (some ⟨ts, 0, none⟩), .pointer (some ⟨t, 0, none⟩), .pointer u, .pointer m, .int .i64 0] 81)
  have ho : (w.alloc (.cells #[.pointer (some ⟨ts, 0, none⟩), .pointer (some ⟨t, 0, none⟩), .pointer u, .pointer m, .int .i64 0] 81)).ownsRow w.heap.size 81 5 (.slice (some ⟨w.heap.size, 0, none⟩) 1 1) 1 [.pointer (some ⟨ts, 0, none⟩), .pointer (some ⟨t, 0, none⟩), .pointer u, .pointer m, .int .i64 0] :=
    ⟨by simp, .inr ⟨w.heap.size, 1, _, rfl, Nat.le_refl _, hn, by simp, by unfold maxLen; omega, by simp⟩⟩
  exact (h.alloc _).row (r := bdR w.heap.size ts t u m) h.bel.size ho (by show OthZ 81; decide) (fun O f k hk => f.nott (tag_row ho hk) fun ty e => by subst e; simp [TgO]) fun q hq => (by cases hq)
set_option maxHeartbeats 4000000 in
theorem fresh_any (w : World) : Calls Try.prog 31 #[] w fun e w' => ∃ b ts t u m, e = .returned (.tuple #[.pointer (some ⟨b, 0, none⟩), .bool true]) ∧ Hid (LQ w t (some ts) (s0 [] 0 []) [bdR b ts t u m] w') := by
  go_enter Try.func31, Try.ntmps31
  go_wp2_with fail
  refine (ss_tms (Below.refl w.heap.size w)).mono ?_
  rintro e w1 ⟨rfl, h1, hb1⟩
  have H1 := Lib.hid (newctx_lq (h1.out.later' hb1.out (below_al w1 (.cells #[.slice none 0 0, .int .i64 0, .slice none 0 0, .slice none 0 0, .int .i64 0] 142))) (hb1.out.trans ((below_al w1 (.cells #[.slice none 0 0, .int .i64 0, .slice none 0 0, .slice none 0 0, .int .i64 0] 142)).mono hb1.out.size)))
  simp only [Option.map_some] at H1
  clear h1 hb1
  go_wp2_with fail
  refine H1.out.mono ?_
  rintro e w2 ⟨rfl, h2⟩
  clear H1
  go_wp2_with fail
  refine (newref_any _ w2).mono ?_
  rintro e w3 ⟨⟨mb, rfl⟩, hb3⟩
  have H3 := Lib.hid (h2.out.later hb3)
  clear h2 hb3
  go_wp2_with fail
  have H3' : Hid (LQ w (w1.heap.size + 1) (some w.heap.size) (s0 [] 0 []) [] w3) := by
    have h9 := H3.out
    rw [World.size_alloc] at h9
    exact h9
  have H4 := Lib.hid (H3'.out.addB w.heap.size (some ⟨w1.heap.size, 0, none⟩) (some ⟨mb, 0, none⟩))
  clear H3 H3'
  go_quiet (fail)
  go_wp2_with fail
  go_ret2
  exact ⟨_, _, _, _, _, rfl, H4.out.drewN _⟩
end
end Go.Proofs.Ytdpapnfjpefhkaa
