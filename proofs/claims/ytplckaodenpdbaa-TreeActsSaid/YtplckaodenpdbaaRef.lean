/- The document's own tree in memory: what each of its calls tells, and leaves. Conditions: each theorem's own premises. -/
import Derived.Test.YtplckaodenpdbaaDtW
namespace Go.Proofs.Ytplckaodenpdbaa
open Go.RowKit
set_option linter.unusedVariables false
set_option maxRecDepth 100000

def sV (x : Int × Bool) : List Value := [.int .i64 x.1, .bool x.2]
theorem sV_len (x : Int × Bool) : (sV x).length = 2 := rfl
theorem inf44 : (Try.prog.info? 44).map (fun i => (i.zero, i.size, i.bytes)) = some (some (.agg #[.int .i64 0, .bool false]), 2, 16) := by kernel_rfl
theorem sd_cell (p : Int) (l : Bool) : ∀ u ∈ ([.int .i64 p, .bool l] : List Value), u.oneCell' = true := by intro u hu; simp at hu; rcases hu with rfl | rfl <;> rfl
structure MX (w : World) (m : Nat) (Q : Option Addr) (c : Nat) (S : TS) : Prop where
  hm : w.heap[m]? = some (.cells #[.slice Q S.length c] 29 (0, 0))
  own : w.ownsRow 0 44 2 (.slice Q S.length c) S.length (S.flatMap sV)
section
variable {w w' : World} {m c : Nat} {Q : Option Addr} {S : TS}
theorem MX.lt (h : MX w m Q c S) : m < w.heap.size := lt_of_blk h.hm
theorem MX.c0 (h : MX w m Q c S) : w.cell? ⟨m, 0, none⟩ = some (.slice Q S.length c) := by rw [cell_of_row w m 0 _ _ _ h.hm]; rfl
theorem MX.f0 (h : MX w m Q c S) (i : Nat) : w.frozen? ⟨m, i, none⟩ = false := frozen_of_row w m i _ _ h.hm
theorem MX.ne (h : MX w m Q c S) : blk Q ≠ some m := by
  intro e
  obtain ⟨cs, fr, h1⟩ := row_tag h.own e
  have := h1.symm.trans h.hm
  simp at this
theorem MX.keep (h : MX w m Q c S) (h1 : w'.heap[m]? = w.heap[m]?) (h2 : ∀ k, blk Q = some k → w'.heap[k]? = w.heap[k]?) : MX w' m Q c S := ⟨h1.trans h.hm, row_keep h.own h2⟩
theorem MX.later (h : MX w m Q c S) (hb : Below w.heap.size w w') : MX w' m Q c S := h.keep (hb.block _ h.lt) fun k hk => hb.block _ (row_lt h.own hk).2
theorem MX.form (h : MX w m Q c S) {i : Nat} {x : Int × Bool} (hx : S[i]? = some x) : ∃ q, Q = some ⟨q, 0, none⟩ ∧ q < w.heap.size ∧ w.cell? ⟨q, i * 2, none⟩ = some (.int .i64 x.1) ∧ w.cell? ⟨q, i * 2 + 1, none⟩ = some (.bool x.2) := by
  have hl := (List.getElem?_eq_some_iff.1 hx).1
  obtain ⟨q, rfl, _⟩ := row_form h.own (by omega)
  refine ⟨q, rfl, (row_lt h.own (k := q) rfl).2, ?_, ?_⟩
  · rw [h.own.cellAt (i * 2) (by omega)]; exact flat_at sV 2 sV_len S i x hx 0 (by omega)
  · rw [h.own.cellAt (i * 2 + 1) (by omega)]; exact flat_at sV 2 sV_len S i x hx 1 (by omega)
theorem MX.new (w : World) : MX (w.alloc (.cells #[.slice none 0 0] 29)) w.heap.size none 0 [] := ⟨heap_alloc_new _ _, World.ownsRow_nil _ _ _ _⟩
/-- It has come to be S'; nothing else has turned. -/
def MGo (m : Nat) (Q : Option Addr) (S' : TS) (w w' : World) : Prop := ∃ Q' c', MX w' m Q' c' S' ∧ Tn (fun k => k = m ∨ blk Q = some k) w w' ∧ ∀ k, blk Q' = some k → blk Q = some k ∨ w.heap.size ≤ k
theorem MX.push {wx w1 : World} {g cap : Nat} (h : MX w m Q c S) (p : Int) (l : Bool) (hx : Below w.heap.size w wx)
    (ho : w1.ownsRow 0 44 2 (.slice (some ⟨g, 0, none⟩) (S.length + 1) cap) (S.length + 1) (S.flatMap sV ++ [.int .i64 p, .bool l])) (hg : wx.grownBy w1 (Value.slice Q S.length c).ownBlock) (hat : (Value.slice Q S.length c).ownBlock = some g ∨ w.heap.size ≤ g) :
    MGo m Q (S ++ [(p, l)]) w (w1.setCell ⟨m, 0, none⟩ (.slice (some ⟨g, 0, none⟩) (S.length + 1) cap)) := by
  rw [own_blk] at hg hat
  have T1 := Tn.grown hx hg
  have hlt := h.lt
  have hgm : g ≠ m := by
    intro e; subst e
    rcases hat with h1 | h1
    · exact h.ne h1
    · omega
  refine ⟨some ⟨g, 0, none⟩, cap, ⟨?_, ?_⟩, (T1.mono fun b hb => .inl (.inr hb)).set (.inl (.inl rfl)) _, fun k hk => ?_⟩
  · rw [heap_setCell_same _ m 0 _ _ _ ((T1.block m hlt h.ne).trans h.hm)]
    simp
  · rw [List.flatMap_append, show ([(p, l)] : TS).flatMap sV = [.int .i64 p, .bool l] from rfl, show (S ++ ([(p, l)] : TS)).length = S.length + 1 from by simp]
    exact row_keep ho fun k hk => by cases hk; exact Below.heap_setCell _ _ _ _ hgm
  · have hk : g = k := by simpa [blk] using hk
    subst hk; exact hat
theorem MX.pushed {wx w1 : World} (h : MX w m Q c S) (hx : Below w.heap.size w wx) (hg : wx.grownBy w1 (Value.slice Q S.length c).ownBlock) : w1.cell? ⟨m, 0, none⟩ = some (.slice Q S.length c) ∧ w1.frozen? ⟨m, 0, none⟩ = false := by
  have e := (Tn.grown hx hg).block m h.lt (by rw [own_blk]; exact h.ne)
  exact ⟨(cell_blk e 0).trans h.c0, (World.frozen?_of_block (a := ⟨m, 0, none⟩) e).trans (h.f0 0)⟩
theorem MX.cut {i q : Nat} {p : Int} {l : Bool} (h : MX w m Q c S) (hs : S[i]? = some (p, l)) (hQ : Q = some ⟨q, 0, none⟩) : MGo m Q (cut S i) w (w.setCell ⟨q, i * 2 + 1, none⟩ (.bool false)) := by
  subst hQ
  have hmq : m ≠ q := fun e => h.ne (by rw [e]; rfl)
  refine ⟨some ⟨q, 0, none⟩, c, ⟨?_, ?_⟩, (Tn.refl _ w).set (.inl (.inr rfl)) _, fun k hk => .inl hk⟩
  · rw [Below.heap_setCell _ _ _ _ hmq, h.hm, cut_len]
  · have := (h.own.stored (i * 2 + 1) (.bool false)).1
    rw [flat_set sV 2 sV_len _ (p, false) S i (p, l) hs 1 (by omega) rfl] at this
    rw [cut_len, cut_some hs]; exact this
theorem madd_arg (h : MX w m Q c S) (p : Int) (l : Bool) (hp : p < -1 ∨ (S.length : Int) ≤ p) : Calls Try.prog 11 #[.pointer (some ⟨m, 0, none⟩), .int .i64 p, .bool l] w fun e w' => e = .returned (.tuple #[.int .i64 0, .int .i64 1]) ∧ w = w' := by
  have h0 := h.c0
  clear h
  by_cases b1 : p < -1
  · clear hp h0
    go_enter Try.func11, Try.ntmps11
    go_wp2_with fail
    go_ret2
    exact ⟨rfl, rfl⟩
  · have b2 : (S.length : Int) ≤ p := by omega
    clear hp
    go_enter Try.func11, Try.ntmps11
    go_wp2_with fail
    go_ret2
    exact ⟨rfl, rfl⟩
theorem madd_full (h : MX w m Q c S) (hn : S.length = 1000) (p : Int) (l : Bool) (hp : -1 ≤ p ∧ p < (S.length : Int)) : Calls Try.prog 11 #[.pointer (some ⟨m, 0, none⟩), .int .i64 p, .bool l] w fun e w' => e = .returned (.tuple #[.int .i64 0, .int .i64 3]) ∧ w = w' := by
  have h0 := h.c0
  rw [hn] at h0 hp
  have b1 : ¬ p < -1 := by omega
  have b2 : ¬ (1000 : Int) ≤ p := by omega
  have b3 : p < 1000 := by omega
  clear hp h hn
  go_enter Try.func11, Try.ntmps11
  go_wp2_with fail
  go_ret2
  exact ⟨rfl, rfl⟩
theorem madd_in (h : MX w m Q c S) (hn : S.length < 1000) (p : Int) (l l2 : Bool) (hp : -1 ≤ p ∧ p < (S.length : Int)) (hl : l2 = (l && decide (0 ≤ p))) : Calls Try.prog 11 #[.pointer (some ⟨m, 0, none⟩), .int .i64 p, .bool l] w fun e w' => e = .returned (.tuple #[.int .i64 (S.length : Int), .int .i64 0]) ∧ Hid (MGo m Q (S ++ [(p, l2)]) w w') := by
  obtain ⟨i0, hi, hz0, hz1, hz2⟩ := info_parts inf44
  have h0 := h.c0
  have hfa := h.f0 0
  have HX := Lib.hid h
  have b1 : ¬ p < -1 := by omega
  have b2 : ¬ (S.length : Int) ≤ p := by omega
  have b3 : ¬ (1000 : Int) ≤ (S.length : Int) := by omega
  have b4 : (S.length : Int) ≤ 1000 := by omega
  have HB := Lib.hid (below_al w (.cells #[.int .i64 p, .bool l2] 44))
  have hq : ∀ (g cap : Nat) (w1 : World), (w.alloc (.cells #[.int .i64 p, .bool l2] 44)).grownBy w1 (Value.slice Q S.length c).ownBlock → w1.ownsRow 0 44 2 (.slice (some ⟨g, 0, none⟩) (S.length + 1) cap) (S.length + 1) (S.flatMap sV ++ [.int .i64 p, .bool l2]) → ((Value.slice Q S.length c).ownBlock = some g ∨ g = w.heap.size + 1) →
      MGo m Q (S ++ [(p, l2)]) w (w1.setCell ⟨m, 0, none⟩ (.slice (some ⟨g, 0, none⟩) (S.length + 1) cap)) := fun g cap w1 hg ho hat => HX.out.push p l2 HB.out ho hg (hat.imp id (by omega))
  have KEY := Lib.hid hq
  clear hq hp h
  cases l with
  | false =>
    obtain rfl : l2 = false := hl
    go_enter Try.func11, Try.ntmps11
    go_wp2_with (at_builtin; go_loud (refine wpList_append_lies _ rfl (.tmp 29) (.tmp 37) 27 rfl 0 44 i0 _ 2 16 Try.underlying27 hi hz0 hz1 hz2 rfl (by omega) (.slice Q S.length c) S.length (S.flatMap sV) rfl (row_later HX.out.own HB.out) ⟨w.heap.size, 0, none⟩ 1 1 [.int .i64 p, .bool false] rfl rfl (World.news_of_block (cs := #[.int .i64 p, .bool false]) (heap_alloc_new w _)) (sd_cell _ _) (by omega) (by unfold maxLen; omega) (by omega) (by omega) (w.heap.size + 1) (by first | (simp; done) | (simp; rfl)) ?_; intro g cap w1 hown hgrow hat hlt1; have HE := Lib.hid (KEY.out g cap w1 hgrow hown hat); have hc1 := (HX.out.pushed HB.out hgrow).1; have hf1 := (HX.out.pushed HB.out hgrow).2; clear hown hgrow hat hlt1 h0 hfa))
    go_ret2
    exact ⟨rfl, HE⟩
  | true =>
    by_cases c1 : 0 ≤ p
    · obtain rfl : l2 = true := by rw [hl]; simp [c1]
      clear hl
      go_enter Try.func11, Try.ntmps11
      go_wp2_with (at_builtin; go_loud (refine wpList_append_lies _ rfl (.tmp 29) (.tmp 37) 27 rfl 0 44 i0 _ 2 16 Try.underlying27 hi hz0 hz1 hz2 rfl (by omega) (.slice Q S.length c) S.length (S.flatMap sV) rfl (row_later HX.out.own HB.out) ⟨w.heap.size, 0, none⟩ 1 1 [.int .i64 p, .bool true] rfl rfl (World.news_of_block (cs := #[.int .i64 p, .bool true]) (heap_alloc_new w _)) (sd_cell _ _) (by omega) (by unfold maxLen; omega) (by omega) (by omega) (w.heap.size + 1) (by first | (simp; done) | (simp; rfl)) ?_; intro g cap w1 hown hgrow hat hlt1; have HE := Lib.hid (KEY.out g cap w1 hgrow hown hat); have hc1 := (HX.out.pushed HB.out hgrow).1; have hf1 := (HX.out.pushed HB.out hgrow).2; clear hown hgrow hat hlt1 h0 hfa))
      go_ret2
      exact ⟨rfl, HE⟩
    · obtain rfl : l2 = false := by rw [hl]; simp [c1]
      clear hl
      go_enter Try.func11, Try.ntmps11
      go_wp2_with (at_builtin; go_loud (refine wpList_append_lies _ rfl (.tmp 29) (.tmp 37) 27 rfl 0 44 i0 _ 2 16 Try.underlying27 hi hz0 hz1 hz2 rfl (by omega) (.slice Q S.length c) S.length (S.flatMap sV) rfl (row_later HX.out.own HB.out) ⟨w.heap.size, 0, none⟩ 1 1 [.int .i64 p, .bool false] rfl rfl (World.news_of_block (cs := #[.int .i64 p, .bool false]) (heap_alloc_new w _)) (sd_cell _ _) (by omega) (by unfold maxLen; omega) (by omega) (by omega) (w.heap.size + 1) (by first | (simp; done) | (simp; rfl)) ?_; intro g cap w1 hown hgrow hat hlt1; have HE := Lib.hid (KEY.out g cap w1 hgrow hown hat); have hc1 := (HX.out.pushed HB.out hgrow).1; have hf1 := (HX.out.pushed HB.out hgrow).2; clear hown hgrow hat hlt1 h0 hfa))
      go_ret2
      exact ⟨rfl, HE⟩
theorem mdet_no (h : MX w m Q c S) (i : Int) (hi : i < 0 ∨ (S.length : Int) ≤ i) : Calls Try.prog 13 #[.pointer (some ⟨m, 0, none⟩), .int .i64 i] w fun e w' => e = .returned (.bool false) ∧ w = w' := by
  have h0 := h.c0
  clear h
  by_cases b1 : i < 0
  · clear hi h0
    go_enter Try.func13, Try.ntmps13
    go_wp2_with fail
    go_ret
    exact ⟨rfl, rfl⟩
  · have b2 : (S.length : Int) ≤ i := by omega
    clear hi
    go_enter Try.func13, Try.ntmps13
    go_wp2_with fail
    go_ret
    exact ⟨rfl, rfl⟩
theorem mdet_off (h : MX w m Q c S) (i : Nat) {p : Int} (hs : S[i]? = some (p, false)) : Calls Try.prog 13 #[.pointer (some ⟨m, 0, none⟩), .int .i64 (i : Int)] w fun e w' => e = .returned (.bool false) ∧ w = w' := by
  have hi := (List.getElem?_eq_some_iff.1 hs).1
  have h0 := h.c0
  obtain ⟨q, rfl, _, e1, e2⟩ := h.form hs
  have b1 : ¬ (i : Int) < 0 := by omega
  have b2 : ¬ (S.length : Int) ≤ (i : Int) := by omega
  have b3 : (i : Int) < (S.length : Int) := by omega
  have b4 : (0 : Int) ≤ (i : Int) := by omega
  clear h hs e1
  go_enter Try.func13, Try.ntmps13
  go_wp2_with fail
  go_ret
  exact ⟨rfl, rfl⟩
theorem mdet_yes (h : MX w m Q c S) (i : Nat) {p : Int} (hs : S[i]? = some (p, true)) : Calls Try.prog 13 #[.pointer (some ⟨m, 0, none⟩), .int .i64 (i : Int)] w fun e w' => e = .returned (.bool true) ∧ Hid (MGo m Q (cut S i) w w') := by
  have hi := (List.getElem?_eq_some_iff.1 hs).1
  have h0 := h.c0
  obtain ⟨q, rfl, _, e1, e2⟩ := h.form hs
  have HE : Hid (MGo m (some ⟨q, 0, none⟩) (cut S i) w (w.setCell ⟨q, i * 2 + 1, none⟩ (.bool false))) := h.cut hs rfl
  have hfz := h.own.frozenAt (i * 2 + 1)
  have b1 : ¬ (i : Int) < 0 := by omega
  have b2 : ¬ (S.length : Int) ≤ (i : Int) := by omega
  have b3 : (i : Int) < (S.length : Int) := by omega
  have b4 : (0 : Int) ≤ (i : Int) := by omega
  clear h hs e1
  go_enter Try.func13, Try.ntmps13
  go_wp2_with fail
  go_ret
  exact ⟨rfl, HE⟩
end
/-- Who of the first k hangs on x, be x there or not. -/
def mk (S : TS) (x : Int) (k : Nat) : List Nat := (List.range k).filter fun j => match S[j]? with
  | some (p, l) => l && p == x
  | none => false
theorem mk_in {S : TS} {x : Int} {k : Nat} (h : S[k]? = some (x, true)) : mk S x (k + 1) = mk S x k ++ [k] := by
  unfold mk; rw [List.range_succ, List.filter_append, List.filter_cons, h]; simp
theorem mk_out {S : TS} {x p : Int} {l : Bool} {k : Nat} (h : S[k]? = some (p, l)) (hn : (l && p == x) = false) : mk S x (k + 1) = mk S x k := by
  unfold mk; rw [List.range_succ, List.filter_append, List.filter_cons, h]; simp only [hn]; simp
theorem mk_len (S : TS) (x : Int) (k : Nat) : (mk S x k).length ≤ k := Nat.le_trans (List.length_filter_le _ _) (by simp)
theorem mk_kids {S : TS} (h : WF S) (i : Nat) : mk S (i : Int) S.length = kids S i := by
  unfold mk kids
  apply filter_same
  intro j hj
  unfold kidOf
  cases e : S[j]? with
  | none => rfl
  | some y =>
    obtain ⟨p, l⟩ := y
    have hw := h j p l e
    show (l && p == (i : Int)) = (l && p == (i : Int) && decide (i < j))
    by_cases c : p = (i : Int)
    · rw [decide_eq_true (show i < j by omega), Bool.and_true]
    · rw [beq_eq_false_iff_ne.2 c]; simp
theorem mk_none {S : TS} (h : WF S) (x : Int) (hx : x < 0 ∨ (S.length : Int) ≤ x) : mk S x S.length = [] := by
  unfold mk
  rw [List.filter_eq_nil_iff]
  intro j hj
  have hj := List.mem_range.1 hj
  split
  · rename_i p l e
    have hw := h j p l e
    cases l with
    | false => simp
    | true =>
      have := hw.2.2 rfl
      simp; omega
  · simp
section
variable {w : World} {m c : Nat} {Q : Option Addr} {S : TS}
theorem mkids (h : MX w m Q c S) (hS : S.length ≤ 1000) (x : Int) : Calls Try.prog 19 #[.pointer (some ⟨m, 0, none⟩), .int .i64 x] w (RowR (nz (mk S x S.length)) w) := by
  obtain ⟨i3, hi3, hy0, hy1, hy2⟩ := info_parts inf3
  have HX := Lib.hid h
  have h1 : (S.length : Int) ≤ 1000 := by omega
  clear h
  go_enter Try.func19, Try.ntmps19
  go_wp2_with fail
  go_loopw [5, 6] (fun s5 s6 wr => ∃ (k c n : Nat) (P : Option Addr), k ≤ S.length ∧ s6 = .int .i64 k ∧ s5 = .slice P n c ∧ n ≤ k ∧ Hid (n = (nz (mk S x k)).length) ∧ Hid (Rw w.heap.size wr P c (nz (mk S x k))) ∧ Hid (Below w.heap.size w wr)) (fun _ s6 _ => S.length - (intOf s6).toNat)
  case atStart => exact ⟨0, 0, 0, none, by omega, rfl, rfl, by omega, rfl, World.ownsRow_nil _ _ _ _, Below.refl _ _⟩
  case round =>
    obtain ⟨k, c, n, P, hk, rfl, rfl, hnk, hn, hR, hB⟩ := hrel
    have h0 := (HX.out.later hB.out).c0
    by_cases hlt : k < S.length
    · obtain ⟨⟨p, l⟩, hs⟩ : ∃ y, S[k]? = some y := ⟨_, List.getElem?_eq_getElem hlt⟩
      obtain ⟨q, hq, _, e1, e2⟩ := (HX.out.later hB.out).form hs
      have b1 : (k : Int) < (S.length : Int) := by omega
      have b2 : (0 : Int) ≤ (k : Int) := by omega
      have HS := Lib.hid hs
      subst hq
      clear hs
      cases l with
      | false =>
        have HK : Hid (mk S x (k + 1) = mk S x k) := mk_out HS.out rfl
        go_wp2_with fail
        go_roundw
        case rel => exact ⟨k + 1, c, n, P, by omega, by go_num, rfl, by omega, by rw [HK.out]; exact hn, by rw [HK.out]; exact hR, hB⟩
        case measure => simp [intOf]; omega
      | true =>
        by_cases e : p = x
        · subst e
          have HK : Hid (mk S p (k + 1) = mk S p k ++ [k]) := mk_in HS.out
          go_wp2_with (at_builtin; go_loud (refine wpList_append_lies _ rfl (.tmp 36) (.tmp 38) 41 rfl w.heap.size 3 i3 _ 1 8 Try.underlying41 hi3 hy0 hy1 hy2 rfl (by omega) (.slice P n c) n (iV (nz (mk S p k))) rfl (by have hR2 := row_later (w' := wr.alloc (.cells #[.int .i64 (k : Int)] 3)) hR.out (below_al _ _); rw [← hn.out] at hR2; exact hR2) ⟨wr.heap.size, 0, none⟩ 1 1 [.int .i64 (k : Int)] rfl rfl (World.news_of_block (cs := #[.int .i64 (k : Int)]) (heap_alloc_new wr _)) (int_cell _) (by omega) (by unfold maxLen; omega) (by omega) (by have := hB.out.size; simp; omega) (wr.heap.size + 1) (by first | (simp; done) | (simp; rfl)) ?_; intro g cap w1 hown hgrow hat hlt1; have HR2 : Hid (Rw w.heap.size w1 (some ⟨g, 0, none⟩) cap (nz (mk S p (k + 1)))) := (by rw [HK.out, nz_app]; show w1.ownsRow _ _ _ _ _ _; rw [show (nz (mk S p k) ++ nz [k]).length = n + 1 from (by rw [List.length_append, ← hn.out]; rfl), iV_app]; exact hown); have HB2 : Hid (Below w.heap.size w w1) := (by refine (hB.out.trans ((below_al wr _).mono hB.out.size)).grown hgrow (by have := hB.out.size; simp; omega) ?_; intro j hj; rw [own_blk] at hj; exact (row_lt hR.out hj).1); clear hown hgrow hat hlt1))
          go_roundw
          case rel => exact ⟨k + 1, cap, n + 1, _, by omega, by go_num, rfl, by omega, by rw [HK.out, nz_app]; show _ = _; rw [List.length_append, ← hn.out]; rfl, HR2, HB2⟩
          case measure => simp [intOf]; omega
        · have e9 : (p == x) = false := beq_eq_false_iff_ne.2 e
          have HK : Hid (mk S x (k + 1) = mk S x k) := mk_out HS.out (by rw [e9]; rfl)
          clear e
          go_wp2_with fail
          go_roundw
          case rel => exact ⟨k + 1, c, n, P, by omega, by go_num, rfl, by omega, by rw [HK.out]; exact hn, by rw [HK.out]; exact hR, hB⟩
          case measure => simp [intOf]; omega
    · have hk' : k = S.length := by omega
      have HK := Lib.hid hk'
      have b1 : ¬ (k : Int) < (S.length : Int) := by omega
      clear hk'
      go_wp2_with fail
      go_ret
      rw [HK.out] at hn hR
      exact ⟨P, c, n, hn, rfl, hR, hB⟩
end
end Go.Proofs.Ytplckaodenpdbaa
