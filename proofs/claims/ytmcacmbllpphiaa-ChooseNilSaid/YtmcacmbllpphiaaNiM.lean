/- Cases of no channel, and one among them: plain mathematics; a row of cases, put together. No condition. -/
import Derived.Test.YtmcacmbllpphiaaRq
namespace Go.Proofs.Ytmcacmbllpphiaa
open Go.RowKit
set_option linter.unusedVariables false

def nS : List CS := [⟨0, false, 1, [6], [], []⟩]
def NilL (l : List Ca) : Prop := ∀ x ∈ l, x.ix = none
theorem nil_ch {S : List CS} {x : Ca} (h : x.ix = none) : chO S x = none := by unfold chO; rw [h]; rfl
theorem nil_can {S : List CS} {x : Ca} (h : x.ix = none) : canO S x = false := by unfold canO; rw [nil_ch h]
theorem nil_knd {S : List CS} {x : Ca} (h : x.ix = none) : kndO S x = false := by unfold kndO; rw [nil_ch h]
theorem nil_ptr {B : List Nat} {x : Ca} (h : x.ix = none) : ptr B x = none := by unfold ptr; rw [h]; rfl
theorem nil_caF {B : List Nat} {l : List Ca} (h : NilL l) : caF B l = caF [] l := by
  unfold caF
  simp only [List.flatMap]
  congr 1
  exact List.map_congr_left fun x hx => by simp only [caV, nil_ptr (h x hx)]
theorem nil_pk {S : List CS} {l : List Ca} (h : NilL l) (t : Int) : ∀ k, pkS S l t k = S
  | 0 => rfl
  | k + 1 => by
    unfold pkS
    cases hx : l[k]? with
    | none => exact nil_pk h t k
    | some x =>
      simp only
      rw [nil_pk h t k]
      unfold pk1
      rw [h x (List.mem_of_getElem? hx)]
theorem nil_lv {S : List CS} {l : List Ca} (h : NilL l) (t : Int) : ∀ k, lvS S l t k = (S, 0)
  | 0 => rfl
  | k + 1 => by
    unfold lvS
    cases hx : l[k]? with
    | none => exact nil_lv h t k
    | some x =>
      simp only
      rw [nil_lv h t k]
      unfold lv1
      rw [h x (List.mem_of_getElem? hx)]
      rfl
theorem nil_rdy {S : List CS} {l : List Ca} (h : NilL l) : rdy S l l.length = [] := rdy_none _ (Nat.le_refl _) fun x hx => nil_can (h x hx)
theorem nil_do {S : List CS} {l : List Ca} (h : NilL l) (df : Bool) (draw : Int) (hn : l.length ≤ 16) : doS S l df draw 3 = (S, ⟨-1, 0, false, false, !df, false⟩, [], 0) := by
  rw [doS_none df hn (by omega) (fun x hx => nil_can (h x hx)) (fun x hx => nil_knd (h x hx)), nil_pk h]
  split <;> rfl
/-- One among them. -/
def nM (l : List Ca) (k : Nat) : List Ca := l.take k ++ [⟨some 0, false, 0⟩] ++ l.drop k
theorem nM_len {l : List Ca} {k : Nat} (h : k ≤ l.length) : (nM l k).length = l.length + 1 := by simp [nM]; omega
theorem nM_at {l : List Ca} {k : Nat} (h : k ≤ l.length) : (nM l k)[k]? = some ⟨some 0, false, 0⟩ := by
  unfold nM
  rw [List.append_assoc, List.getElem?_append_right (by simp; omega)]
  simp [Nat.min_eq_left h]
theorem nM_not {l : List Ca} {k i : Nat} (hl : NilL l) (h : k ≤ l.length) (hi : i ≠ k) {x : Ca} (hx : (nM l k)[i]? = some x) : x.ix = none := by
  unfold nM at hx
  rw [List.append_assoc] at hx
  by_cases h1 : i < k
  · rw [List.getElem?_append_left (by simp; omega)] at hx
    exact hl x (List.mem_of_mem_take (List.mem_of_getElem? hx))
  · rw [List.getElem?_append_right (by simp; omega)] at hx
    rw [List.length_take, Nat.min_eq_left h] at hx
    obtain ⟨j, hj⟩ : ∃ j, i - k = j + 1 := ⟨i - k - 1, by omega⟩
    rw [hj] at hx
    simp only [List.singleton_append, List.getElem?_cons_succ] at hx
    exact hl x (List.mem_of_mem_drop (List.mem_of_getElem? hx))
theorem nM_rdy {l : List Ca} {k : Nat} (hl : NilL l) (h : k ≤ l.length) : ∀ m, m ≤ (nM l k).length → rdy nS (nM l k) m = if k < m then [k] else []
  | 0, _ => by rw [if_neg (by omega)]; rfl
  | m + 1, hm => by
    have hx : (nM l k)[m]? = some (nM l k)[m] := List.getElem?_eq_getElem (by omega)
    by_cases e : m = k
    · subst e
      rw [rdy_yes (nM_at h) rfl, nM_rdy hl h m (by omega), if_neg (by omega), if_pos (by omega)]
      rfl
    · rw [rdy_no hx (nil_can (nM_not hl h e hx)), nM_rdy hl h m (by omega)]
      by_cases h1 : k < m
      · rw [if_pos h1, if_pos (by omega)]
      · rw [if_neg h1, if_neg (by omega)]
theorem nM_do {l : List Ca} {k : Nat} (hl : NilL l) (h : k ≤ l.length) (hn : l.length ≤ 14) (df : Bool) (draw : Int) : ∃ S', doS nS (nM l k) df draw 3 = (S', ⟨k, 6, true, false, false, false⟩, [], 0) := by
  have hw : wrg nS (nM l k) (nM l k).length = none := wrg_all _ (Nat.le_refl _) (by
    intro x hx
    obtain ⟨i, hi, rfl⟩ := List.mem_iff_getElem.1 hx
    by_cases e : i = k
    · subst e
      have h9 := nM_at (k := i) h
      rw [List.getElem?_eq_getElem hi] at h9
      rw [Option.some.inj h9]
      rfl
    · exact nil_knd (nM_not hl h e (List.getElem?_eq_getElem hi)))
  have hr := nM_rdy hl h _ (Nat.le_refl _)
  rw [if_pos (by rw [nM_len h]; omega)] at hr
  refine ⟨(doX nS ⟨some 0, false, 0⟩).1, ?_⟩
  rw [doS_one (p := k) (q := 0) (x := ⟨some 0, false, 0⟩) (by rw [nM_len h]; omega) (by omega) hw hr (by simp) rfl (nM_at h)]
  rfl
/-! The row that is made: a cell turned. -/
theorem flat_set {α : Type} {f : α → List Value} {s : Nat} (hs : ∀ x, (f x).length = s) : ∀ (l : List α) (i j : Nat) (x x' : α) (u : Value), l[i]? = some x → j < s → f x' = (f x).set j u → (l.flatMap f).set (i * s + j) u = (l.set i x').flatMap f
  | [], i, j, x, x', u, h, _, _ => by simp at h
  | a :: l, 0, j, x, x', u, h, hj, e => by
    simp at h; subst h
    rw [List.flatMap_cons, Nat.zero_mul, Nat.zero_add, List.set_append_left _ _ (by rw [hs]; exact hj), List.set_cons_zero, List.flatMap_cons, e]
  | a :: l, i + 1, j, x, x', u, h, hj, e => by
    rw [List.flatMap_cons, List.set_append_right _ _ (by rw [hs, Nat.add_mul]; omega), List.set_cons_succ, List.flatMap_cons]
    congr 1
    rw [hs, show (i + 1) * s + j - s = i * s + j by rw [Nat.add_mul]; omega]
    exact flat_set hs l i j x x' u (by simpa using h) hj e
/-- Channels beside a row of cases of no channel. -/
theorem RZ.turn {W w : World} {B : List Nat} {S : List CS} {g cap i : Nat} {l : List Ca} {x : Ca} (b : Bool) (h : RZ W B S (.slice (some ⟨g, 0, none⟩) l.length cap) l w) (hx : l[i]? = some x) (hl : NilL l) : ∃ l', l'.length = l.length ∧ NilL l' ∧ RZ W B S (.slice (some ⟨g, 0, none⟩) l'.length cap) l' (w.setCell ⟨g, i * 3 + 1, none⟩ (.bool b)) := by
  obtain ⟨h1, h2⟩ := h.row.stored (i * 3 + 1) (.bool b)
  have e : (caF B l).set (i * 3 + 1) (.bool b) = caF B (l.set i ⟨x.ix, b, x.v⟩) := flat_set (caV_len B) l i 1 x ⟨x.ix, b, x.v⟩ (.bool b) hx (by omega) rfl
  have hn : NilL (l.set i ⟨x.ix, b, x.v⟩) := fun y hy => by
    rcases List.mem_or_eq_of_mem_set hy with h9 | rfl
    · exact hl y h9
    · exact hl x (List.mem_of_getElem? hx)
  refine ⟨l.set i ⟨x.ix, b, x.v⟩, by simp, hn, ?_⟩
  have := h.grow (l' := l.set i ⟨x.ix, b, x.v⟩) (v' := .slice (some ⟨g, 0, none⟩) (l.set i ⟨x.ix, b, x.v⟩).length cap) h2 (by rw [← e, List.length_set]; exact h1)
  exact this
theorem made_ca (n : Nat) : (madeCells #[.pointer none, .bool false, .int .i64 0] (n * 3)).toList = caF [] (List.replicate n ⟨none, false, 0⟩) := by
  apply List.ext_getElem?
  intro j
  by_cases hj : j < n * 3
  · have hx : (List.replicate n (⟨none, false, 0⟩ : Ca))[j / 3]? = some ⟨none, false, 0⟩ := by
      rw [List.getElem?_replicate, if_pos (by omega)]
    have h9 := flat_at (caV []) 3 (caV_len []) _ (j / 3) _ hx (j % 3) (by omega)
    rw [show j / 3 * 3 + j % 3 = j by omega] at h9
    unfold caF
    rw [h9]
    have hm : j % 3 = 0 ∨ j % 3 = 1 ∨ j % 3 = 2 := by omega
    rcases hm with h | h | h <;> simp [madeCells, hj, h, caV, ptr]
  · rw [List.getElem?_eq_none_iff.2 (by simp [madeCells]; omega), List.getElem?_eq_none_iff.2 (by rw [caF_len]; simp; omega)]
end Go.Proofs.Ytmcacmbllpphiaa
