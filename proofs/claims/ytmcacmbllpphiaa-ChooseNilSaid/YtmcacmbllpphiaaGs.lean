/- Rows of channels told by their place: plain mathematics; channels beside a row of cases and a row of numbers. Conditions: each theorem's own premises. -/
import Derived.Test.YtmcacmbllpphiaaMeM
namespace Go.Proofs.Ytmcacmbllpphiaa
open Go.RowKit
set_option linter.unusedVariables false

def gS (n : Nat) (f : Nat → CS) : List CS := (List.range n).map f
def gL (n : Nat) (s : Bool) (v : Int) : List Ca := (List.range n).map fun i : Nat => ⟨some i, s, v⟩
theorem gS_len (n : Nat) (f : Nat → CS) : (gS n f).length = n := by simp [gS]
theorem gL_len (n : Nat) (s : Bool) (v : Int) : (gL n s v).length = n := by simp [gL]
theorem gS_at {n k : Nat} (f : Nat → CS) (h : k < n) : (gS n f)[k]? = some (f k) := by simp [gS, h]
theorem gL_at {n k : Nat} (s : Bool) (v : Int) (h : k < n) : (gL n s v)[k]? = some ⟨some k, s, v⟩ := by simp [gL, h]
theorem gS_succ (n : Nat) (f : Nat → CS) : gS (n + 1) f = gS n f ++ [f n] := by simp [gS, List.range_succ]
theorem gL_succ (n : Nat) (s : Bool) (v : Int) : gL (n + 1) s v = gL n s v ++ [⟨some n, s, v⟩] := by simp [gL, List.range_succ]
theorem gS_ext {n : Nat} {f g : Nat → CS} (h : ∀ i, i < n → f i = g i) : gS n f = gS n g := by
  unfold gS
  exact List.map_congr_left fun i hi => h i (List.mem_range.1 hi)
theorem gS_set {n k : Nat} (f : Nat → CS) (h : k < n) (s : CS) : (gS n f).set k s = gS n (fun i => if i = k then s else f i) := by
  apply List.ext_getElem?
  intro j
  rw [set_at (gS_at f h)]
  by_cases e : j = k
  · subst e; rw [if_pos rfl, gS_at _ h, if_pos rfl]
  · rw [if_neg e]
    by_cases hj : j < n
    · rw [gS_at f hj, gS_at _ hj, if_neg e]
    · rw [List.getElem?_eq_none_iff.2 (by rw [gS_len]; omega), List.getElem?_eq_none_iff.2 (by rw [gS_len]; omega)]
theorem mem_gL {n : Nat} {s : Bool} {v : Int} {x : Ca} (h : x ∈ gL n s v) : ∃ i, i < n ∧ x = ⟨some i, s, v⟩ := by
  obtain ⟨i, hi, rfl⟩ := List.mem_map.1 h
  exact ⟨i, List.mem_range.1 hi, rfl⟩
theorem gptr_more {n : Nat} {s : Bool} {v : Int} {B : List Nat} (h : B.length = n) (c : Nat) : ∀ x ∈ gL n s v, ptr (B ++ [c]) x = ptr B x := by
  intro x hx
  obtain ⟨i, hi, rfl⟩ := mem_gL hx
  simp only [ptr, Option.bind_some]
  rw [List.getElem?_append_left (by omega)]
theorem gcan {n i : Nat} {s : Bool} {v : Int} {f : Nat → CS} (h : i < n) : canO (gS n f) ⟨some i, s, v⟩ = can (f i) s := by simp [canO, chO, gS_at f h]
theorem gknd {n i : Nat} {s : Bool} {v : Int} {f : Nat → CS} (h : i < n) : kndO (gS n f) ⟨some i, s, v⟩ = (s && !((f i).kd == 0)) := by simp [kndO, chO, gS_at f h]
theorem g_pk (n : Nat) (s : Bool) (v : Int) (f : Nat → CS) (t : Int) : ∀ k, k ≤ n → pkS (gS n f) (gL n s v) t k = gS n (fun i => if i < k then (wt (f i) ⟨t, i, if s = true then v else 0⟩ s).1 else f i)
  | 0, _ => by simp [pkS]
  | k + 1, hk => by
    rw [pkS_succ (gL_at s v (show k < n by omega)), g_pk n s v f t k (by omega)]
    unfold pk1
    simp only
    rw [gS_at _ (show k < n by omega)]
    simp only [Nat.lt_irrefl, if_false]
    rw [gS_set _ (show k < n by omega)]
    refine gS_ext fun i hi => ?_
    by_cases e : i = k
    · subst e; rw [if_pos (show i = i from rfl), if_pos (show i < i + 1 by omega)]
    · rw [if_neg e]
      by_cases h2 : i < k
      · rw [if_pos h2, if_pos (show i < k + 1 by omega)]
      · rw [if_neg h2, if_neg (show ¬ i < k + 1 by omega)]
theorem g_lv (n : Nat) (s : Bool) (v : Int) (f : Nat → CS) (t : Int) (c : Nat → Nat) (hc : ∀ i, i < n → ctG (f i) t = (c i : Int)) : ∀ k, k ≤ n → lvS (gS n f) (gL n s v) t k = (gS n (fun i => if i < k then gone (f i) t else f i), sm c k)
  | 0, _ => by simp [lvS, sm]
  | k + 1, hk => by
    rw [lvS_succ (gL_at s v (show k < n by omega)), g_lv n s v f t c hc k (by omega)]
    unfold lv1
    simp only
    rw [gS_at _ (show k < n by omega)]
    simp only [Nat.lt_irrefl, if_false]
    rw [gS_set _ (show k < n by omega), hc k (by omega)]
    refine Prod.ext (gS_ext fun i hi => ?_) rfl
    by_cases e : i = k
    · subst e; rw [if_pos (show i = i from rfl), if_pos (show i < i + 1 by omega)]
    · rw [if_neg e]
      by_cases h2 : i < k
      · rw [if_pos h2, if_pos (show i < k + 1 by omega)]
      · rw [if_neg h2, if_neg (show ¬ i < k + 1 by omega)]
theorem g_leave {n : Nat} (s : Bool) (v : Int) (f g : Nat → CS) (t k : Int) (c : Nat → Nat) (hg : ∀ i, i < n → gone (f i) t = g i) (hc : ∀ i, i < n → ctG (f i) t = (c i : Int)) (hk : sm c n = k) : lvS (gS n f) (gL n s v) t (gL n s v).length = (gS n g, k) := by
  rw [gL_len, g_lv n s v f t c hc n (Nat.le_refl _)]
  have e := gS_ext (f := fun i => if i < n then gone (f i) t else f i) (g := g) (n := n) (fun i hi => (if_pos hi).trans (hg i hi))
  rw [e, hk]
theorem BN_g {n m : Nat} (f : Nat → CS) (h : ∀ i, i < n → nw (f i) ≤ m) : BN m (gS n f) := by
  intro s hs
  obtain ⟨i, hi, rfl⟩ := List.mem_map.1 hs
  exact h i (List.mem_range.1 hi)
/-! The places of those that are true. -/
def wn (l : List Bool) (k : Nat) : List Nat := (List.range k).filter fun i => l[i]? == some true
theorem wn_succ (l : List Bool) (k : Nat) : wn l (k + 1) = if l[k]? = some true then wn l k ++ [k] else wn l k := by
  unfold wn
  rw [List.range_succ, List.filter_append]
  by_cases h : l[k]? = some true
  · rw [if_pos h]; simp [h]
  · rw [if_neg h]
    have : (l[k]? == some true) = false := by rw [beq_eq_false_iff_ne]; exact h
    simp [this]
theorem wn_mem {l : List Bool} {k i : Nat} (h : i ∈ wn l k) : i < k ∧ l[i]? = some true := by
  obtain ⟨h1, h2⟩ := List.mem_filter.1 h
  exact ⟨List.mem_range.1 h1, by simpa using h2⟩
theorem mem_wn {l : List Bool} {k i : Nat} (h1 : i < k) (h2 : l[i]? = some true) : i ∈ wn l k := List.mem_filter.2 ⟨List.mem_range.2 h1, by simp [h2]⟩
theorem wn_nodup (l : List Bool) (k : Nat) : (wn l k).Nodup := List.Pairwise.sublist List.filter_sublist List.nodup_range
theorem wn_len (l : List Bool) (k : Nat) : (wn l k).length ≤ k := by
  have := List.length_filter_le (fun i => l[i]? == some true) (List.range k)
  simpa [wn] using this
theorem g_rdy {n : Nat} {s : Bool} {v : Int} {f : Nat → CS} {l : List Bool} (h : ∀ i, i < n → can (f i) s = (l[i]? == some true)) : rdy (gS n f) (gL n s v) n = wn l n := by
  unfold rdy wn
  refine List.filter_congr fun i hi => ?_
  have hi' := List.mem_range.1 hi
  rw [canA_at (gL_at s v hi'), gcan hi', h i hi']
/-! Draws that are apart by their number. -/
/-- The one that is drawn is done. -/
theorem doS_one {S : List CS} {l : List Ca} {df : Bool} {draw task : Int} {r : List Nat} {p q : Nat} {x : Ca} (hn : l.length ≤ 16) (ht : 0 ≤ task) (hw : wrg S l l.length = none) (hr : rdy S l l.length = r) (hq : draw % (r.length : Int) = (q : Int)) (hp : r[q]? = some p) (hx : l[p]? = some x) : doS S l df draw task = ((doX S x).1, { (doX S x).2.1 with i := p }, (doX S x).2.2, 0) := by
  unfold doS
  rw [if_neg (by omega), hw, hr]
  simp only [hq, Int.toNat_natCast]
  rw [hp]
  simp only
  rw [hx]
end Go.Proofs.Ytmcacmbllpphiaa
