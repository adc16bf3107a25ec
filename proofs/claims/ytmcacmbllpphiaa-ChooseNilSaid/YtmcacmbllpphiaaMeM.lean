/- Several channels without room, on which tasks wait in order: plain mathematics. No condition. -/
import Derived.Test.YtmcacmbllpphiaaRz
namespace Go.Proofs.Ytmcacmbllpphiaa
open Go.RowKit
set_option linter.unusedVariables false

theorem rdy_all {S : List CS} {l : List Ca} : ∀ k, k ≤ l.length → (∀ x ∈ l, canO S x = true) → rdy S l k = List.range k
  | 0, _, _ => rfl
  | k + 1, hk, h => by
    have hx : l[k]? = some l[k] := List.getElem?_eq_getElem (by omega)
    rw [rdy_yes hx (h _ (List.getElem_mem _)), rdy_all k (by omega) h, List.range_succ]
theorem rdy_none {S : List CS} {l : List Ca} : ∀ k, k ≤ l.length → (∀ x ∈ l, canO S x = false) → rdy S l k = []
  | 0, _, _ => rfl
  | k + 1, hk, h => by
    have hx : l[k]? = some l[k] := List.getElem?_eq_getElem (by omega)
    rw [rdy_no hx (h _ (List.getElem_mem _)), rdy_none k (by omega) h]
theorem wrg_all {S : List CS} {l : List Ca} : ∀ k, k ≤ l.length → (∀ x ∈ l, kndO S x = false) → wrg S l k = none
  | 0, _, _ => rfl
  | k + 1, hk, h => by
    have hx : l[k]? = some l[k] := List.getElem?_eq_getElem (by omega)
    rw [wrg_same hx (h _ (List.getElem_mem _)), wrg_all k (by omega) h]
/-- None can be done. -/
theorem doS_none {S : List CS} {l : List Ca} {draw task : Int} (df : Bool) (hn : l.length ≤ 16) (ht : 0 ≤ task) (hc : ∀ x ∈ l, canO S x = false) (hk : ∀ x ∈ l, kndO S x = false) : doS S l df draw task = (if df = true then S else pkS S l task l.length, ⟨-1, 0, false, false, !df, false⟩, [], 0) := by
  unfold doS
  rw [if_neg (by omega), wrg_all _ (Nat.le_refl _) hk, rdy_none _ (Nat.le_refl _) hc]
  simp only [List.getElem?_nil]
  cases df <;> rfl

/-! On each channel one queue. -/
def c0 : CS := ⟨0, false, 0, [], [], []⟩
def mS (n : Nat) (b : Bool) (q : Nat → List Wt) : List CS := (List.range n).map fun i => c0.sq b (q i)
def mL (n : Nat) (b : Bool) : List Ca := (List.range n).map fun i : Nat => ⟨some i, b, 20 + (i : Int)⟩
theorem mS_len (n : Nat) (b : Bool) (q : Nat → List Wt) : (mS n b q).length = n := by simp [mS]
theorem mL_len (n : Nat) (b : Bool) : (mL n b).length = n := by simp [mL]
theorem mS_at {n k : Nat} (b : Bool) (q : Nat → List Wt) (h : k < n) : (mS n b q)[k]? = some (c0.sq b (q k)) := by simp [mS, h]
theorem mL_at {n k : Nat} (b : Bool) (h : k < n) : (mL n b)[k]? = some ⟨some k, b, 20 + (k : Int)⟩ := by simp [mL, h]
theorem mL_succ (n : Nat) (b : Bool) : mL (n + 1) b = mL n b ++ [⟨some n, b, 20 + (n : Int)⟩] := by simp [mL, List.range_succ]
theorem mS_succ (n : Nat) (b : Bool) (q : Nat → List Wt) : mS (n + 1) b q = mS n b q ++ [c0.sq b (q n)] := by simp [mS, List.range_succ]
theorem mS_set {n k : Nat} (b : Bool) (q : Nat → List Wt) (h : k < n) (l : List Wt) : (mS n b q).set k (c0.sq b l) = mS n b (fun i => if i = k then l else q i) := by
  apply List.ext_getElem?
  intro j
  rw [set_at (mS_at b q h)]
  by_cases e : j = k
  · subst e; rw [if_pos rfl, mS_at b _ h, if_pos rfl]
  · rw [if_neg e]
    by_cases hj : j < n
    · rw [mS_at b q hj, mS_at b _ hj, if_neg e]
    · rw [List.getElem?_eq_none_iff.2 (by rw [mS_len]; omega), List.getElem?_eq_none_iff.2 (by rw [mS_len]; omega)]
theorem mS_ext {n : Nat} (b : Bool) {q r : Nat → List Wt} (h : ∀ i, i < n → q i = r i) : mS n b q = mS n b r := by
  unfold mS
  exact List.map_congr_left fun i hi => by rw [h i (List.mem_range.1 hi)]
theorem c0_can (b : Bool) (l : List Wt) : can (c0.sq b l) b = false := by cases b <;> rfl
theorem c0_not (b : Bool) (x : Wt) (l : List Wt) : can (c0.sq b (x :: l)) (!b) = true := by cases b <;> rfl
theorem c0_wt (b : Bool) (l : List Wt) (x : Wt) : wt (c0.sq b l) x b = (c0.sq b (l ++ [x]), 0) := by cases b <;> rfl
theorem mem_mL {n : Nat} {b : Bool} {x : Ca} (h : x ∈ mL n b) : ∃ i, i < n ∧ x = ⟨some i, b, 20 + (i : Int)⟩ := by
  obtain ⟨i, hi, rfl⟩ := List.mem_map.1 h
  exact ⟨i, List.mem_range.1 hi, rfl⟩
theorem chO_m {n i : Nat} {b b' : Bool} {v : Int} {q : Nat → List Wt} (h : i < n) : chO (mS n b q) ⟨some i, b', v⟩ = some (c0.sq b (q i)) := by simp [chO, mS_at b q h]
theorem sq_kd (b : Bool) (l : List Wt) : (c0.sq b l).kd = 0 := by cases b <;> rfl
theorem m_can {n : Nat} {b : Bool} {q : Nat → List Wt} : ∀ x ∈ mL n b, canO (mS n b q) x = false := by
  intro x hx
  obtain ⟨i, hi, rfl⟩ := mem_mL hx
  unfold canO
  rw [chO_m hi]
  exact c0_can b _
theorem m_knd {n : Nat} {b : Bool} {q : Nat → List Wt} : ∀ x ∈ mL n b, kndO (mS n b q) x = false := by
  intro x hx
  obtain ⟨i, hi, rfl⟩ := mem_mL hx
  unfold kndO
  rw [chO_m hi]
  simp [sq_kd]
def mV (b : Bool) (i : Nat) : Int := if b = true then 20 + (i : Int) else 0
theorem m_pk (n : Nat) (b : Bool) (q : Nat → List Wt) (t : Int) : ∀ k, k ≤ n → pkS (mS n b q) (mL n b) t k = mS n b (fun i => if i < k then q i ++ [⟨t, i, mV b i⟩] else q i)
  | 0, _ => by simp [pkS]
  | k + 1, hk => by
    rw [pkS_succ (mL_at b (show k < n by omega)), m_pk n b q t k (by omega)]
    unfold pk1
    simp only
    rw [mS_at b _ (show k < n by omega)]
    simp only [Nat.lt_irrefl, if_false]
    rw [c0_wt]
    simp only
    rw [mS_set b _ (show k < n by omega)]
    refine mS_ext b fun i hi => ?_
    by_cases e : i = k
    · subst e; rw [if_pos (show i = i from rfl), if_pos (show i < i + 1 by omega)]; rfl
    · rw [if_neg e]
      by_cases h2 : i < k
      · rw [if_pos h2, if_pos (show i < k + 1 by omega)]
      · rw [if_neg h2, if_neg (show ¬ i < k + 1 by omega)]
theorem m_park {n : Nat} (b : Bool) (q : Nat → List Wt) (t : Int) (hn : n ≤ 16) (ht : 0 ≤ t) : doS (mS n b q) (mL n b) false 0 t = (mS n b (fun i => q i ++ [⟨t, i, mV b i⟩]), ⟨-1, 0, false, false, true, false⟩, [], 0) := by
  rw [doS_none false (by rw [mL_len]; exact hn) ht m_can m_knd, if_neg (by simp), mL_len, m_pk n b q t n (Nat.le_refl _)]
  have e := mS_ext b (q := fun i => if i < n then q i ++ [⟨t, i, mV b i⟩] else q i) (r := fun i => q i ++ [⟨t, i, mV b i⟩]) (n := n) (fun i hi => if_pos hi)
  rw [e]
  rfl
/-- A third one meets the first. -/
theorem m_meet {n k : Nat} (b : Bool) (q : Nat → List Wt) (hk : k < n) (c v : Int) (r : List Wt) (hq : q k = ⟨5, c, v⟩ :: r) : doS (mS n b q) [⟨some k, !b, 8⟩] true 0 7 = (mS n b (fun i => if i = k then r else q i), ⟨0, if b = true then v else 0, true, false, false, false⟩, [⟨5, c, if b = true then 0 else 8, true, false⟩], 0) := by
  have hc : canO (mS n b q) ⟨some k, !b, 8⟩ = true := by unfold canO; rw [chO_m hk, hq]; exact c0_not b _ _
  have hkn : kndO (mS n b q) ⟨some k, !b, 8⟩ = false := by unfold kndO; rw [chO_m hk]; simp [sq_kd]
  unfold doS
  rw [if_neg (by simp), wrg_all _ (Nat.le_refl _) (by intro x hx; simp at hx; subst hx; exact hkn), rdy_all _ (Nat.le_refl _) (by intro x hx; simp at hx; subst hx; exact hc)]
  simp only [List.length_singleton, List.length_range]
  have hd : doX (mS n b q) ⟨some k, !b, 8⟩ = (mS n b (fun i => if i = k then r else q i), ⟨0, if b = true then v else 0, true, false, false, false⟩, [⟨5, c, if b = true then 0 else 8, true, false⟩]) := by
    unfold doX
    simp only
    rw [mS_at b q hk, hq]
    simp only
    cases b
    · rw [if_pos (show (!false) = true from rfl), ← mS_set false q hk r]; rfl
    · rw [if_neg (show ¬ (!true) = true by simp), ← mS_set true q hk r]; rfl
  rw [show (List.range 1)[((0 : Int) % ((1 : Nat) : Int)).toNat]? = some 0 from rfl]
  simp only [List.getElem?_cons_zero]
  rw [hd]
  rfl
/-- How many. -/
def sm (c : Nat → Nat) : Nat → Int
  | 0 => 0
  | k + 1 => sm c k + (c k : Int)
theorem sm_ext {c d : Nat → Nat} : ∀ k, (∀ i, i < k → c i = d i) → sm c k = sm d k
  | 0, _ => rfl
  | k + 1, h => by simp only [sm]; rw [sm_ext k (fun i hi => h i (by omega)), h k (by omega)]
theorem sm_one : ∀ k, sm (fun _ => 1) k = (k : Int)
  | 0 => rfl
  | k + 1 => by simp only [sm]; rw [sm_one k]; push_cast; rfl
theorem sm_zero : ∀ k, sm (fun _ => 0) k = 0
  | 0 => rfl
  | k + 1 => by simp only [sm]; rw [sm_zero k]; rfl
theorem sm_but (j : Nat) : ∀ k, sm (fun i => if i = j then 0 else 1) k = if j < k then (k : Int) - 1 else k
  | 0 => by simp [sm]
  | k + 1 => by
    simp only [sm]
    rw [sm_but j k]
    by_cases h1 : j < k
    · rw [if_pos h1, if_pos (show j < k + 1 by omega), if_neg (show ¬ k = j by omega)]; push_cast; omega
    · by_cases h2 : j = k
      · subst h2; rw [if_neg h1, if_pos (show j = j from rfl), if_pos (show j < j + 1 by omega)]; push_cast; omega
      · rw [if_neg h1, if_neg (show ¬ k = j by omega), if_neg (show ¬ j < k + 1 by omega)]; push_cast; omega
theorem c0_gone (b : Bool) (l : List Wt) (t : Int) : gone (c0.sq b l) t = c0.sq b (l.filter fun x => !isT t x) := by cases b <;> rfl
theorem c0_ct (b : Bool) (l : List Wt) (t : Int) : ctG (c0.sq b l) t = (l.countP (isT t) : Int) := by cases b <;> simp [ctG, c0, CS.sq]
theorem m_lv (n : Nat) (b : Bool) (q : Nat → List Wt) (t : Int) : ∀ k, k ≤ n → lvS (mS n b q) (mL n b) t k = (mS n b (fun i => if i < k then (q i).filter (fun x => !isT t x) else q i), sm (fun i => (q i).countP (isT t)) k)
  | 0, _ => by simp [lvS, sm]
  | k + 1, hk => by
    rw [lvS_succ (mL_at b (show k < n by omega)), m_lv n b q t k (by omega)]
    unfold lv1
    simp only
    rw [mS_at b _ (show k < n by omega)]
    simp only [Nat.lt_irrefl, if_false]
    rw [c0_gone, c0_ct, mS_set b _ (show k < n by omega)]
    refine Prod.ext (mS_ext b fun i hi => ?_) rfl
    by_cases e : i = k
    · subst e; rw [if_pos (show i = i from rfl), if_pos (show i < i + 1 by omega)]
    · rw [if_neg e]
      by_cases h2 : i < k
      · rw [if_pos h2, if_pos (show i < k + 1 by omega)]
      · rw [if_neg h2, if_neg (show ¬ i < k + 1 by omega)]
theorem m_leave {n : Nat} (b : Bool) (q r : Nat → List Wt) (t k : Int) (c : Nat → Nat) (hr : ∀ i, i < n → (q i).filter (fun x => !isT t x) = r i) (hc : ∀ i, i < n → (q i).countP (isT t) = c i) (hk : sm c n = k) : lvS (mS n b q) (mL n b) t (mL n b).length = (mS n b r, k) := by
  rw [mL_len, m_lv n b q t n (Nat.le_refl _)]
  have e := mS_ext b (q := fun i => if i < n then (q i).filter (fun x => !isT t x) else q i) (r := r) (n := n) (fun i hi => (if_pos hi).trans (hr i hi))
  rw [e, sm_ext n hc, hk]
theorem BN_m {n m : Nat} (b : Bool) (q : Nat → List Wt) (h : ∀ i, i < n → (q i).length ≤ m) : BN m (mS n b q) := by
  intro s hs
  obtain ⟨i, hi, rfl⟩ := List.mem_map.1 hs
  have := h i (List.mem_range.1 hi)
  cases b <;> simpa [nw, c0, CS.sq] using this
end Go.Proofs.Ytmcacmbllpphiaa
