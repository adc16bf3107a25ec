/- How often each is drawn: plain mathematics. No condition. -/
import Derived.Test.YtmcacmbllpphiaaWe
namespace Go.Proofs.Ytmcacmbllpphiaa
open Go.RowKit
set_option linter.unusedVariables false

/-- Which one draw d picks, of n. -/
def dI (a : Int) (n d : Nat) : Nat := ((a + (d : Int)) % (n : Int)).toNat
theorem dI_lt {a : Int} {n d : Nat} (h : 0 < n) : dI a n d < n := by
  unfold dI
  have h1 := Int.emod_nonneg (a + (d : Int)) (show (n : Int) ≠ 0 by omega)
  have h2 := Int.emod_lt_of_pos (a + (d : Int)) (show (0 : Int) < (n : Int) by omega)
  omega
theorem dI_eq {a : Int} {n d : Nat} (h : 0 < n) : (a + (d : Int)) % (n : Int) = (dI a n d : Int) := (Int.toNat_of_nonneg (Int.emod_nonneg _ (by omega))).symm
/-- So often i was picked in the first d draws. -/
def sv (a : Int) (r : List Nat) (d i : Nat) : Nat := (List.range d).countP fun e => r[dI a r.length e]? == some i
theorem sv_zero (a : Int) (r : List Nat) (i : Nat) : sv a r 0 i = 0 := rfl
theorem sv_succ (a : Int) (r : List Nat) (d i : Nat) : sv a r (d + 1) i = sv a r d i + if r[dI a r.length d]? = some i then 1 else 0 := by
  unfold sv
  rw [List.range_succ, List.countP_append]
  congr 1
  by_cases h : r[dI a r.length d]? = some i
  · rw [if_pos h]; simp [h]
  · rw [if_neg h]
    have : (r[dI a r.length d]? == some i) = false := beq_eq_false_iff_ne.2 h
    simp [this]
theorem sv_le (a : Int) (r : List Nat) (d i : Nat) : sv a r d i ≤ d := by
  have := List.countP_le_length (p := fun e => r[dI a r.length e]? == some i) (l := List.range d)
  simpa [sv] using this
theorem sv_not {a : Int} {r : List Nat} {i : Nat} (h : i ∉ r) (d : Nat) : sv a r d i = 0 := by
  unfold sv
  rw [List.countP_eq_zero]
  intro e _ he
  exact h (List.mem_of_getElem? (by simpa using he))
/-- The number of the first draw that picks j. -/
def o1 (a : Int) (n j : Nat) : Nat := (((j : Int) - a) % (n : Int)).toNat
theorem dI_o1 {a : Int} {n j d : Nat} (hn : 0 < n) (hj : j < n) (hd : d < 2 * n) : dI a n d = j ↔ d = o1 a n j ∨ d = o1 a n j + n := by
  have h0 : (n : Int) ≠ 0 := by omega
  have hp : (0 : Int) < (n : Int) := by omega
  have e1 := dI_eq (a := a) (d := d) hn
  have e2 : (((j : Int) - a) % (n : Int)) = (o1 a n j : Int) := (Int.toNat_of_nonneg (Int.emod_nonneg _ h0)).symm
  have b1 := Int.emod_nonneg ((j : Int) - a) h0
  have b2 := Int.emod_lt_of_pos ((j : Int) - a) hp
  constructor
  · intro h
    rw [h] at e1
    -- (a + d) % n = j, so (j - a) % n = d % n
    have e3 : ((j : Int) - a) % (n : Int) = (d : Int) % (n : Int) := by
      have e4 : ((j : Int) - a - (d : Int)) % (n : Int) = 0 := by
        have e5 : (j : Int) - a - (d : Int) = (j : Int) - (a + (d : Int)) := by omega
        rw [e5, Int.sub_emod, e1, Int.emod_eq_of_lt (show (0 : Int) ≤ (j : Int) by omega) (by omega), Int.sub_self, Int.zero_emod]
      have e6 : (j : Int) - a = ((j : Int) - a - (d : Int)) + (d : Int) := by omega
      rw [e6, Int.add_emod, e4, Int.zero_add, Int.emod_emod_of_dvd _ (Int.dvd_refl _)]
    rw [e2] at e3
    have e7 : ((d : Int) % (n : Int)) = ((d % n : Nat) : Int) := by rw [Int.natCast_emod]
    rw [e7] at e3
    have e8 : o1 a n j = d % n := by omega
    rw [e8]
    by_cases hdn : d < n
    · left; rw [Nat.mod_eq_of_lt hdn]
    · right
      have : d % n = d - n := by rw [Nat.mod_eq_sub_mod (by omega), Nat.mod_eq_of_lt (by omega)]
      omega
  · intro h
    have e3 : (d : Int) % (n : Int) = ((j : Int) - a) % (n : Int) := by
      rcases h with h | h
      · rw [h, ← e2, Int.emod_emod_of_dvd _ (Int.dvd_refl _)]
      · rw [h]
        push_cast
        rw [Int.add_emod_right, ← e2, Int.emod_emod_of_dvd _ (Int.dvd_refl _)]
    have e4 : (a + (d : Int)) % (n : Int) = (j : Int) := by
      rw [Int.add_emod, e3, ← Int.add_emod]
      rw [show a + ((j : Int) - a) = (j : Int) by omega]
      exact Int.emod_eq_of_lt (by omega) (by omega)
    rw [e1] at e4
    omega
theorem o1_lt {a : Int} {n j : Nat} (hn : 0 < n) : o1 a n j < n := by
  unfold o1
  have h1 := Int.emod_nonneg ((j : Int) - a) (show (n : Int) ≠ 0 by omega)
  have h2 := Int.emod_lt_of_pos ((j : Int) - a) (show (0 : Int) < (n : Int) by omega)
  omega
/-- Of each that is there, so often. -/
theorem sv_at {a : Int} {r : List Nat} {i j : Nat} (hr : r.Nodup) (hj : r[j]? = some i) : ∀ d, d ≤ 2 * r.length → sv a r d i = (if o1 a r.length j < d then 1 else 0) + (if o1 a r.length j + r.length < d then 1 else 0)
  | 0, _ => by simp [sv]
  | d + 1, hd => by
    have hjl := (List.getElem?_eq_some_iff.1 hj).1
    rw [sv_succ, sv_at hr hj d (by omega)]
    have e : (r[dI a r.length d]? = some i) ↔ dI a r.length d = j := by
      constructor
      · intro h
        have h1 := List.getElem?_eq_some_iff.1 h
        have h2 := List.getElem?_eq_some_iff.1 hj
        exact (List.getElem_inj hr).1 (h1.2.trans h2.2.symm)
      · rintro h; rw [h]; exact hj
    have e2 := dI_o1 (a := a) (n := r.length) (j := j) (d := d) (by omega) hjl (by omega)
    have hl := o1_lt (a := a) (n := r.length) (j := j) (by omega)
    by_cases h : dI a r.length d = j
    · rw [if_pos (e.2 h)]
      rcases e2.1 h with h3 | h3
      · rw [if_neg (show ¬ o1 a r.length j < d by omega), if_neg (show ¬ o1 a r.length j + r.length < d by omega), if_pos (show o1 a r.length j < d + 1 by omega), if_neg (show ¬ o1 a r.length j + r.length < d + 1 by omega)]
      · rw [if_pos (show o1 a r.length j < d by omega), if_neg (show ¬ o1 a r.length j + r.length < d by omega), if_pos (show o1 a r.length j < d + 1 by omega), if_pos (show o1 a r.length j + r.length < d + 1 by omega)]
    · rw [if_neg (fun h9 => h (e.1 h9))]
      have h3 : d ≠ o1 a r.length j := fun h9 => h (e2.2 (.inl h9))
      have h4 : d ≠ o1 a r.length j + r.length := fun h9 => h (e2.2 (.inr h9))
      by_cases h5 : o1 a r.length j < d
      · by_cases h6 : o1 a r.length j + r.length < d
        · rw [if_pos h5, if_pos h6, if_pos (show o1 a r.length j < d + 1 by omega), if_pos (show o1 a r.length j + r.length < d + 1 by omega)]
        · rw [if_pos h5, if_neg h6, if_pos (show o1 a r.length j < d + 1 by omega), if_neg (show ¬ o1 a r.length j + r.length < d + 1 by omega)]
      · rw [if_neg h5, if_neg (show ¬ o1 a r.length j + r.length < d by omega), if_neg (show ¬ o1 a r.length j < d + 1 by omega), if_neg (show ¬ o1 a r.length j + r.length < d + 1 by omega)]
theorem sv_two {a : Int} {r : List Nat} {i : Nat} (hr : r.Nodup) (hi : i ∈ r) : sv a r (2 * r.length) i = 2 := by
  obtain ⟨j, hj, rfl⟩ := List.mem_iff_getElem.1 hi
  have hl := o1_lt (a := a) (n := r.length) (j := j) (by omega)
  rw [sv_at hr (List.getElem?_eq_getElem hj) _ (Nat.le_refl _), if_pos (by omega), if_pos (by omega)]
/-! The channels of a draw. -/
def dF (l : List Bool) (i : Nat) : CS := ⟨0, false, 1, if l[i]? = some true then [] else [1], [], []⟩
theorem dF_yes {l : List Bool} {i : Nat} (h : l[i]? = some true) : dF l i = ⟨0, false, 1, [], [], []⟩ := by unfold dF; rw [if_pos h]
theorem dF_no {l : List Bool} {i : Nat} (h : l[i]? ≠ some true) : dF l i = ⟨0, false, 1, [1], [], []⟩ := by unfold dF; rw [if_neg h]
theorem dF_can (l : List Bool) (i : Nat) : can (dF l i) true = (l[i]? == some true) := by
  by_cases h : l[i]? = some true
  · rw [dF_yes h, h]; rfl
  · rw [dF_no h, beq_eq_false_iff_ne.2 h]; rfl
theorem d_one {l : List Bool} {n p : Nat} {a : Int} {d : Nat} (hn : n ≤ 16) (h0 : 0 < (wn l n).length) (hp : (wn l n)[dI a (wn l n).length d]? = some p) : ∃ S', doS (gS n (dF l)) (gL n true 5) true (a + (d : Int)) 2 = (S', ⟨p, 0, true, false, false, false⟩, [], 0) := by
  obtain ⟨h1, h2⟩ := wn_mem (List.mem_of_getElem? hp)
  have hw : wrg (gS n (dF l)) (gL n true 5) (gL n true 5).length = none := wrg_all _ (Nat.le_refl _) (by
    intro x hx
    obtain ⟨i, hi, rfl⟩ := mem_gL hx
    rw [gknd hi]; rfl)
  have hr : rdy (gS n (dF l)) (gL n true 5) (gL n true 5).length = wn l n := by
    rw [gL_len]; exact g_rdy fun i _ => dF_can l i
  rw [doS_one (by rw [gL_len]; exact hn) (by omega) hw hr (dI_eq h0) hp (gL_at true 5 h1)]
  refine ⟨(doX (gS n (dF l)) ⟨some p, true, 5⟩).1, ?_⟩
  have e : (doX (gS n (dF l)) ⟨some p, true, 5⟩).2 = (⟨0, 0, true, false, false, false⟩, []) := by
    unfold doX
    simp only
    rw [gS_at _ h1, dF_yes h2]
    rfl
  refine Prod.ext rfl ?_
  rw [show (doX (gS n (dF l)) ⟨some p, true, 5⟩).2.1 = ⟨0, 0, true, false, false, false⟩ by rw [e], show (doX (gS n (dF l)) ⟨some p, true, 5⟩).2.2 = [] by rw [e]]
/-- The row of how often. -/
def sR (a : Int) (r : List Nat) (n d : Nat) : List Int := (List.range n).map fun i : Nat => (sv a r d i : Int)
theorem sR_len (a : Int) (r : List Nat) (n d : Nat) : (sR a r n d).length = n := by simp [sR]
theorem sR_at {a : Int} {r : List Nat} {n d i : Nat} (h : i < n) : (sR a r n d)[i]? = some (sv a r d i : Int) := by simp [sR, h]
theorem sR_zero (a : Int) (r : List Nat) (n : Nat) : sR a r n 0 = List.replicate n 0 := by
  apply List.ext_getElem?
  intro j
  by_cases h : j < n
  · rw [sR_at h, sv_zero]; simp [h]
  · rw [List.getElem?_eq_none_iff.2 (by rw [sR_len]; omega), List.getElem?_eq_none_iff.2 (by simp; omega)]
theorem sR_set {a : Int} {r : List Nat} {n d p : Nat} (hr : r[dI a r.length d]? = some p) (hp : p < n) : (sR a r n d).set p ((sv a r d p : Int) + 1) = sR a r n (d + 1) := by
  apply List.ext_getElem?
  intro j
  rw [set_at (sR_at hp)]
  by_cases e : j = p
  · subst e
    rw [if_pos rfl, sR_at hp, sv_succ, if_pos hr]; push_cast; rfl
  · rw [if_neg e]
    by_cases hj : j < n
    · rw [sR_at hj, sR_at hj, sv_succ, if_neg (by rw [hr]; simp; omega)]; simp
    · rw [List.getElem?_eq_none_iff.2 (by rw [sR_len]; omega), List.getElem?_eq_none_iff.2 (by rw [sR_len]; omega)]
end Go.Proofs.Ytmcacmbllpphiaa
