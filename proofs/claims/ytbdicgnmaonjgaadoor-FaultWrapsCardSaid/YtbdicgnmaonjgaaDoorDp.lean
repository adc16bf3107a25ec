/- Chains and rows of codes as shapes: how deep, how much, and what is in them. Conditions: a code is above 0. -/
import Derived.Test.YtbdicgnmaonjgaaDoorAwk
namespace Go.Proofs.YtbdicgnmaonjgaaDoor
open Go.RowKit
set_option linter.unusedVariables false

def oB : ByteArray := ⟨#[111]⟩
def wB : ByteArray := ⟨#[119]⟩
/-- A chain of m + 1 shapes, a code the last. -/
def chF (code : Int) : Nat → Fo
  | 0 => .cons code ⟨#[]⟩ .nil .nil
  | m + 1 => .cons 0 oB (chF code m) .nil
theorem chF_len (code : Int) (m : Nat) : (chF code m).len = 1 := by cases m <;> rfl
/-- The codes 1 to j in a row. -/
def wF : Nat → Fo
  | 0 => .nil
  | j + 1 => (wF j).app (.cons (j + 1) ⟨#[]⟩ .nil .nil)
theorem wF_len : ∀ j, (wF j).len = j
  | 0 => rfl
  | j + 1 => by simp [wF, Fo.len_app, Fo.len, wF_len j]

theorem fits_ch (code : Int) (hc : 0 < code) : ∀ (m : Nat) (d l : Int), 0 ≤ d → (m : Int) + 1 ≤ l → (fitsF (chF code m) d l).1 = decide ((m : Int) + 1 ≤ d)
  | 0, d, l, hd, hl => by
    unfold chF fitsF
    by_cases h0 : d = 0
    · rw [if_pos (.inl h0)]; simp; omega
    · rw [if_neg (by omega), if_pos (by omega), if_pos ⟨hc, rfl, rfl⟩]; simp [fitsF]; omega
  | m + 1, d, l, hd, hl => by
    unfold chF fitsF
    by_cases h0 : d = 0
    · rw [if_pos (.inl h0)]; simp; omega
    · rw [if_neg (by omega), if_neg (by simp), if_neg (by rw [chF_len]; exact fun h => by rcases h with h | h; exact absurd h (by decide); omega)]
      have ih := fits_ch code hc m (d - 1) (l - 1) (by omega) (by omega)
      by_cases h : (m : Int) + 1 ≤ d - 1
      · rw [decide_eq_true h] at ih
        rw [if_pos ih]; simp [fitsF]; omega
      · rw [decide_eq_false h] at ih
        rw [if_neg (by rw [ih]; simp)]; simp; omega

theorem fitsF_cons (c : Int) (o : ByteArray) (ks r : Fo) (d l : Int) : fitsF (.cons c o ks r) d l =
    if d = 0 ∨ l = 0 then (false, l)
    else if c ≠ 0 then (if 0 < c ∧ o.size = 0 ∧ ks.len = 0 then fitsF r d (l - 1) else (false, l - 1))
    else if o.size = 0 ∨ ks.len = 0 then (false, l - 1)
    else if (fitsF ks (d - 1) (l - 1)).1 then fitsF r d (fitsF ks (d - 1) (l - 1)).2 else (false, (fitsF ks (d - 1) (l - 1)).2) := by
  rw [fitsF]
theorem fits_app : ∀ (F G : Fo) (d l : Int), fitsF (F.app G) d l = if (fitsF F d l).1 then fitsF G d (fitsF F d l).2 else (false, (fitsF F d l).2)
  | .nil, G, d, l => by simp [Fo.app, fitsF]
  | .cons c o ks r, G, d, l => by
    simp only [Fo.app]
    rw [fitsF_cons, fitsF_cons]
    by_cases h1 : d = 0 ∨ l = 0
    · rw [if_pos h1, if_pos h1]; simp
    · rw [if_neg h1, if_neg h1]
      by_cases h2 : c ≠ 0
      · rw [if_pos h2, if_pos h2]
        by_cases h3 : 0 < c ∧ o.size = 0 ∧ ks.len = 0
        · rw [if_pos h3, if_pos h3]; exact fits_app r G d (l - 1)
        · rw [if_neg h3, if_neg h3]; simp
      · rw [if_neg h2, if_neg h2]
        by_cases h3 : o.size = 0 ∨ ks.len = 0
        · rw [if_pos h3, if_pos h3]; simp
        · rw [if_neg h3, if_neg h3]
          by_cases h4 : (fitsF ks (d - 1) (l - 1)).1 = true
          · rw [if_pos h4, if_pos h4]; exact fits_app r G d _
          · rw [if_neg h4, if_neg h4]; simp

theorem fits_w (d : Int) (hd : 0 < d) : ∀ (j : Nat) (l : Int), 0 ≤ l → ((j : Int) ≤ l → fitsF (wF j) d l = (true, l - j)) ∧ (l < (j : Int) → (fitsF (wF j) d l).1 = false)
  | 0, l, hl => ⟨fun _ => by simp [wF, fitsF], fun h => by omega⟩
  | j + 1, l, hl => by
    have ih := fits_w d hd j l hl
    constructor
    · intro h
      rw [wF, fits_app, ih.1 (by omega)]
      simp only [if_true]
      unfold fitsF
      rw [if_neg (by omega), if_pos (by omega), if_pos ⟨by omega, rfl, rfl⟩]
      simp [fitsF]; omega
    · intro h
      rw [wF, fits_app]
      by_cases hj : (j : Int) ≤ l
      · rw [ih.1 hj]
        simp only [if_true]
        unfold fitsF
        rw [if_pos (.inr (by omega))]
      · rw [ih.2 (by omega)]; simp

theorem may_w (j : Nat) (hj : 0 < j) : mayB 0 wB (wF j) = decide (j ≤ 49) := by
  unfold mayB fitsF
  rw [if_neg (by omega), if_neg (by simp), if_neg (by rw [wF_len]; exact fun h => by rcases h with h | h; exact absurd h (by decide); omega)]
  have h := fits_w (20 - 1) (by omega) j (50 - 1) (by omega)
  by_cases h49 : j ≤ 49
  · rw [h.1 (by omega)]; simp [fitsF, h49]
  · rw [if_neg (by rw [h.2 (by omega)]; simp)]; simp [h49]

theorem has_app (x : Int) : ∀ (F G : Fo), hasF x (F.app G) = (hasF x F || hasF x G)
  | .nil, G => by simp [Fo.app, hasF]
  | .cons c o ks r, G => by simp [Fo.app, hasF, has_app x r G, Bool.or_assoc]
theorem has_ch (code : Int) (hc : 0 < code) : ∀ m, hasF code (chF code m) = true
  | 0 => by simp [chF, hasF, hc]
  | m + 1 => by simp [chF, hasF, has_ch code hc m]
theorem has_w (j : Nat) (hj : 0 < j) : hasF (j : Int) (wF j) = true := by
  cases j with
  | zero => omega
  | succ j => rw [wF, has_app]; simp [hasF]
end Go.Proofs.YtbdicgnmaonjgaaDoor
