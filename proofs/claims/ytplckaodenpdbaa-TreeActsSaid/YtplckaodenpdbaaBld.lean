/- A tree that is built of numbers: each hangs on, or names, one of those ahead of it. No condition. -/
import Derived.Test.YtplckaodenpdbaaAwk
namespace Go.Proofs.Ytplckaodenpdbaa
open Go.RowKit
set_option linter.unusedVariables false
set_option maxRecDepth 100000

def bt (f : Nat → Int) (g : Nat → Bool) : Nat → TS
  | 0 => [(-1, false)]
  | k + 1 => bt f g k ++ [((pk (f k) (k + 1) : Int), g k)]
section
variable {f : Nat → Int} {g : Nat → Bool}
theorem bt_len (k : Nat) : (bt f g k).length = k + 1 := by
  induction k with
  | zero => rfl
  | succ k ih => simp [bt, ih]
theorem bt_wf (k : Nat) : WF (bt f g k) := by
  induction k with
  | zero => exact WF.nil.push (by omega) (by simp) (by simp)
  | succ k ih =>
    have := pk_lt (f k) (m := k + 1) (by omega)
    exact ih.push (by omega) (by rw [bt_len]; omega) (by omega)
theorem bt_zero (k : Nat) : (bt f g k)[0]? = some (-1, false) := by
  induction k with
  | zero => rfl
  | succ k ih => rw [bt, List.getElem?_append_left (by rw [bt_len]; omega)]; exact ih
theorem bt_at {k j : Nat} (h : j < k) : (bt f g k)[j + 1]? = some ((pk (f j) (j + 1) : Int), g j) := by
  induction k with
  | zero => omega
  | succ k ih =>
    rw [bt]
    by_cases c : j < k
    · rw [List.getElem?_append_left (by rw [bt_len]; omega)]; exact ih c
    · obtain rfl : j = k := by omega
      rw [List.getElem?_append_right (by rw [bt_len]; omega), bt_len]
      simp
end
def ups (S : TS) : List Int := S.map (·.1)
theorem ups_app (S : TS) (x : Int × Bool) : ups (S ++ [x]) = ups S ++ [x.1] := by simp [ups]
theorem ups_len (S : TS) : (ups S).length = S.length := by simp [ups]
section
variable {W w : World} {t : Nat} {S : TS} {rs : List Rr}
theorem bt_add {f : Nat → Int} {g : Nat → Bool} {k : Nat} (h : LS W t (bt f g k) rs w) (hk : k < 999) {p : Int} {l : Bool} (hp : p = (pk (f k) (k + 1) : Int)) (hl : l = g k) :
    Calls Try.prog 10 #[.pointer (some ⟨t, 0, none⟩), .int .i64 p, .bool l] w fun e w' => e = .returned (.tuple #[.int .i64 ((k : Int) + 1), .int .i64 0]) ∧ Hid (LS W t (bt f g (k + 1)) rs w') := by
  subst hp hl
  have hlt := pk_lt (f k) (m := k + 1) (by omega)
  have e : (((bt f g k).length : Nat) : Int) = (k : Int) + 1 := by rw [bt_len]; omega
  have key : Calls Try.prog 10 #[.pointer (some ⟨t, 0, none⟩), .int .i64 (pk (f k) (k + 1) : Int), .bool (g k)] w fun e w' => AddL W t (bt f g k) (bt f g (k + 1)) rs e w' := by
    cases hg : g k with
    | true =>
      have := hung_ls h (by rw [bt_len]; omega) (pk (f k) (k + 1)) (by rw [bt_len]; omega)
      rwa [show bt f g (k + 1) = bt f g k ++ [((pk (f k) (k + 1) : Int), true)] from by rw [bt, hg]]
    | false =>
      have := off_ls h (by rw [bt_len]; omega) (pk (f k) (k + 1)) (by rw [bt_len]; omega)
      rwa [show bt f g (k + 1) = bt f g k ++ [((pk (f k) (k + 1) : Int), false)] from by rw [bt, hg]]
  unfold AddL at key
  rw [e] at key
  exact key
/-- An append onto a row. -/
theorem LS.app {wx w1 : World} {i g cap n : Nat} {r : Rr} {x : Int} (h : LS W t S rs wx) (hr : rs[i]? = some r) (hn : n = r.l.length) (hown : w1.ownsRow 0 3 1 (.slice (some ⟨g, 0, none⟩) (n + 1) cap) (n + 1) (iV r.l ++ [.int .i64 x])) (hgrow : wx.grownBy w1 (Value.slice r.P n r.c).ownBlock) (hat : (Value.slice r.P n r.c).ownBlock = some g ∨ wx.heap.size ≤ g) :
    LS W t S (rs.set i ⟨some ⟨g, 0, none⟩, cap, r.l ++ [x]⟩) w1 := by
  subst hn
  rw [own_blk] at hgrow hat
  refine h.turn hr (Tn.grown (Below.refl _ _) hgrow) ?_ ?_
  · unfold Rw
    rw [show (r.l ++ [x]).length = r.l.length + 1 from by simp, iV_app]
    exact hown
  · intro k hk
    have hk : g = k := by simpa [blk] using hk
    subst hk
    exact hat
theorem LS.own' (h : LS W t S rs w) {i n : Nat} {r : Rr} (hr : rs[i]? = some r) (hn : n = r.l.length) : w.ownsRow 0 3 1 (.slice r.P n r.c) n (iV r.l) := by subst hn; exact h.own hr
theorem round_at (z : Int) (k : Nat) (hk : k ≤ 2000) : Calls Try.prog 22 #[.int .i64 z, .int .i64 ((k : Int) + 1)] w fun e w' => e = .returned (.int .i64 (pk z (k + 1) : Int)) ∧ w = w' := by
  have := round_any z (k + 1) w (by omega) (by omega)
  rwa [show ((k + 1 : Nat) : Int) = (k : Int) + 1 from by omega] at this
/-- Two on one way, each above the other, are one. -/
theorem upTo_anti {S : TS} (h : WF S) {a b : Nat} (h1 : upTo S a b = true) (hne : a ≠ b) : upTo S b a = false := by
  cases h2 : upTo S b a with
  | false => rfl
  | true =>
    have e1 := upTo_le h b _ a (Nat.lt_succ_self _) h1
    have e2 := upTo_le h a _ b (Nat.lt_succ_self _) h2
    omega
end
end Go.Proofs.Ytplckaodenpdbaa
