/- What package clock's Next, and the reference's, give. Conditions: each theorem's own premises. -/
import Derived.Test.YtmadcnpkaijllaaMem
namespace Go.Proofs.Ytmadcnpkaijllaa
open Go.RowKit
set_option linter.unusedVariables false
set_option maxRecDepth 100000
theorem ret_int {k : IntKind} {a b : Int} (h : a = b) : Ending.returned (.int k a) = .returned (.int k b) := by rw [h]

/-- a number held at the greatest time and the least -/
def hd (x : Int) : Int := max (-4611686018427387904) (min x 4611686018427387904)
theorem hd_lo (x : Int) : -4611686018427387904 ≤ hd x := by unfold hd; omega
theorem hd_hi (x : Int) : hd x ≤ 4611686018427387904 := by unfold hd; omega
theorem hd_in (x : Int) (h : -4611686018427387904 ≤ x) (k : x ≤ 4611686018427387904) : hd x = x := by unfold hd; omega
/-- the sum of two that are held, held -/
def ad (t d : Int) : Int := hd (hd t + hd d)

theorem ad_eq (t d : Int) : ad t d = max (-4611686018427387904) (min (hd t + hd d) 4611686018427387904) := rfl
theorem ad_lo (t d : Int) : -4611686018427387904 ≤ ad t d := hd_lo _
theorem ad_hi (t d : Int) : ad t d ≤ 4611686018427387904 := hd_hi _

theorem hold_any (x : Int) (w : World) : Calls Try.prog 69 #[.int .i64 x] w fun e w' => e = .returned (.int .i64 (hd x)) ∧ w = w' := by
  go_enter Try.func69, Try.ntmps69
  go_wp2
  all_goals (go_ret; exact ⟨ret_int (by unfold hd; omega), rfl⟩)


theorem add_any (t d : Int) (w : World) : Calls Try.prog 61 #[.int .i64 t, .int .i64 d] w fun e w' => e = .returned (.int .i64 (ad t d)) ∧ w = w' := by
  have h1 := hd_lo t
  have h2 := hd_hi t
  have h3 := hd_lo d
  have h4 := hd_hi d
  go_enter Try.func61, Try.ntmps61
  go_wp2_with (go_at_call 69; refine (hold_any _ _).mono ?_; rintro e w' ⟨rfl, rfl⟩)
  all_goals (go_ret; exact ⟨ret_int (by rw [ad_eq]; omega), rfl⟩)





/-- may the next time of a row be asked? -/
def nxB (when per now : Int) : Bool := decide (1 ≤ per) && (decide (0 ≤ when) && (decide (0 ≤ now) && (decide (when ≤ 4611686018427387904) && (decide (per ≤ 4611686018427387904) && decide (now ≤ 4611686018427387904)))))
/-- the next time of a row -/
def nx (when per now : Int) : Int := if now < when then when else hd (now - (now - when) % per + per)

theorem next_no (when per now : Int) (w : World) (h : nxB when per now = false) :
    Calls Try.prog 65 #[.int .i64 when, .int .i64 per, .int .i64 now] w fun e w' => e = .returned (.tuple #[.int .i64 0, .int .i64 1]) ∧ w = w' := by
  have h' : ¬ (1 ≤ per ∧ 0 ≤ when ∧ 0 ≤ now ∧ when ≤ 4611686018427387904 ∧ per ≤ 4611686018427387904 ∧ now ≤ 4611686018427387904) := by
    intro k; simp [nxB, k] at h
  clear h
  by_cases c1 : per < 1
  · go_enter Try.func65, Try.ntmps65
    go_wp2
    go_ret2
    exact ⟨rfl, rfl⟩
  by_cases c2 : when < 0
  · go_enter Try.func65, Try.ntmps65
    go_wp2
    go_ret2
    exact ⟨rfl, rfl⟩
  by_cases c3 : now < 0
  · go_enter Try.func65, Try.ntmps65
    go_wp2
    go_ret2
    exact ⟨rfl, rfl⟩
  by_cases c4 : 4611686018427387904 < when
  · go_enter Try.func65, Try.ntmps65
    go_wp2
    go_ret2
    exact ⟨rfl, rfl⟩
  by_cases c5 : 4611686018427387904 < per
  · go_enter Try.func65, Try.ntmps65
    go_wp2
    go_ret2
    exact ⟨rfl, rfl⟩
  have c6 : 4611686018427387904 < now := by omega
  clear h'
  go_enter Try.func65, Try.ntmps65
  go_wp2
  go_ret2
  exact ⟨rfl, rfl⟩

theorem nx_add (when per now : Int) (h0 : 0 ≤ when) (h1 : 1 ≤ per) (h2 : per ≤ 4611686018427387904) (h3 : now ≤ 4611686018427387904) (hge : when ≤ now) :
    ad (now - (now - when) % per) per = nx when per now := by
  have e1 : 0 ≤ (now - when) % per := Int.emod_nonneg _ (by omega)
  have e2 : (now - when) % per < per := Int.emod_lt_of_pos _ (by omega)
  have e3 : (now - when) % per ≤ now - when := by
    rcases Int.lt_or_le (now - when) per with h | h
    · rw [Int.emod_eq_of_lt (by omega) h]; exact Int.le_refl _
    · omega
  unfold nx ad
  rw [if_neg (by omega), hd_in (now - (now - when) % per) (by omega) (by omega), hd_in per (by omega) (by omega)]

theorem next_yes (when per now : Int) (w : World) (h1 : 1 ≤ per) (h2 : 0 ≤ when) (h3 : 0 ≤ now) (h4 : when ≤ 4611686018427387904) (h5 : per ≤ 4611686018427387904) (h6 : now ≤ 4611686018427387904) :
    Calls Try.prog 65 #[.int .i64 when, .int .i64 per, .int .i64 now] w fun e w' => e = .returned (.tuple #[.int .i64 (nx when per now), .int .i64 0]) ∧ w = w' := by
  by_cases hlt : now < when
  · go_enter Try.func65, Try.ntmps65
    go_wp2
    go_ret2
    exact ⟨by rw [show nx when per now = when from if_pos hlt]; rfl, rfl⟩
  · have hge : when ≤ now := by omega
    have hn := nx_add when per now h2 h1 h5 h6 hge
    have e1 : 0 ≤ (now - when) % per := Int.emod_nonneg _ (by omega)
    have e2 : (now - when) % per < per := Int.emod_lt_of_pos _ (by omega)
    have Hn : Hid (ad (now - (now - when) % per) per = nx when per now) := hn
    clear hn hlt
    go_enter Try.func65, Try.ntmps65
    go_wp2_with (go_at_call 61; refine (add_any _ _ _).mono ?_; rintro e w' ⟨rfl, rfl⟩)
    go_ret2
    exact ⟨by rw [← Hn.out]; rfl, rfl⟩

theorem nx_mul (when per now : Int) (hge : when ≤ now) : nx when per now = hd (when + ((now - when) / per + 1) * per) := by
  have e := Int.emod_add_mul_ediv (now - when) per
  have e2 : ((now - when) / per + 1) * per = per * ((now - when) / per) + per := by rw [Int.add_mul, Int.mul_comm, Int.one_mul]
  unfold nx
  rw [if_neg (by omega), e2, show now - (now - when) % per + per = when + (per * ((now - when) / per) + per) from by omega]

end Go.Proofs.Ytmadcnpkaijllaa
