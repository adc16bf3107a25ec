/- What the laws of layer 13 want of sets of timers. Conditions: each theorem's own premises. -/
import Derived.Test.YtmadcnpkaijllaaSaW
namespace Go.Proofs.Ytmadcnpkaijllaa
open Go.RowKit Ch
set_option linter.unusedVariables false
set_option maxRecDepth 100000
section
variable {now : Int} {n : Nat} {S r : List It} {g : Int → Int} {x : It}
theorem tk_idle (h : Idle now S) : tk now n S g = (none, n, S, g) := by
  cases S with
  | nil => rfl
  | cons x r => unfold tk; exact if_pos h
theorem tk_end (h1 : x.w ≤ now) (h2 : ¬ Gon x.w (g x.id) now) : tk now n (x :: r) g = (some x, n, r, fput g x.id 0) := by
  unfold tk
  simp only
  rw [if_neg (by omega), if_neg h2]
theorem tk_on (h1 : x.w ≤ now) (h2 : Gon x.w (g x.id) now) : tk now n (x :: r) g = (some x, n + 1, ins ⟨x.id, nx x.w (g x.id) now, (n : Int) + 1⟩ r, g) := by
  unfold tk
  simp only
  rw [if_neg (by omega), if_pos h2]
theorem not_gon {wh : Int} : ¬ Gon wh 0 now := fun h => by have := (nxB_all h.1).1; omega
end
theorem wn_small {now d : Int} (h0 : 0 ≤ now) (h1 : now ≤ 1000000000) (h2 : 0 ≤ d) (h3 : d ≤ 1000000000) : wn now d = now + d := by
  unfold wn ad hd hz; omega
theorem hz_small {d : Int} (h2 : 0 ≤ d) (h3 : d ≤ 1000000000) : hz d = d := by unfold hz; omega
/-- The next time of a row with a period. -/
theorem gon_row {wh p now : Int} (hp : 1 ≤ p) (hp2 : p ≤ 1000000000) (h0 : 0 ≤ wh) (h1 : wh ≤ now) (h2 : now ≤ 1000000000) : Gon wh p now ∧ nx wh p now = wh + p * ((now - wh) / p + 1) ∧ now < nx wh p now ∧ nx wh p now ≤ now + p := by
  have e1 : nx wh p now = now - (now - wh) % p + p := by
    have := Int.emod_nonneg (now - wh) (show p ≠ 0 by omega)
    have := Int.emod_lt_of_pos (now - wh) (show 0 < p by omega)
    unfold nx hd
    rw [if_neg (by omega)]
    omega
  have e2 := Int.emod_nonneg (now - wh) (show p ≠ 0 by omega)
  have e3 := Int.emod_lt_of_pos (now - wh) (show 0 < p by omega)
  have e4 := Int.mul_ediv_add_emod (now - wh) p
  refine ⟨⟨?_, by rw [e1]; omega⟩, ?_, by rw [e1]; omega, by rw [e1]; omega⟩
  · unfold nxB
    simp
    omega
  · rw [e1, Int.mul_add, Int.mul_one]
    omega
section
variable {W w w' w'' : World} {t m n n' i j c k : Nat} {E E' : List On} {S S' : List It} {g g' : Int → Int} {L L' : List (Nat × CS)} {v : Int} {e : Ending} {x : On} {s s' : CS} {ok d : Bool} {ws : List Wk}
theorem ss_recv (h : SS W t E m n S g L w) (hi : L[j]? = some (c, s)) (hn : s.ss.length ≤ 1000000) (hg : rc s = (s', v, ok, d, ws)) (hl : ws.length = k) :
    Calls Try.prog 16 #[.pointer (some ⟨c, 0, none⟩)] w fun e w' => ∃ A cap, e = .returned (.tuple #[.int .i64 v, .bool ok, .bool d, .slice A k cap]) ∧ RdK w' A k ws ∧ SS W t E m n S g (L.set j (c, s')) w' ∧ OZ w w' := by
  refine (ms_recv h.ms hi hn hg hl).mono ?_
  rintro e w' ⟨A, cap, rfl, hr, hm, hk⟩
  exact ⟨A, cap, rfl, hr, (h.chan hm hk).1, hk.oz⟩
theorem ss_can (b : Bool) (h : SS W t E m n S g L w) (hi : L[j]? = some (c, s)) : Calls Try.prog 18 #[.pointer (some ⟨c, 0, none⟩), .bool b] w (SZ W t E m n S g L (.bool (can s b)) w) := by
  refine (ms_can b h.ms hi).mono ?_
  rintro e w' ⟨rfl, q, rfl⟩
  exact ⟨rfl, h.drewN q, OZ.of_below (below_drewN w q)⟩
theorem ss_len (h : SS W t E m n S g L w) (hi : L[j]? = some (c, s)) (hk : s.kd = 1) : Calls Try.prog 20 #[.pointer (some ⟨c, 0, none⟩)] w fun e w' => e = .returned (.int .i64 0) ∧ w = w' := by
  have := ms_len h.ms hi
  rwa [if_pos hk] at this
theorem ss_cap (h : SS W t E m n S g L w) (hi : L[j]? = some (c, s)) (hk : s.kd = 1) : Calls Try.prog 21 #[.pointer (some ⟨c, 0, none⟩)] w fun e w' => e = .returned (.int .i64 0) ∧ w = w' := by
  have := ms_cap h.ms hi
  rwa [if_pos hk] at this
theorem ss_wait (y : Wt) {q : Int} (hx : Wf y.t) (h : SS W t E m n S g L w) (hi : L[j]? = some (c, s)) (hn : ∀ b, (s.q b).length ≤ 1000000) (hg : wt s y false = (s', q)) :
    Calls Try.prog 29 #[.pointer (some ⟨c, 0, none⟩), wG y, .bool false] w (SZ W t E m n S g (L.set j (c, s')) (.int .i64 q) w) := by
  refine (ms_wait y false hx h.ms hi hn hg).mono ?_
  rintro e w' ⟨rfl, hm, hk⟩
  exact ⟨rfl, (h.chan hm hk).1, (h.chan hm hk).2⟩
end
/-- A timer's channel that has these values. -/
abbrev cV (l : List Int) : CS := ⟨1, false, 1, l, [], []⟩
theorem rc_none : rc (cV []) = (cV [], 0, false, false, []) := rfl
theorem rc_one (v : Int) : rc (cV [v]) = (cV [], v, true, true, []) := rfl
end Go.Proofs.Ytmadcnpkaijllaa
