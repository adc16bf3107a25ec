/- What can be done, and what may not be: Can of a case, wrong, Pick. Conditions: each theorem's own premises. -/
import Derived.Test.YtmcacmbllpphiaaCa
namespace Go.Proofs.Ytmcacmbllpphiaa
open Go.RowKit
set_option linter.unusedVariables false

theorem set_same {α : Type} {l : List α} {i : Nat} {x : α} (h : l[i]? = some x) : l.set i x = l := by
  apply List.ext_getElem?
  intro k
  rw [set_at h]
  by_cases e : k = i
  · subst e; rw [if_pos rfl, h]
  · rw [if_neg e]
section
variable {W w : World} {B C : List Nat} {S T : List CS} {F : Nat → Prop}
theorem pc_can (x : Ca) (h : PC W B S C T F w) : Calls Try.prog 53 #[.pointer (ptr B x), .bool x.s] w fun e w' => e = .returned (.bool (canO S x)) ∧ ∃ n, w' = w.drewN n := by
  rcases h.case x with ⟨h1, h2⟩ | ⟨j, c, s, _, hb, hs, h1, h2⟩
  · rw [h1, show canO S x = false by unfold canO; rw [h2]]
    refine (can_nil x.s w).mono ?_
    rintro e w' ⟨rfl, rfl⟩
    exact ⟨rfl, 0, rfl⟩
  · rw [h1, show canO S x = can s x.s by unfold canO; rw [h2]]
    obtain ⟨Fi, hc, _⟩ := h.chan hb hs
    exact can_any x.s hc
theorem can_no {s : CS} (hk : s.kd = 0) (h : can s true = false) : s.cl = false ∧ s.rs = [] ∧ ¬ s.l.length < s.sz := by
  unfold can at h
  rw [if_neg (by simp [hk])] at h
  simp only [Bool.or_eq_false_iff, fr, decide_eq_false_iff_not, CS.q, Bool.not_true, Nat.not_lt, Nat.le_zero, List.length_eq_zero_iff] at h
  exact ⟨h.1.1, h.2, by omega⟩
/-- A send that can't be done tells why. -/
theorem pc_sendn (x : Ca) (h : PC W B S C T F w) (hb : BN 1000 S) (hs : x.s = true) (hc : canO S x = false) : Calls Try.prog 23 #[.pointer (ptr B x), .int .i64 x.v] w fun e w' => ∃ A cap, e = .returned (.tuple #[.bool false, .slice A 0 cap, .int .i64 (if kndO S x = true then 7 else 0)]) ∧ PN W B S C T F w w' := by
  rcases h.case x with ⟨h1, h2⟩ | ⟨j, c, s, _, hB, hS, h1, h2⟩
  · rw [h1, show kndO S x = false by unfold kndO; rw [h2]]
    refine (send_nil x.v w).mono ?_
    rintro e w' ⟨rfl, rfl⟩
    exact ⟨none, 0, rfl, PN.same h⟩
  · have e1 : kndO S x = !(s.kd == 0) := by unfold kndO; rw [h2, hs]; rfl
    have e2 : canO S x = can s true := by unfold canO; rw [h2, hs]
    rw [h1, e1]
    obtain ⟨Fi, hch, bk⟩ := h.chan hB hS
    by_cases hk : s.kd = 0
    · rw [if_neg (by simp [hk])]
      rw [e2] at hc
      obtain ⟨q1, q2, q3⟩ := can_no hk hc
      have hn := hb.at hS
      have hg : gv s x.v = (s, [], false) := by unfold gv; rw [q2]; simp only; rw [if_neg q3]
      refine (send_any x.v hch hk q1 (by unfold nw at hn; omega)).mono ?_
      rw [hg]
      rintro e w' ⟨A, cap, rfl, _, g⟩
      refine ⟨A, cap, rfl, ?_⟩
      have := bk _ _ g
      rwa [show S.set j s = S from set_same hS] at this
    · rw [if_pos (by simp [hk])]
      refine (send_kind x.v hch hk).mono ?_
      rintro e w' ⟨rfl, rfl⟩
      exact ⟨none, 0, rfl, PN.same h⟩
theorem wrong_any (x : Ca) (h : PC W B S C T F w) (hb : BN 1000 S) (hc : canO S x = false) : Calls Try.prog 75 #[caG B x] w fun e w' => e = .returned (.bool (kndO S x)) ∧ PN W B S C T F w w' := by
  have HB := Lib.hid (below_al w (.cells (caA B x) 65))
  have HP := Lib.hid (h.later HB.out)
  unfold caA at HB HP
  unfold caG
  cases hs : x.s with
  | false =>
    rw [show kndO S x = false by unfold kndO; rw [hs]; cases chO S x <;> rfl]
    rw [hs] at HB HP
    have HN := Lib.hid (h.pn HB.out)
    clear h
    go_enter Try.func75, Try.ntmps75
    go_wp2_with fail
    go_ret
    exact ⟨rfl, HN.out⟩
  | true =>
    rw [hs] at HB HP
    have HS := Lib.hid (pc_sendn x HP.out hb hs hc)
    clear h hb hc
    cases hk : kndO S x with
    | true =>
      rw [hk] at HS
      go_enter Try.func75, Try.ntmps75
      go_wp2_with fail
      refine HS.out.mono ?_
      rintro e w1 ⟨A, cap, rfl, g⟩
      have G := Lib.hid (g.early HB.out)
      clear g HS
      go_wp2_with fail
      go_ret
      exact ⟨rfl, G.out⟩
    | false =>
      rw [hk] at HS
      go_enter Try.func75, Try.ntmps75
      go_wp2_with fail
      refine HS.out.mono ?_
      rintro e w1 ⟨A, cap, rfl, g⟩
      have G := Lib.hid (g.early HB.out)
      clear g HS
      go_wp2_with fail
      go_ret
      exact ⟨rfl, G.out⟩
end
theorem tm_neg {n c : Int} (h0 : 0 < c) (h : n.tmod c < 0) : n.tmod c + c = n % c := by
  have e1 := Int.lt_tmod_of_pos n h0
  rw [← tm_mod, ← Int.add_emod_right, Int.emod_eq_of_lt (by omega) (by omega)]
theorem tm_pos {n c : Int} (h0 : 0 < c) (h : 0 ≤ n.tmod c) : n.tmod c = n % c := by
  have e2 := Int.tmod_lt_of_pos n h0
  rw [← tm_mod, Int.emod_eq_of_lt h e2]
theorem pick_any (n c : Int) (w : World) (h : 1 ≤ c) (hc : c ≤ 1000000) : Calls Try.prog 47 #[.int .i64 n, .int .i64 c] w fun e w' => e = .returned (.int .i64 (n % c)) ∧ w = w' := by
  have e1 := Int.lt_tmod_of_pos n (show 0 < c by omega)
  have e2 := Int.tmod_lt_of_pos n (show 0 < c by omega)
  have e3 : (c == 0) = false := by rw [beq_eq_false_iff_ne]; omega
  by_cases h0 : n.tmod c < 0
  · go_enter Try.func47, Try.ntmps47
    go_wp2
    go_ret
    exact ⟨ret_int (tm_neg (by omega) h0), rfl⟩
  · go_enter Try.func47, Try.ntmps47
    go_wp2
    go_ret
    exact ⟨ret_int (tm_pos (by omega) h0), rfl⟩
theorem mpick_any (n c : Int) (w : World) (h : 1 ≤ c) (hc : c ≤ 1000000) : Calls Try.prog 50 #[.int .i64 n, .int .i64 c] w fun e w' => e = .returned (.int .i64 (n % c)) ∧ w = w' := by
  have e1 := Int.lt_tmod_of_pos n (show 0 < c by omega)
  have e2 := Int.tmod_lt_of_pos n (show 0 < c by omega)
  have e3 : (c == 0) = false := by rw [beq_eq_false_iff_ne]; omega
  by_cases h0 : n.tmod c < 0
  · go_enter Try.func50, Try.ntmps50
    go_wp2
    go_ret
    exact ⟨ret_int (tm_neg (by omega) h0), rfl⟩
  · go_enter Try.func50, Try.ntmps50
    go_wp2
    go_ret
    exact ⟨ret_int (tm_pos (by omega) h0), rfl⟩
end Go.Proofs.Ytmcacmbllpphiaa
