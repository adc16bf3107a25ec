/- Whether programs are looked at, however many they are. Condition: they lie where the slices say. -/
import Derived.Test.YtifmamobhkgmfaaDoorAlk
namespace Go.Proofs.YtifmamobhkgmfaaDoor
open Go.RowKit
set_option linter.unusedVariables false

set_option maxHeartbeats 1000000 in
theorem aProgs_long (A : Option Addr) (n cap : Nat) (l : List Pr) (w : World) (hR : Hid (RdP w A n l)) : Calls Tryd.prog 8 #[.slice A n cap] w (LookR n l w) := by
  go_enter Tryd.func8, Tryd.ntmps8
  go_wp2
  go_loop [3, 4] (fun i j => ∃ k : Nat, k ≤ n ∧ k ≤ 20 ∧ i = .int .i64 k ∧ Hid (Small (l.take k))) (fun i _ => 20 - (intOf i).toNat)
  case atStart => exact ⟨0, by omega, by omega, rfl, fun p hp => by simp at hp⟩
  case round =>
    obtain ⟨k, hk, hk2, rfl, hS⟩ := hrel
    by_cases hlt : k < n
    · by_cases hk20 : k < 20
      · obtain ⟨bb, off, rfl, hb, hc⟩ := hR.out.cells (by omega)
        have hky : k < l.length := by rw [hR.out.1]; exact hlt
        have c0 := hc k (l[k]'hky) (List.getElem?_eq_getElem hky)
        have htk : l.take (k + 1) = l.take k ++ [l[k]'hky] := List.take_succ_eq_append_getElem hky
        have HAt := Lib.hid (hR.out.2.2 _ (List.getElem_mem hky))
        generalize l[k]'hky = x at *
        obtain ⟨xA, xn, xc, xl⟩ := x
        have HTK := Lib.hid htk
        clear htk hc hky
        simp only at c0
        by_cases h60 : xn ≤ 60
        · go_wp2
          go_loop [4] (fun j => ∃ m : Nat, m ≤ xn ∧ j = .int .i64 m ∧ Hid (∀ e ∈ xl.take m, e.n ≤ 20)) (fun j => xn - (intOf j).toNat)
          case atStart => exact ⟨0, by omega, rfl, fun e he => by simp at he⟩
          case round =>
            obtain ⟨m, hm, rfl, hI⟩ := hrel
            by_cases hmx : m < xn
            · obtain ⟨b2, o2, rfl, hb2, hc2⟩ := HAt.out.2.2.cells (by show 0 < xn; omega)
              have hml : m < xl.length := by rw [show xl.length = xn from HAt.out.2.2.1]; exact hmx
              obtain ⟨_, _, _, _, d4, _⟩ := hc2 m (xl[m]'hml) (List.getElem?_eq_getElem hml)
              have htm : xl.take (m + 1) = xl.take m ++ [xl[m]'hml] := List.take_succ_eq_append_getElem hml
              generalize xl[m]'hml = y at *
              have HTM := Lib.hid htm
              clear htm hc2 hml
              obtain ⟨op, a, b, c, yA, yn, yc, yd, ys⟩ := y
              simp only at d4
              by_cases h20 : yn ≤ 20
              · go_wp2
                go_round
                case rel =>
                  refine ⟨m + 1, by omega, by go_num, ?_⟩
                  show ∀ e ∈ _, _
                  rw [HTM.out]
                  intro e he
                  rcases List.mem_append.1 he with he | he
                  · exact hI.out e he
                  · simp at he; subst he; exact h20
                case measure => simp [intOf]; omega
              · go_wp2
                go_ret
                exact ⟨⟨false, rfl, fun h => by cases h⟩, rfl⟩
            · obtain rfl : m = xn := by omega
              go_wp2
              go_round
              case rel =>
                refine ⟨k + 1, by omega, by omega, by go_num, ?_⟩
                show ∀ p ∈ _, _
                rw [HTK.out]
                intro p hp
                rcases List.mem_append.1 hp with hp | hp
                · exact hS.out p hp
                · simp at hp; subst hp
                  refine ⟨h60, fun e he => hI.out e ?_⟩
                  rw [List.take_of_length_le (by rw [show xl.length = m from HAt.out.2.2.1]; exact Nat.le_refl _)]
                  exact he
              case measure => simp [intOf]; omega
        · go_wp2
          go_ret
          exact ⟨⟨false, rfl, fun h => by cases h⟩, rfl⟩
      · have hk' : k = 20 := by omega
        subst hk'
        have hn17 : ¬ n ≤ 17 := by omega
        go_wp2
        go_ret
        exact ⟨⟨_, rfl, fun h => by first | cases h | (simp at h; omega)⟩, rfl⟩
    · obtain rfl : k = n := by omega
      have HA : Hid (Small l) := by have h := hS.out; rw [List.take_of_length_le (by rw [hR.out.1]; exact Nat.le_refl _)] at h; exact h
      by_cases h17 : k ≤ 17
      · go_wp2
        go_ret
        exact ⟨⟨_, rfl, fun _ => ⟨h17, HA.out⟩⟩, rfl⟩
      · by_cases h20 : k < 20
        · go_wp2
          go_ret
          exact ⟨⟨_, rfl, fun h => by first | cases h | (simp at h; omega)⟩, rfl⟩
        · go_wp2
          go_ret
          exact ⟨⟨_, rfl, fun h => by first | cases h | (simp at h; omega)⟩, rfl⟩
end Go.Proofs.YtifmamobhkgmfaaDoor
