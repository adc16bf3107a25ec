/- A list by what it holds; two slices that read alike are told alike; the laws' own examples hold. Conditions: each theorem's own premises. -/
import Derived.Test.YthiifnbgdajgaaaDoorRChg
namespace Go.Proofs.YthiifnbgdajgaaaDoor
open Go.RowKit
set_option linter.unusedVariables false
set_option maxRecDepth 100000

section
variable {B o b c : Nat} {P : Option Addr} {l : List Int} {w : World}
theorem g_add_old {x : Int} (h : RG B w o b P c l) (hx : Wf x) (hm : x ∈ l) : Calls Tryd.prog 25 #[.pointer (some ⟨o, 0, none⟩), .int .i64 x] w fun e w' => e = .returned (.int .i64 1) ∧ w = w' := by
  obtain ⟨f, h1, _⟩ := h
  exact add_old x w h1 hx hm
theorem g_add_new {x : Int} (h : RG B w o b P c l) (hx : 0 ≤ x ∧ Wf x) (hm : x ∉ l) (hl : l.length ≤ 1000) (hB : B ≤ w.heap.size) : Calls Tryd.prog 25 #[.pointer (some ⟨o, 0, none⟩), .int .i64 x] w (AddR B o b P (l ++ [x]) w) := by
  obtain ⟨f, h1, h2⟩ := h
  exact add_new x w h1 h2 hx hm hl hB
theorem g_remove_no {x : Int} (h : RG B w o b P c l) (hx : Wf x) (hm : x ∉ l) : Calls Tryd.prog 31 #[.pointer (some ⟨o, 0, none⟩), .int .i64 x] w fun e w' => e = .returned (.bool false) ∧ w = w' := by
  obtain ⟨f, h1, _⟩ := h
  exact remove_no x w h1 hx hm
theorem g_remove_yes {p : Nat} {x : Int} (h : RG B w o b P c l) (hp : l[p]? = some x) (hl : l.length ≤ 1000) : Calls Tryd.prog 31 #[.pointer (some ⟨o, 0, none⟩), .int .i64 x] w (RemR B o b P c (l.eraseIdx p) w) := by
  obtain ⟨f, h1, h2⟩ := h
  exact remove_yes x w h1 h2 hp hl
theorem g_pick_none {n : Int} (h : RG B w o b P c []) : Calls Tryd.prog 36 #[.pointer (some ⟨o, 0, none⟩), .int .i64 n] w fun e w' => e = .returned (.tuple #[.int .i64 0, .bool false]) ∧ w = w' := by
  obtain ⟨f, h1, _⟩ := h
  exact pick_none n w h1
theorem g_pick_any {n x : Int} (h : RG B w o b P c l) (hm : l.length ≤ 1000) (hx : l[pk n l.length]? = some x) : Calls Tryd.prog 36 #[.pointer (some ⟨o, 0, none⟩), .int .i64 n] w fun e w' => e = .returned (.tuple #[.int .i64 x, .bool true]) ∧ ∃ q, w' = w.drewN q := by
  obtain ⟨f, h1, _⟩ := h
  have := at_lt hx
  exact pick_any n x w h1 (by omega) hm hx
theorem g_len {P : Option Addr} (h : RG B w o b P c l) : Calls Tryd.prog 44 #[.pointer (some ⟨o, 0, none⟩)] w fun e w' => e = .returned (.int .i64 (l.length : Int)) ∧ w = w' := by
  obtain ⟨f, h1, _⟩ := h
  exact len_any w h1
theorem g_all (h : RG B w o b P c l) (hl : l.length ≤ 1000) : Calls Tryd.prog 33 #[.pointer (some ⟨o, 0, none⟩)] w (AllR l w) := by
  obtain ⟨f, h1, _⟩ := h
  exact all_any w h1 hl
theorem RG.nd (h : RG B w o b P c l) : l.Nodup := by obtain ⟨f, h1, _⟩ := h; exact h1.nd
theorem RG.wf (h : RG B w o b P c l) : ∀ x ∈ l, 0 ≤ x ∧ Wf x := by obtain ⟨f, h1, _⟩ := h; exact h1.wf
end

theorem ints_eq {w : World} {A1 A2 : Option Addr} {n c1 c2 : Nat} {l : List Int} (h1 : Rn w A1 n l) (h2 : Rn w A2 n l) (hn : n ≤ 1000) :
    Calls Tryd.prog 16 #[.slice A1 n c1, .slice A2 n c2] w fun e w' => e = .returned (.bool true) ∧ ∃ q, w' = w.drewN q := by
  have hn1 : (n : Int) ≤ 1000 := by omega
  have hl := h1.1
  have H1 := Lib.hid h1
  have H2 := Lib.hid h2
  have HL := Lib.hid hl
  clear h1 h2 hl
  go_enter Tryd.func16, Tryd.ntmps16
  go_wp2_with fail
  go_loopw [5] (fun i wr => ∃ k q : Nat, k ≤ n ∧ i = .int .i64 k ∧ wr = w.drewN q) (fun i _ => n - (intOf i).toNat)
  case atStart => exact ⟨0, 0, by omega, rfl, rfl⟩
  case round =>
    obtain ⟨k, q, hk, rfl, rfl⟩ := hrel
    by_cases hlt : k < n
    · obtain ⟨b1, o1, rfl, _, d1⟩ := H1.out.at (by omega)
      obtain ⟨b2, o2, rfl, _, d2⟩ := H2.out.at (by omega)
      have hkl : k < l.length := by rw [HL.out]; exact hlt
      have e1 := d1 k _ (List.getElem?_eq_getElem hkl)
      have e2 := d2 k _ (List.getElem?_eq_getElem hkl)
      generalize l[k] = x at *
      clear d1 d2 hkl
      go_wp2_with fail
      go_quiet (fail)
      go_wp2_with fail
      go_roundw
      case rel => exact ⟨k + 1, _, by omega, by go_num, rfl⟩
      case measure => simp [intOf]; omega
    · obtain rfl : k = n := by omega
      go_wp2_with fail
      go_ret
      exact ⟨rfl, _, rfl⟩
theorem rn_blk {w : World} {N : Nat} {x : Int} (h : w.heap[N]? = some (.cells #[.int .i64 x] 3 (0, 0))) : Rn w (some ⟨N, 0, none⟩) 1 [x] := by
  refine ⟨rfl, fun _ => ⟨N, 0, rfl, lt_of_blk h, fun j y hy => ?_⟩⟩
  have hj := at_lt hy
  simp at hj
  subst hj
  simp at hy
  subst hy
  rw [cell_of_row w N 0 _ _ _ h]; rfl

end Go.Proofs.YthiifnbgdajgaaaDoor
