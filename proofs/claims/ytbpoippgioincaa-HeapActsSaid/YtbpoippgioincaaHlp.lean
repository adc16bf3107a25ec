/- What behind, heaped, item and Round of the laws answer. Conditions: each theorem's own premises. -/
import Derived.Test.YtbpoippgioincaaRem
import Derived.Test.YtbpoippgioincaaAll
import Derived.Test.YtbpoippgioincaaRnt
namespace Go.Proofs.Ytbpoippgioincaa
open Go.RowKit
set_option linter.unusedVariables false
set_option maxRecDepth 100000
instance (a b : It) : Decidable (a.lt b) := inferInstanceAs (Decidable (a.w < b.w ∨ a.w = b.w ∧ a.s < b.s))
section
variable {w w' : World} {l : List It} {A : Option Addr} {n c : Nat}
theorem Rt.at (h : Rt w A n l) (h0 : 0 < n) : ∃ b off, A = some ⟨b, off, none⟩ ∧ b < w.heap.size ∧ ∀ j x, l[j]? = some x → w.cell? ⟨b, off + j * 3, none⟩ = some (.int .i64 x.id) ∧ w.cell? ⟨b, off + j * 3 + 1, none⟩ = some (.int .i64 x.w) ∧ w.cell? ⟨b, off + j * 3 + 2, none⟩ = some (.int .i64 x.s) := h.2 h0
theorem al2 (w : World) (o1 o2 : Obj) : Below w.heap.size w ((w.alloc o1).alloc o2) := ((Below.refl _ _).alloc (Nat.le_refl _) _).alloc (by simp) _
set_option maxHeartbeats 1000000 in
theorem behind_any (x y : It) (w : World) : Calls Try.prog 49 #[vI x, vI y] w (BoolR (decide (y.lt x)) w) := by
  by_cases c1 : y.w < x.w
  · have e1 : decide (y.lt x) = true := decide_eq_true (Or.inl c1)
    rw [e1]
    go_enter Try.func49, Try.ntmps49
    go_wp2_with fail
    go_ret
    exact ⟨rfl, al2 w _ _⟩
  · by_cases c2 : x.w = y.w
    · have e1 : decide (y.lt x) = decide (y.s < x.s) := decide_eq_decide.2 (by unfold It.lt; omega)
      have c3 : (x.w == y.w) = true := by simp [c2]
      rw [e1]
      by_cases c4 : y.s < x.s
      · rw [decide_eq_true c4]
        go_enter Try.func49, Try.ntmps49
        go_wp2_with fail
        go_ret
        exact ⟨rfl, al2 w _ _⟩
      · rw [decide_eq_false c4]
        go_enter Try.func49, Try.ntmps49
        go_wp2_with fail
        go_ret
        exact ⟨rfl, al2 w _ _⟩
    · have e1 : decide (y.lt x) = false := decide_eq_false (by unfold It.lt; omega)
      have c3 : (x.w == y.w) = false := by simp [c2]
      rw [e1]
      go_enter Try.func49, Try.ntmps49
      go_wp2_with fail
      go_ret
      exact ⟨rfl, al2 w _ _⟩

set_option maxHeartbeats 4000000 in
theorem heaped_any (h : Rt w A l.length l) (hp : Hp l) (h1 : (l.map It.s).Nodup) (hl : l.length ≤ 1000) : Calls Try.prog 27 #[.slice A l.length c] w (BoolR true w) := by
  have HR := Lib.hid h
  have HL := Lib.hid (And.intro hp h1)
  clear h hp h1
  go_enter Try.func27, Try.ntmps27
  go_wp2_with fail
  go_loopw [3] (fun u wr => ∃ k : Nat, 1 ≤ k ∧ u = .int .i64 k ∧ Hid (Below w.heap.size w wr)) (fun u _ => l.length - (intOf u).toNat)
  case atStart => exact ⟨1, by omega, rfl, Below.refl _ _⟩
  case round =>
    obtain ⟨k, hk, rfl, HK⟩ := hrel
    by_cases hlt : k < l.length
    · have hlc : (k : Int) < (l.length : Int) := by omega
      obtain ⟨j, hjj⟩ : ∃ j, j = (k - 1) / 4 := ⟨_, rfl⟩
      have hjl : j < l.length := by omega
      obtain ⟨x, hx⟩ := ex_at hlt
      obtain ⟨y, hy⟩ := ex_at hjl
      obtain ⟨b, off, rfl, hb, hc⟩ := HR.out.at (by omega)
      have R2 := HR.out.later HK.out
      obtain ⟨b', off', e', hb', hc'⟩ := R2.at (by omega)
      obtain ⟨rfl, rfl⟩ : b = b' ∧ off = off' := by injection e' with e'; injection e' with e1 e2; exact ⟨e1, e2⟩
      obtain ⟨x0, x1, x2⟩ := hc' k x hx
      obtain ⟨y0, y1, y2⟩ := hc' j y hy
      have hlt' := edge_lt HL.out.2 HL.out.1 (by omega) (by rw [← hjj]; exact hy) hx
      have b1 : IntKind.i64.wrap ((k : Int) - 1) = (k : Int) - 1 := by rw [IntKind.wrap_i64]; omega
      have b2 : IntKind.i64.wrap (((k : Int) - 1).tdiv 4) = (j : Int) := by
        rw [show (k : Int) - 1 = ((k - 1 : Nat) : Int) by omega, IntKind.wrap_i64]
        have : ((k - 1 : Nat) : Int).tdiv 4 = (((k - 1) / 4 : Nat) : Int) := by
          rw [Int.tdiv_eq_ediv_of_nonneg (by omega)]; omega
        rw [this]; omega
      have b3 : IntKind.i64.wrap ((k : Int) + 1) = (k : Int) + 1 := by rw [IntKind.wrap_i64]; omega
      have HB : Hid (Calls Try.prog 49 #[vI x, vI y] wr.drew (BoolR true wr.drew)) := by have := behind_any x y wr.drew; rwa [decide_eq_true hlt'] at this
      clear hc hc' hb' R2 hjj hx hy hlt'
      go_wp2_with fail
      go_still_tail 10, (by kernel_rfl)
      change wpList _ _ _ _ _ wr.drew
      have HK2 : Hid (Below w.heap.size w wr.drew) := HK.out.drew
      generalize wr.drew = wq at *
      clear HK x0 x1 x2 y0 y1 y2 b1 b2
      go_wp2_with fail
      refine HB.out.mono ?_
      rintro e w3 ⟨rfl, hb3⟩
      have HK3 : Hid (Below w.heap.size w w3) := HK2.out.trans (hb3.mono HK2.out.size)
      clear HK2 hb3 HB
      go_wp2_with fail
      go_roundw
      case rel => exact ⟨k + 1, by omega, by go_num, HK3⟩
      case measure => simp [intOf]; omega
    · have hlc : ¬ (k : Int) < (l.length : Int) := by omega
      go_wp2_with fail
      go_ret
      exact ⟨rfl, HK.out⟩
end
end Go.Proofs.Ytbpoippgioincaa
