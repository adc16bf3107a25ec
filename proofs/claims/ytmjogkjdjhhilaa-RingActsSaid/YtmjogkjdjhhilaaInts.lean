/- Two slices that read alike are told alike. Conditions: both read as the one list. -/
import Derived.Test.YtmjogkjdjhhilaaAll
namespace Go.Proofs.Ytmjogkjdjhhilaa
open Go.RowKit
set_option linter.unusedVariables false

theorem Rn.at {w : World} {B : Nat} {A : Option Addr} {n : Nat} {l : List Int} (h : Rn w B A n l) (h0 : 0 < n) : ∃ b off, A = some ⟨b, off, none⟩ ∧ b < B ∧ ∀ j x, l[j]? = some x → w.cell? ⟨b, off + j, none⟩ = some (.int .i64 x) := h.2 h0
theorem ints_eq {w : World} {B1 B2 : Nat} {A1 A2 : Option Addr} {n c1 c2 : Nat} {l : List Int} (h1 : Rn w B1 A1 n l) (h2 : Rn w B2 A2 n l) (hn : n ≤ 1000) :
    Calls Try.prog 12 #[.slice A1 n c1, .slice A2 n c2] w fun e w' => e = .returned (.bool true) ∧ ∃ q, w' = w.drewN q := by
  have hn1 : (n : Int) ≤ 1000 := by omega
  have hl := h1.1
  have H1 := Lib.hid h1
  have H2 := Lib.hid h2
  have HL := Lib.hid hl
  clear h1 h2 hl
  go_enter Try.func12, Try.ntmps12
  go_wp2_with fail
  go_loopw [5] (fun i wr => ∃ k q : Nat, k ≤ n ∧ i = .int .i64 k ∧ wr = w.drewN q) (fun i _ => n - (intOf i).toNat)
  case atStart => exact ⟨0, 0, by omega, rfl, rfl⟩
  case round =>
    obtain ⟨k, q, hk, rfl, rfl⟩ := hrel
    by_cases hlt : k < n
    · obtain ⟨b1, o1, rfl, _, d1⟩ := H1.out.at (by omega)
      obtain ⟨b2, o2, rfl, _, d2⟩ := H2.out.at (by omega)
      have hkl : k < l.length := by rw [HL.out]; exact hlt
      have e1 := d1 k _ (List.getElem?_eq_getElem hkl)
      have e2 := d2 k _ (List.getElem?_eq_getElem hkl)
      generalize l[k] = x at *
      clear d1 d2 hkl
      go_wp2_with fail
      go_quiet (fail)
      go_wp2_with fail
      go_roundw
      case rel => exact ⟨k + 1, _, by omega, by go_num, rfl⟩
      case measure => simp [intOf]; omega
    · obtain rfl : k = n := by omega
      go_wp2_with fail
      go_ret
      exact ⟨rfl, _, rfl⟩
end Go.Proofs.Ytmjogkjdjhhilaa
