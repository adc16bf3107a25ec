/- Waiting, where nobody waits: the world stays. Conditions: each theorem's own premises. -/
import Derived.Test.YtmcacmbllpphiaaRq
namespace Go.Proofs.Ytmcacmbllpphiaa
open Go.RowKit
set_option linter.unusedVariables false
theorem all_empty {w : World} {s : Bool} {q : Nat} {R : Rs} (h : LQ w s q R []) : Calls Try.prog 60 #[.pointer (some ⟨q, off s, none⟩)] w fun e w' => e = .returned (.slice none 0 0) ∧ w = w' := by
  have HL := Lib.hid h
  clear h
  go_enter Try.func60, Try.ntmps60
  go_wp2_with fail
  refine (head_any HL.out).mono ?_
  rintro e w' ⟨rfl, rfl⟩
  rw [hd_nil, adr_none]
  go_wp2_with fail
  go_loopw [3, 4] (fun v p wr => v = .slice none 0 0 ∧ p = .pointer none ∧ wr = w) (fun _ _ _ => 0)
  case atStart => exact ⟨rfl, rfl, rfl⟩
  case round =>
    obtain ⟨rfl, rfl, rfl⟩ := hrel
    go_wp2_with fail
    go_ret
    exact ⟨rfl, rfl⟩
theorem waiting_empty {w : World} {c : Nat} {F : Nat → Prop} {s : CS} (b : Bool) (h : CH w F c s) (hn : s.q b = []) : Calls Try.prog 24 #[.pointer (some ⟨c, 0, none⟩), .bool b] w fun e w' => e = .returned (.slice none 0 0) ∧ w = w' := by
  have HL := Lib.hid (ch_line h b)
  have HA : Hid (Calls Try.prog 60 #[.pointer (some ⟨c, off b, none⟩)] w fun e w' => e = .returned (.slice none 0 0) ∧ w = w') := by
    obtain ⟨ro, ns, ms, hF, h⟩ := h
    have e := h.len b
    rw [hn] at e
    have e0 : pk b ns ms = [] := List.map_eq_nil_iff.1 e
    have hq := h.lq b
    rw [e0] at hq
    exact all_empty hq
  clear h hn
  go_enter Try.func24, Try.ntmps24
  go_wp2_with fail
  refine HL.out.mono ?_
  rintro e w' ⟨rfl, rfl⟩
  go_wp2_with fail
  refine HA.out.mono ?_
  rintro e w' ⟨rfl, rfl⟩
  go_wp2
  go_ret
  exact ⟨rfl, rfl⟩
theorem zs_waiting0 {W w : World} {B : List Nat} {S : List CS} {i c : Nat} {s : CS} (b : Bool) (h : ZS W B S w) (hB : B[i]? = some c) (hi : S[i]? = some s) (hn : s.q b = []) : Calls Try.prog 24 #[.pointer (some ⟨c, 0, none⟩), .bool b] w fun e w' => e = .returned (.slice none 0 0) ∧ w = w' := by
  obtain ⟨F, hch, _⟩ := h.at hB hi
  exact waiting_empty b hch hn
end Go.Proofs.Ytmcacmbllpphiaa
