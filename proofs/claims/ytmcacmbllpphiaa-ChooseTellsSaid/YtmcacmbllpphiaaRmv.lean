/- Remove takes a task's waits out of both queues. Conditions: each theorem's own premises. -/
import Derived.Test.YtmcacmbllpphiaaCtr
namespace Go.Proofs.Ytmcacmbllpphiaa
open Go.RowKit
set_option linter.unusedVariables false

section
variable {w : World} {c : Nat} {F : Nat → Prop} {s : CS}
def gone (s : CS) (t : Int) : CS := { s with ss := s.ss.filter fun x => !isT t x, rs := s.rs.filter fun x => !isT t x }
theorem Tn.same {F : Nat → Prop} {w w' : World} (hh : w'.heap = w.heap) (h1 : w'.os = w.os) (h2 : w'.tape = w.tape) (h3 : w'.output = w.output) : Tn F w w' := (Tn.refl F w).draws hh h1 h2 h3
set_option maxRecDepth 100000 in
set_option maxHeartbeats 2000000 in
theorem remove_chan (t : Int) (h : CH w F c s) (h1 : s.ss.length ≤ 1000000) (h2 : s.rs.length ≤ 1000000) : Calls Try.prog 37 #[.pointer (some ⟨c, 0, none⟩), .int .i64 t] w fun e w' => e = .returned (.int .i64 ((s.ss.countP (isT t) : Int) + (s.rs.countP (isT t) : Int))) ∧ Go F c (gone s t) w w' := by
  have c0 := h.c0
  have HR1 : Hid (∀ w1 : World, w1.heap = w.heap → w1.os = w.os → w1.tape = w.tape → w1.output = w.output → Calls Try.prog 72 #[.pointer (some ⟨c, 3, none⟩), .int .i64 t] w1 fun e w' => e = .returned (.int .i64 (s.ss.countP (isT t))) ∧ Go F c { s with ss := s.ss.filter fun x => !isT t x } w w') := by
    intro w1 e1 e2 e3 e4
    refine (ch_remove t (h.keep fun _ _ => by rw [e1]) true h1).mono ?_
    rintro e w' ⟨rfl, g⟩
    exact ⟨rfl, Go.comp (Tn.same e1 e2 e3 e4) (fun b hb => .inl hb) g⟩
  have HR2 : Hid (∀ F1 (w1 w2 : World), CH w1 F1 c { s with ss := s.ss.filter fun x => !isT t x } → w2.heap = w1.heap → w2.os = w1.os → w2.tape = w1.tape → w2.output = w1.output → Calls Try.prog 72 #[.pointer (some ⟨c, 6, none⟩), .int .i64 t] w2 fun e w' => e = .returned (.int .i64 (s.rs.countP (isT t))) ∧ Go F1 c (gone s t) w1 w') := by
    intro F1 w1 w2 hc e1 e2 e3 e4
    refine (ch_remove t (hc.keep (w' := w2) fun _ _ => by rw [e1]) false h2).mono ?_
    rintro e w' ⟨rfl, g⟩
    exact ⟨rfl, Go.comp (Tn.same e1 e2 e3 e4) (fun b hb => .inl hb) g⟩
  have b0 : 0 ≤ (s.ss.countP (isT t) : Int) := by omega
  have b01 : 0 ≤ (s.rs.countP (isT t) : Int) := by omega
  have b1 : (s.ss.countP (isT t) : Int) ≤ 1000000 := by have := List.countP_le_length (p := isT t) (l := s.ss); omega
  have b2 : (s.rs.countP (isT t) : Int) ≤ 1000000 := by have := List.countP_le_length (p := isT t) (l := s.rs); omega
  generalize (s.ss.countP (isT t) : Int) = n1 at *
  generalize (s.rs.countP (isT t) : Int) = n2 at *
  have e1 : IntKind.i64.wrap (n1 + n2) = n1 + n2 := by rw [IntKind.wrap_i64]; omega
  clear h h1 h2
  go_enter Try.func37, Try.ntmps37
  go_wp2_with fail
  go_region_with (first
    | (go_at_call 72; ((with_reducible refine (HR1.out _ ?h1 ?h2 ?h3 ?h4).mono ?_); (case h1 => rfl); (case h2 => rfl); (case h3 => rfl); (case h4 => rfl); rintro e w1 ⟨rfl, F1, hc1, hs1, t1⟩; have HC1 := Lib.hid hc1; have HS1 := Lib.hid hs1; have HT1 := Lib.hid t1; clear hc1 hs1 t1))
    | (go_at_call 72; go_loud ((with_reducible refine (HR2.out _ _ _ HC1.out ?h1 ?h2 ?h3 ?h4).mono ?_); (case h1 => rfl); (case h2 => rfl); (case h3 => rfl); (case h4 => rfl); rintro e w2 ⟨rfl, g⟩; have G := Lib.hid (Go.comp HT1.out HS1.out g); clear g HC1 HS1 HT1)))
  all_goals
    go_wp2_with fail
    go_ret
    exact ⟨rfl, G.out.draws rfl rfl rfl rfl⟩

end
end Go.Proofs.Ytmcacmbllpphiaa
