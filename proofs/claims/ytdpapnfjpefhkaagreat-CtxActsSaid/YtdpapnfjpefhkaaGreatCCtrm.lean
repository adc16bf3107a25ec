/- Send, Put, Drop, New, Timed, Signal, Len, Cap, Closed, Can, Remove. Conditions: each theorem's own premises.
Recv receives. Conditions: each theorem's own premises. -/
import Derived.Test.YtdpapnfjpefhkaaGreatCChnm
import Derived.Deep.RegionHeld3
import Derived.OwnWalk
namespace Go.Proofs.YtdpapnfjpefhkaaGreat.Ch
open Go.RowKit
set_option linter.unusedVariables false
set_option maxRecDepth 100000
section
variable {w : World} {c : Nat} {F : Nat → Prop} {s : CS}
theorem CH.draw (h : CH w F c s) (n : Nat) : CH (w.drewN n) F c s := h.keep fun _ _ => rfl
theorem CH.read (h : CH w F c s) : ∃ V, w.cell? ⟨c, 2, none⟩ = some (.pointer V) ∧ (∀ n, Calls Tryz.prog 93 #[.pointer V] (w.drewN n) fun e w' => e = .returned (.int .i64 s.l.length) ∧ w' = w.drewN n) ∧
  ∀ n, Calls Tryz.prog 94 #[.pointer V] (w.drewN n) fun e w' => e = .returned (.int .i64 s.sz) ∧ w' = w.drewN n := by
 obtain ⟨ro, ns, ms, hF, h⟩ := h
 refine ⟨vp ro, h.c2, ?_⟩
 have hx := h.rx
 obtain ⟨kd, cl, sz, l, ss, rs⟩ := s
 cases ro with
 | none =>
  obtain ⟨h1, h2⟩ := hx
  subst h1 h2
  exact ⟨fun n => (rlen_nil _).mono fun _ _ h => ⟨h.1, h.2.symm⟩, fun n => (rsize_nil _).mono fun _ _ h => ⟨h.1, h.2.symm⟩⟩
 | some m =>
  have k : ∀ n, RG (w.drewN n) m.1 m.2 sz l := fun n => RG.keep hx rfl rfl
  exact ⟨fun n => (rlen_any _ (k n)).mono fun _ _ h => ⟨h.1, h.2.symm⟩, fun n => (rsize_any _ (k n)).mono fun _ _ h => ⟨h.1, h.2.symm⟩⟩
def fr (s : CS) : Bool → Bool
 | true => decide (s.l.length < s.sz)
 | false => decide (0 < s.l.length)
theorem free_any (b : Bool) (h : CH w F c s) : Calls Tryz.prog 69 #[.pointer (some ⟨c, 0, none⟩), .bool b] w fun e w' => e = .returned (.bool (fr s b)) ∧ ∃ n, w' = w.drewN n := by
 obtain ⟨V, c2, hl, hs⟩ := h.read
 replace hl := Lib.hid hl
 replace hs := Lib.hid hs
 have c0 := h.c0
 clear h
 cases b
 · show Calls _ _ _ _ fun e w' => e = .returned (.bool (decide (0 < s.l.length))) ∧ _
   have hl0 := Lib.hid (hl.out 0)
   go_enter Tryz.func69, Tryz.ntmps69
   go_wp2_with fail
   refine hl0.out.mono ?_
   rintro e w' ⟨rfl, rfl⟩
   go_wp2_with fail
   go_ret
   exact ⟨rfl, 0, rfl⟩
 · show Calls _ _ _ _ fun e w' => e = .returned (.bool (decide (s.l.length < s.sz))) ∧ _
   go_enter Tryz.func69, Tryz.ntmps69
   go_wp2_with fail
   go_quiet (first | exact Calls.quiet_of_same (hl.out _) | exact Calls.quiet_of_same (hs.out _))
   go_wp2
   go_ret
   exact ⟨rfl, _, rfl⟩
theorem closed_chan (h : CH w F c s) : Calls Tryz.prog 41 #[.pointer (some ⟨c, 0, none⟩)] w fun e w' => e = .returned (.bool s.cl) ∧ w = w' := by
 have c1 := h.c1
 clear h
 go_enter Tryz.func41, Tryz.ntmps41
 go_wp2
 go_ret
 exact ⟨rfl, rfl⟩
structure Mk (c : Nat) (s : CS) (w w' : World) : Prop where
 ch : ∃ F, CH w' F c s ∧ ∀ b, F b → w.heap.size ≤ b
 bel : Below w.heap.size w w'
 at_ : w.heap.size ≤ c ∧ c < w'.heap.size
theorem signal_any (w : World) : Calls Tryz.prog 45 #[] w fun e w' => ∃ c, e = .returned (.pointer (some ⟨c, 0, none⟩)) ∧ Mk c ⟨2, false, 0, [], [], []⟩ w w' := by
 have hb := heap_alloc_new w (.cells (cB 2 false (vp none) [] []) 185)
 have HM : Hid (Mk w.heap.size ⟨2, false, 0, [], [], []⟩ w (w.alloc (.cells (cB 2 false (vp none) [] []) 185))) := by
  refine ⟨⟨_, ⟨none, [], [], fun k => Iff.rfl, ⟨hb, trivial, trivial, List.nodup_nil, ⟨rfl, rfl⟩, rfl, rfl, by simp, by simp, fun b x hx => ?_⟩⟩, fun b hb => ?_⟩, below_al _ _, by omega, by simp⟩
  · cases b <;> simp [CS.q] at hx
  · rcases hb with rfl | hb | ⟨m, hm, _⟩ | ⟨m, hm, _⟩
    · omega
    · exact hb.elim
    · simp at hm
    · simp at hm
 clear hb
 go_enter Tryz.func45, Tryz.ntmps45
 go_wp2
 go_ret
 exact ⟨w.heap.size, rfl, HM.out⟩
end
end Go.Proofs.YtdpapnfjpefhkaaGreat.Ch
namespace Go.Proofs.YtdpapnfjpefhkaaGreat.Ch
open Go.RowKit
set_option linter.unusedVariables false
set_option maxRecDepth 100000
section
variable {w : World} {c : Nat} {F : Nat → Prop} {s : CS}
def rc (s : CS) : CS × Int × Bool × Bool × List Wk := match s.l, s.ss with
 | v :: l, [] => ({ s with l := l }, v, true, true, [])
 | v :: l, x :: r => ({ s with l := l ++ [x.v], ss := r }, v, true, true, [⟨x.t, x.c, 0, true, false⟩])
 | [], x :: r => ({ s with ss := r }, x.v, true, true, [⟨x.t, x.c, 0, true, false⟩])
 | [], [] => (s, 0, false, s.cl, [])
end
end Go.Proofs.YtdpapnfjpefhkaaGreat.Ch
