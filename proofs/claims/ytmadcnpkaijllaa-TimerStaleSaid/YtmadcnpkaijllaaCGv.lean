/- What the smaller calls of package chanq do: give, Send, Put, Drop, New, Timed, Signal, Len, Cap, Closed, Can. Conditions: each theorem's own premises. -/
import Derived.Test.YtmadcnpkaijllaaCChn
namespace Go.Proofs.Ytmadcnpkaijllaa.Ch
open Go.RowKit
set_option linter.unusedVariables false
set_option maxRecDepth 100000

/-- One who is woken. -/
structure Wk where
  t : Int
  c : Int
  v : Int
  ok : Bool
  pn : Bool
def kA (x : Wk) : Array Value := #[.int .i64 x.t, .int .i64 x.c, .int .i64 x.v, .bool x.ok, .bool x.pn]
def RdK (w : World) (A : Option Addr) (n : Nat) (l : List Wk) : Prop := l.length = n ∧ (0 < n → ∃ b cs, A = some ⟨b, 0, none⟩ ∧ w.heap[b]? = some (.cells cs 62 (0, 0)) ∧
  ∀ i x, l[i]? = some x → w.cell? ⟨b, i * 5, none⟩ = some (.int .i64 x.t) ∧ w.cell? ⟨b, i * 5 + 1, none⟩ = some (.int .i64 x.c) ∧ w.cell? ⟨b, i * 5 + 2, none⟩ = some (.int .i64 x.v) ∧ w.cell? ⟨b, i * 5 + 3, none⟩ = some (.bool x.ok) ∧ w.cell? ⟨b, i * 5 + 4, none⟩ = some (.bool x.pn))
theorem RdK.keep {w w' : World} {A : Option Addr} {n : Nat} {l : List Wk} (h : RdK w A n l) (k : ∀ (b : Nat) (cs : Array Value), w.heap[b]? = some (.cells cs 62 (0, 0)) → w'.heap[b]? = w.heap[b]?) : RdK w' A n l :=
  ⟨h.1, fun h0 => by
    obtain ⟨b, cs, e, hb, hc⟩ := h.2 h0
    refine ⟨b, cs, e, (k b cs hb).trans hb, fun i x hx => ?_⟩
    obtain ⟨c0, c1, c2, c3, c4⟩ := hc i x hx
    have hk := k b cs hb
    exact ⟨(cell_blk hk _).trans c0, (cell_blk hk _).trans c1, (cell_blk hk _).trans c2, (cell_blk hk _).trans c3, (cell_blk hk _).trans c4⟩⟩
theorem RdK.later {w w' : World} {A : Option Addr} {n : Nat} {l : List Wk} (h : RdK w A n l) (hb : Below w.heap.size w w') : RdK w' A n l := h.keep fun b cs e => hb.block b (lt_of_blk e)
theorem RdK.go {w w' : World} {A : Option Addr} {n c : Nat} {l : List Wk} {F : Nat → Prop} {s s' : CS} (h : RdK w A n l) (hc : CH w F c s) (g : Go F c s' w w') : RdK w' A n l := h.keep fun b cs e => g.other hc (lt_of_blk e) (not_isc e (by decide))
theorem RdK.nil (w : World) (A : Option Addr) : RdK w A 0 [] := ⟨rfl, fun h => absurd h (by omega)⟩
theorem RdK.one (w : World) (x : Wk) (N : Nat) (hN : N = w.heap.size) : RdK (w.alloc (.cells (kA x) 62)) (some ⟨N, 0, none⟩) 1 [x] := by
  subst hN
  have hb := heap_alloc_new w (.cells (kA x) 62)
  refine ⟨rfl, fun _ => ⟨w.heap.size, _, rfl, hb, fun i y hy => ?_⟩⟩
  have hi : i < [x].length := (List.getElem?_eq_some_iff.1 hy).1
  simp at hi; subst hi
  simp at hy; subst hy
  refine ⟨?_, ?_, ?_, ?_, ?_⟩ <;> (rw [cell_of_row _ _ _ _ _ _ hb]; rfl)

/-- A value is given. -/
def gv (s : CS) (v : Int) : CS × List Wk × Bool := match s.rs with
  | x :: r => ({ s with rs := r }, [⟨x.t, x.c, v, true, false⟩], true)
  | [] => if s.l.length < s.sz then ({ s with l := s.l ++ [v] }, [], true) else (s, [], false)
def GvR (F : Nat → Prop) (c : Nat) (g : CS × List Wk × Bool) (w : World) (e : Ending) (w' : World) : Prop :=
  ∃ A cap, e = .returned (.tuple #[.slice A g.2.1.length cap, .bool g.2.2]) ∧ RdK w' A g.2.1.length g.2.1 ∧ Go F c g.1 w w'
section
variable {w : World} {c : Nat} {F : Nat → Prop} {s : CS}
theorem give_any (v : Int) (h : CH w F c s) (hn : s.rs.length ≤ 1000000) : Calls Try.prog 55 #[.pointer (some ⟨c, 0, none⟩), .int .i64 v] w (GvR F c (gv s v) w) := by
  have HC := Lib.hid h
  cases hr : s.rs with
  | cons x r =>
    have e : gv s v = ({ s with rs := r }, [⟨x.t, x.c, v, true, false⟩], true) := by unfold gv; rw [hr]
    rw [e]
    have hp := ch_pop_some h false hr (by rw [hr] at hn; simp at hn; omega)
    simp only [off] at hp
    replace hp := Lib.hid hp
    have c0 := h.c0
    clear h hr hn e
    go_enter Try.func55, Try.ntmps55
    go_wp2_with fail
    refine hp.out.mono ?_
    rintro e w' ⟨rfl, g⟩
    have G := Lib.hid g
    clear g hp HC
    unfold wG
    go_wp2_with fail
    go_ret2
    refine ⟨some ⟨_, 0, none⟩, 1, rfl, RdK.one _ ⟨x.t, x.c, v, true, false⟩ _ (by simp), (G.out.later (below_al _ _)).later (below_al _ _)⟩
  | nil =>
    have hp := ch_pop_none h false hr
    simp only [off] at hp
    replace hp := Lib.hid hp
    by_cases hl : s.l.length < s.sz
    · have e : gv s v = ({ s with l := s.l ++ [v] }, [], true) := by unfold gv; rw [hr]; simp only; rw [if_pos hl]
      rw [e]
      have HL := Lib.hid hl
      clear h hr hn e hl
      go_enter Try.func55, Try.ntmps55
      go_wp2_with fail
      refine hp.out.mono ?_
      rintro e w1 ⟨rfl, F1, hc1, hs1, t1⟩
      have HC1 := Lib.hid (hc1.later (below_al w1 (.cells #[.int .i64 0, .int .i64 0, .int .i64 0] 60)))
      have HT : Hid (Tn F w (w1.alloc (.cells #[.int .i64 0, .int .i64 0, .int .i64 0] 60))) := t1.later (below_al _ _)
      have HS := Lib.hid hs1
      obtain ⟨V, c2, _, _, _, _, _, hpush, _⟩ := HC1.out.ring
      have HP := Lib.hid (hpush v HL.out)
      clear hpush hc1 hs1 t1 hp HC
      unfold wG
      go_wp2_with fail
      refine HP.out.mono ?_
      rintro e w' ⟨rfl, g⟩
      have G := Lib.hid (Go.comp HT.out HS.out g)
      clear g HP HC1 HT HS c2
      go_wp2_with fail
      go_ret2
      exact ⟨none, 0, rfl, RdK.nil _ _, G.out⟩
    · have e : gv s v = (s, [], false) := by unfold gv; rw [hr]; simp only; rw [if_neg hl]
      rw [e]
      have HL : Hid (s.l.length = s.sz) := by have := h.le; show _ = _; omega
      clear h hr hn e hl
      go_enter Try.func55, Try.ntmps55
      go_wp2_with fail
      refine hp.out.mono ?_
      rintro e w1 ⟨rfl, F1, hc1, hs1, t1⟩
      have HC1 := Lib.hid (hc1.later (below_al w1 (.cells #[.int .i64 0, .int .i64 0, .int .i64 0] 60)))
      have HT : Hid (Tn F w (w1.alloc (.cells #[.int .i64 0, .int .i64 0, .int .i64 0] 60))) := t1.later (below_al _ _)
      have HS := Lib.hid hs1
      obtain ⟨V, c2, _, _, _, _, _, _, hpush⟩ := HC1.out.ring
      have HP := Lib.hid (hpush v HL.out)
      clear hpush hc1 hs1 t1 hp HC
      unfold wG
      go_wp2_with fail
      refine HP.out.mono ?_
      rintro e w' ⟨rfl, g⟩
      have G := Lib.hid (Go.comp HT.out HS.out g)
      clear g HP HC1 HT HS c2
      go_wp2_with fail
      go_ret2
      exact ⟨none, 0, rfl, RdK.nil _ _, G.out⟩
end
end Go.Proofs.Ytmadcnpkaijllaa.Ch
