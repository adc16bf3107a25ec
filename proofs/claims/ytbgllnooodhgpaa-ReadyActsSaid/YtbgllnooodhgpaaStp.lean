/- A copy of a slice, and more behind it, as operations and as steps of a region that draws its order. Conditions: each theorem's own premises. -/
import Derived.Test.YtbgllnooodhgpaaOpn
import Derived.Deep.RegionHeld3
namespace Go.Proofs.Ytbgllnooodhgpaa
open Go.RowKit
set_option linter.unusedVariables false

section
variable {w2 wx : World} {ops : Array Oper} {rest : List Oper} {o : Oper} {a : Act} {K : Act → World → Prop} {Q : Exit → Act → World → Prop} {E : Prop}
theorem own_e {base N : Nat} (hN : wx.heap[N]? = some (.cells #[] 3 (0, 0))) (h : base ≤ N) : wx.ownsRow base 3 1 (.slice (some ⟨N, 0, none⟩) 0 0) 0 (iV []) :=
  ⟨rfl, .inr ⟨N, 0, #[], rfl, h, hN, Nat.le_refl _, by unfold maxLen; omega, rfl, rfl⟩⟩
/-- The copy. -/
theorem step_copy (hgd : o.guard = none) (s x : Operand) (hop : o.op = .call { callee := .builtin .append, args := #[s, x], argTypes := #[26, 26] })
    (N : Nat) (A : Option Addr) (m c : Nat) (l : List Int) (hv : a.eval s = .slice (some ⟨N, 0, none⟩) 0 0) (hx : a.eval x = .slice A m c)
    (hN : wx.heap[N]? = some (.cells #[] 3 (0, 0))) (hle : w2.heap.size ≤ N) (hb : Below w2.heap.size w2 wx) (hr : Rn w2 A m l) (hm : m ≤ 400)
    (hK : ∀ v' w', w'.ownsRow w2.heap.size 3 1 v' m (iV l) → Below w2.heap.size w2 w' → K (a.put o.dst v') w') :
    if Region.wanted o (yielded ops a.tmps) = true then Oper.wp Try.prog o a wx K Q else E := by
  have hE := own_e hN hle
  refine step_app hgd s x hop w2.heap.size _ 0 [] hv hE A m c l hx (hr.later hb) (by omega) hb.size fun v' w' ho hg => ?_
  rw [Nat.zero_add, List.nil_append] at ho
  exact hK v' w' ho (below_own hb hE hg)
/-- More behind it. -/
theorem step_more (hgd : o.guard = none) (s x : Operand) (hop : o.op = .call { callee := .builtin .append, args := #[s, x], argTypes := #[26, 26] })
    (v : Value) (A : Option Addr) (n m c : Nat) (l l' : List Int) (hv : a.eval s = v) (hx : a.eval x = .slice A m c)
    (ho : wx.ownsRow w2.heap.size 3 1 v n (iV l)) (hb : Below w2.heap.size w2 wx) (hr : Rn wx A m l') (hn : n ≤ 400) (hm : m ≤ 400)
    (hK : ∀ v' w', w'.ownsRow w2.heap.size 3 1 v' (n + m) (iV (l ++ l')) → Below w2.heap.size w2 w' → K (a.put o.dst v') w') :
    if Region.wanted o (yielded ops a.tmps) = true then Oper.wp Try.prog o a wx K Q else E := by
  refine step_app hgd s x hop w2.heap.size v n l hv ho A m c l' hx hr (by omega) hb.size fun v' w' ho' hg => ?_
  exact hK v' w' ho' (below_own hb ho hg)
theorem wp_copy (hgd : o.guard = none) (s x : Operand) (hop : o.op = .call { callee := .builtin .append, args := #[s, x], argTypes := #[26, 26] })
    (N : Nat) (A : Option Addr) (m c : Nat) (l : List Int) (hv : a.eval s = .slice (some ⟨N, 0, none⟩) 0 0) (hx : a.eval x = .slice A m c)
    (hN : wx.heap[N]? = some (.cells #[] 3 (0, 0))) (hle : w2.heap.size ≤ N) (hb : Below w2.heap.size w2 wx) (hr : Rn w2 A m l) (hm : m ≤ 400)
    (hK : ∀ v' w', w'.ownsRow w2.heap.size 3 1 v' m (iV l) → Below w2.heap.size w2 w' → wpList Try.prog ops Q rest (a.put o.dst v') w') : wpList Try.prog ops Q (o :: rest) a wx := by
  have hE := own_e hN hle
  refine wp_app hgd s x hop w2.heap.size _ 0 [] hv hE A m c l hx (hr.later hb) (by omega) hb.size fun v' w' ho hg => ?_
  rw [Nat.zero_add, List.nil_append] at ho
  exact hK v' w' ho (below_own hb hE hg)
theorem wp_more (hgd : o.guard = none) (s x : Operand) (hop : o.op = .call { callee := .builtin .append, args := #[s, x], argTypes := #[26, 26] })
    (v : Value) (A : Option Addr) (n m c : Nat) (l l' : List Int) (hv : a.eval s = v) (hx : a.eval x = .slice A m c)
    (ho : wx.ownsRow w2.heap.size 3 1 v n (iV l)) (hb : Below w2.heap.size w2 wx) (hr : Rn wx A m l') (hn : n ≤ 400) (hm : m ≤ 400)
    (hK : ∀ v' w', w'.ownsRow w2.heap.size 3 1 v' (n + m) (iV (l ++ l')) → Below w2.heap.size w2 w' → wpList Try.prog ops Q rest (a.put o.dst v') w') : wpList Try.prog ops Q (o :: rest) a wx := by
  refine wp_app hgd s x hop w2.heap.size v n l hv ho A m c l' hx hr (by omega) hb.size fun v' w' ho' hg => ?_
  exact hK v' w' ho' (below_own hb ho hg)
end
end Go.Proofs.Ytbgllnooodhgpaa
