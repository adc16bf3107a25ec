/- A copy of a slice, and more behind it, as steps of a region that draws its order. Conditions: each theorem's own premises. -/
import Derived.Test.YtdmdmaolbbjboaaAcs
import Derived.Deep.CutRange
import Derived.Deep.DeepCutAuto
import Derived.Deep.RegionHeld3
namespace Go.Proofs.Ytdmdmaolbbjboaa
open Go.RowKit
set_option linter.unusedVariables false

theorem heap_e1 (w : World) : (w.alloc (.cells #[] 28)).heap[w.heap.size]? = some (.cells #[] 28 (0, 0)) := heap_alloc_new _ _
theorem heap_e2 (w : World) (o : Obj) : ((w.alloc (.cells #[] 28)).alloc o).heap[w.heap.size]? = some (.cells #[] 28 (0, 0)) := (Below.heap_alloc _ _ _ (by simp)).trans (heap_alloc_new _ _)
theorem heap_e3 (w : World) (o : Obj) : ((w.alloc o).alloc (.cells #[] 28)).heap[w.heap.size + 1]? = some (.cells #[] 28 (0, 0)) := by
  have := heap_alloc_new (w.alloc o) (.cells #[] 28)
  rw [World.size_alloc] at this
  exact this
theorem own_e {wx : World} {base N : Nat} (hN : wx.heap[N]? = some (.cells #[] 28 (0, 0))) (h : base ≤ N) : wx.ownsRow base 28 3 (.slice (some ⟨N, 0, none⟩) 0 0) 0 [] :=
  ⟨rfl, .inr ⟨N, 0, #[], rfl, h, hN, Nat.le_refl _, by unfold maxLen; omega, rfl, rfl⟩⟩
theorem own_heap {w w' : World} {base e s n : Nat} {v : Value} {xs : List Value} (h : w.ownsRow base e s v n xs) (hh : ∀ (k : Nat) (o : Obj), w.heap[k]? = some o → w'.heap[k]? = some o) : w'.ownsRow base e s v n xs :=
  ⟨h.1, h.2.imp id fun ⟨g, cap, cur, q1, q2, q3, q4⟩ => ⟨g, cap, cur, q1, q2, hh _ _ q3, q4⟩⟩

section
variable {w2 wx : World} {ops : Array Oper} {o : Oper} {a : Act} {K : Act → World → Prop} {Q : Exit → Act → World → Prop} {E : Prop}
/-- The copy. -/
theorem step_copy (hgd : o.guard = none) (s x : Operand) (hop : o.op = .call { callee := .builtin .append, args := #[s, x], argTypes := #[26, 26] })
    (N : Nat) (A : Option Addr) (m c : Nat) (l : List Wt) (hv : a.eval s = .slice (some ⟨N, 0, none⟩) 0 0) (hx : a.eval x = .slice A m c)
    (hN : wx.heap[N]? = some (.cells #[] 28 (0, 0))) (hle : w2.heap.size ≤ N) (hb : Below w2.heap.size w2 wx) (hr : RdW w2 A m l) (hm : m ≤ 1000)
    (hK : ∀ v' w', w'.ownsRow w2.heap.size 28 3 v' m (flW l) → Below w2.heap.size w2 w' → wx.grownBy w' (some N) → K (a.put o.dst v') w') :
    if Region.wanted o (yielded ops a.tmps) = true then Oper.wp Try.prog o a wx K Q else E := by
  obtain ⟨i0, hi, hz0, hz1, hz2⟩ := info_parts inf28
  have hE := own_e hN hle
  refine step_app hgd s x 26 hop w2.heap.size 28 3 24 i0 _ Try.underlying26 hi hz0 hz1 hz2 rfl (by decide) _ 0 [] hv hE _ A m c (flW l) hx (hr.later hb).2 (flW_one _) (by unfold maxLen; omega) (by omega) hb.size fun v' w' ho hg => ?_
  rw [Nat.zero_add, List.nil_append] at ho
  exact hK v' w' ho (below_app hb (Nat.le_refl _) hb.size hE hg) hg
/-- More behind it. -/
theorem step_more (hgd : o.guard = none) (s x : Operand) (hop : o.op = .call { callee := .builtin .append, args := #[s, x], argTypes := #[26, 26] })
    (v : Value) (A : Option Addr) (n m c : Nat) (l l' : List Wt) (hv : a.eval s = v) (hx : a.eval x = .slice A m c)
    (ho : wx.ownsRow w2.heap.size 28 3 v n (flW l)) (hb : Below w2.heap.size w2 wx) (hr : RdW wx A m l') (hn : n ≤ 1000) (hm : m ≤ 1000)
    (hK : ∀ v' w', w'.ownsRow w2.heap.size 28 3 v' (n + m) (flW (l ++ l')) → Below w2.heap.size w2 w' → K (a.put o.dst v') w') :
    if Region.wanted o (yielded ops a.tmps) = true then Oper.wp Try.prog o a wx K Q else E := by
  obtain ⟨i0, hi, hz0, hz1, hz2⟩ := info_parts inf28
  refine step_app hgd s x 26 hop w2.heap.size 28 3 24 i0 _ Try.underlying26 hi hz0 hz1 hz2 rfl (by decide) _ n (flW l) hv ho _ A m c (flW l') hx hr.2 (flW_one _) (by unfold maxLen; omega) (by omega) hb.size fun v' w' ho' hg => ?_
  rw [← flW_app] at ho'
  exact hK v' w' ho' (below_app hb (Nat.le_refl _) hb.size ho hg)
end
/-- One wait in a new block. -/
theorem rd_one (w : World) (x : Wt) : RdW (w.alloc (.cells #[.int .i64 x.t, .int .i64 x.c, .int .i64 x.v] 28)) (some ⟨w.heap.size, 0, none⟩) 1 [x] := ⟨rfl, Rd.one w x _ rfl⟩
theorem rd_blk {w : World} {N : Nat} {x : Wt} (h : w.heap[N]? = some (.cells #[.int .i64 x.t, .int .i64 x.c, .int .i64 x.v] 28 (0, 0))) : RdW w (some ⟨N, 0, none⟩) 1 [x] := by
  refine ⟨rfl, rfl, fun _ => ⟨N, 0, rfl, lt_of_blk h, fun j u hu => ?_⟩⟩
  rw [Nat.zero_add, cell_of_row w N j _ _ _ h]
  simpa [flW, wV] using hu
theorem heap_w1 (w : World) (o : Obj) : (w.alloc o).heap[w.heap.size]? = some o := heap_alloc_new _ _
theorem heap_w2 (w : World) (o o2 : Obj) : ((w.alloc o).alloc o2).heap[w.heap.size]? = some o := (Below.heap_alloc _ _ _ (by simp)).trans (heap_alloc_new _ _)
theorem heap_w3 (w : World) (o o2 : Obj) : ((w.alloc o).alloc o2).heap[w.heap.size + 1]? = some o2 := by
  have := heap_alloc_new (w.alloc o) o2
  rw [World.size_alloc] at this
  exact this
theorem kept {w w' : World} {N k : Nat} {o : Obj} (hg : w.grownBy w' (some N)) (hk : w.heap[k]? = some o) (hne : k ≠ N) : w'.heap[k]? = some o := (hg.block k (lt_of_blk hk) (fun e => hne (by cases e; rfl))).trans hk
theorem Wn.mono {w : World} {b b' n c : Nat} {A : Option Addr} {l : List Wt} (h : Wn w b A n c l) (hb : b' ≤ b) : Wn w b' A n c l :=
  ⟨h.1, h.2.1, h.2.2.1, fun h0 => by
    obtain ⟨g, off, cur, e, hg, r⟩ := h.2.2.2 h0
    exact ⟨g, off, cur, e, Nat.le_trans hb hg, r⟩⟩
end Go.Proofs.Ytdmdmaolbbjboaa
