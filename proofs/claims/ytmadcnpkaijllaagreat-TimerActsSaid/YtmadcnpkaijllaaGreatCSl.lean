/- x[1:] as an operation. Conditions: each theorem's own premises. -/
import Derived.Test.YtmadcnpkaijllaaGreatCPcm
namespace Go.Proofs.YtmadcnpkaijllaaGreat.Ch
open Go.RowKit
set_option linter.unusedVariables false
set_option maxRecDepth 100000
theorem add_plain (b off i : Nat) : (⟨b, off, none⟩ : Addr).add i = ⟨b, off + i, none⟩ := by
  unfold Addr.add
  by_cases h : i = 0
  · subst h; simp
  · simp [h]
theorem run_tail {t e s n c : Nat} {a : Addr} {w : World} {i : TypeInfo} (ht : Tryz.prog.underlying t = some (.slice e)) (hi : Tryz.prog.info? e = some i) (hs : i.size = s) :
    (Instr.slice t (.slice (some a) (n + 1) c) (some (.int .i64 1)) none none).run Tryz.prog w = .ok (.slice (some (if c = 1 then a else a.add s)) n (c - 1)) w := by
  have h1 : (1 : Int) ≤ (n : Int) + 1 := by omega
  by_cases h : c = 1 <;> simp [Instr.slice, Instr.sliceBounds, Instr.sliceBound, run_underlying ht, sizeOf, typeInfo, hi, hs, asIntOf, h1, h]
/-- What is behind the first element, in a slice of its own. -/
theorem wp_tail {ops : Array Oper} {rest : List Oper} {o : Oper} {act : Act} {Q : Exit → Act → World → Prop} {w : World} {ok : Nat → Prop} {t e s n c : Nat} {a : Option Addr} {f xs : List Value} {i : TypeInfo} (hgd : o.guard = none) (x : Operand)
    (hop : o.op = .slice t x (some (.const (.int .i64 1))) none none) (ht : Tryz.prog.underlying t = some (.slice e)) (hi : Tryz.prog.info? e = some i) (hs : i.size = s) (hv : act.eval x = .slice a (n + 1) c) (hr : Ro w ok a (n + 1) c s (f ++ xs)) (hf : f.length = s)
    (hK : ∀ a' c', Ro w ok a' n c' s xs → wpList Tryz.prog ops Q rest (act.put o.dst (.slice a' n c')) w) : wpList Tryz.prog ops Q (o :: rest) act w := by
  refine wpList_plain hgd fun K hK' => ?_
  obtain ⟨bk, off, rfl, hl, hc, hcap⟩ := hr.cut hf
  have h9 : Ro w ok (some (if c = 1 then (⟨bk, off, none⟩ : Addr) else (⟨bk, off, none⟩ : Addr).add s)) n (c - 1) s xs := by
    rcases hcap with ⟨rfl, rfl⟩ | ⟨cp, rfl, h8⟩
    · have hx : xs = [] := by
        have := hr.2.2.1
        rw [List.length_append, hf] at this
        exact List.eq_nil_of_length_eq_zero (by omega)
      subst hx
      exact Ro.nil _ _ _ _ _ (by omega)
    · rw [if_neg (by omega), add_plain]
      exact h8
  have hrun := run_tail (n := n) (c := c) (a := (⟨bk, off, none⟩ : Addr)) (w := w) ht hi hs
  unfold Oper.wp execOp
  have he : act.eval (.const (.int .i64 1)) = .int .i64 1 := rfl
  simp only [hop, hv, he, Option.map_some, Option.map_none, Instr.sliceAt, run_underlying ht, hrun, Sem.run_bind, Result.andThen_ok]
  exact hK' _ _ (hK _ _ h9)
end Go.Proofs.YtmadcnpkaijllaaGreat.Ch
