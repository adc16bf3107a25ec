/- A region that draws its order: what holds of it as a whole, reckoned once. Conditions: each theorem's own premises. -/
import Derived.Test.YtgojnhbmelnpnaaDoorLst
import Derived.Test.YtgojnhbmelnpnaaDoorBlk
namespace Go.Proofs.YtgojnhbmelnpnaaDoor.Pg
open Go.RowKit
set_option linter.unusedVariables false
set_option maxRecDepth 100000
section
variable {P : Program} {ops : Array Oper} {Q : Exit → Act → World → Prop} {md : Region.Mode} {S : World → Prop} {L : Nat}
/-- Number i may come up. -/
def oneB (md : Region.Mode) (ops : Array Oper) (listed : Array Bool) (i : Nat) : Bool :=
  !listed.getD i true && ((ops[i]?).map (·.after.all fun e => !Region.binds md e || listed.getD e.on false)).getD false
theorem one_ready {i : Nat} {oi : Oper} {listed : Array Bool} (hi : ops[i]? = some oi) (h : oneB md ops listed i = true) : i ∈ Region.ready md ops listed := by
  unfold Region.ready
  rw [List.mem_filter, List.mem_range]
  exact ⟨(Array.getElem?_eq_some_iff.1 hi).1, h⟩
/-- Of any two that do not wait for each other none touches the other's result. -/
def tidyB (md : Region.Mode) (ops : Array Oper) : Bool :=
  Region.noSelect ops && (List.range ops.size).all fun i => (List.range ops.size).all fun j => i == j || match ops[i]?, ops[j]? with
    | some oi, some oj => oj.after.any (fun e => Region.binds md e && e.on == i) || (oi.after.any (fun e => Region.binds md e && e.on == j) || oi.apart ops oj)
    | _, _ => true
theorem tidy_free {i : Nat} {oi : Oper} {listed : Array Bool} (hT : tidyB md ops = true) (hi : ops[i]? = some oi) (hr : i ∈ Region.ready md ops listed) (j : Nat) (oj : Oper)
    (hj : ops[j]? = some oj) (hne : j ≠ i) (hun : listed.getD j true = false) (hno : ∀ e ∈ oj.after, Region.binds md e = true → e.on ≠ i) : oi.apart ops oj = true := by
  unfold tidyB at hT
  rw [Bool.and_eq_true] at hT
  have h1 := hT.2
  rw [List.all_eq_true] at h1
  have h2 := h1 i (List.mem_range.2 (Array.getElem?_eq_some_iff.1 hi).1)
  rw [List.all_eq_true] at h2
  have h3 := h2 j (List.mem_range.2 (Array.getElem?_eq_some_iff.1 hj).1)
  simp only [hi, hj, Bool.or_eq_true, beq_iff_eq] at h3
  rcases h3 with e | h3 | h3 | h3
  · exact absurd e.symm hne
  · obtain ⟨e, he, hb⟩ := Array.any_eq_true'.1 h3
    simp only [Bool.and_eq_true, beq_iff_eq] at hb
    exact absurd hb.2 (hno e he hb.1)
  · obtain ⟨e, he, hb⟩ := Array.any_eq_true'.1 h3
    simp only [Bool.and_eq_true, beq_iff_eq] at hb
    obtain ⟨_, o, ho, hall⟩ := mem_ready.1 hr
    rw [hi] at ho
    obtain rfl : oi = o := by injection ho
    have h4 := hall e he hb.1
    rw [hb.2] at h4
    rcases Nat.lt_or_ge j listed.size with h' | h'
    · simp [h'] at h4 hun; rw [hun] at h4; cases h4
    · simp [Array.getElem?_eq_none h'] at h4
  · exact h3
/-- Number i is taken first: by what holds of the region as a whole. -/
theorem but_takeQ {i : Nat} {oi : Oper} {v : Value} {f : Nat} {listed : Array Bool} {a : Act} {w : World} (hi : ops[i]? = some oi) (hT : tidyB md ops = true) (hw : waitB md ops L i = true)
    (hr : oneB md ops listed i = true) (hQ : ∀ c a w, Q (.panic c) (a.put oi.dst v) w → Q (.panic c) a w) (hy : YieldsIf P ops S oi v a) (hS : S w)
    (h : AnyBut P md ops Q S L f (listed.setIfInBounds i true) (a.put oi.dst v) w) : AnyBut P md ops Q S L (f + 1) listed a w :=
  took hi (by unfold tidyB at hT; rw [Bool.and_eq_true] at hT; exact hT.1) hw hQ f listed a w (tidy_free hT hi (one_ready hi hr)) (one_ready hi hr) hy hS h
theorem tkQ (i : Nat) {oi : Oper} {v : Value} {f : Nat} {listed : Array Bool} {a : Act} {w : World} (hi : ops[i]? = some oi) (hT : tidyB md ops = true) (hS : S w) (h : AnyBut P md ops Q S L f (listed.setIfInBounds i true) (a.put oi.dst v) w) (hw : waitB md ops L i = true := by kernel_rfl) (hr : oneB md ops listed i = true := by kernel_rfl) (hg : Region.wanted oi (yielded ops a.tmps) = true := by first | kernel_rfl | rfl) (hQ : ∀ c a w, Q (.panic c) (a.put oi.dst v) w → Q (.panic c) a w := by exact fun _ _ _ h => h) (hy : ∀ w, S w → (execOp a.eval oi).run P w = .ok (.value v) w := by (intro w hSw; (try dsimp only at hSw); (try go_split_ands); go_simp; (try with_reducible rfl))) : AnyBut P md ops Q S L (f + 1) listed a w :=
  but_takeQ hi hT hw hr hQ (.inl ⟨hg, hy⟩) hS h
theorem unQ (i : Nat) {oi : Oper} {f : Nat} {listed : Array Bool} {a : Act} {w : World} (hi : ops[i]? = some oi) (hT : tidyB md ops = true) (hS : S w) (h : AnyBut P md ops Q S L f (listed.setIfInBounds i true) (a.put oi.dst undef) w) (hw : waitB md ops L i = true := by kernel_rfl) (hr : oneB md ops listed i = true := by kernel_rfl) (hg : Region.wanted oi (yielded ops a.tmps) = false := by first | kernel_rfl | rfl) (hQ : ∀ c a w, Q (.panic c) (a.put oi.dst undef) w → Q (.panic c) a w := by exact fun _ _ _ h => h) : AnyBut P md ops Q S L (f + 1) listed a w :=
  but_takeQ hi hT hw hr hQ (.inr ⟨hg, rfl⟩) hS h
theorem wp_run {op : Oper} {a : Act} {w w' : World} {K : Act → World → Prop} {v : Value} (h : (execOp a.eval op).run P w = .ok (.value v) w') (hK : K (a.put op.dst v) w') : op.wp P a w K Q := by
  unfold Oper.wp; rw [h]; exact hK
theorem wpl_run {op : Oper} {rest : List Oper} {a : Act} {w w' : World} {v : Value} (hgd : op.guard = none) (h : (execOp a.eval op).run P w = .ok (.value v) w') (hK : wpList P ops Q rest (a.put op.dst v) w') : wpList P ops Q (op :: rest) a w :=
  wpList_plain hgd fun K hK' => wp_run h (hK' _ _ hK)
theorem ex_bs {op : Oper} {a : Act} {w w' : World} {v r : Value} {x : Operand} {ty n : Nat} (hop : op.op = .buildSlice ty n #[(0, x)]) (hx : a.eval x = v) (h : (Instr.buildSlice ty n #[(0, v)]).run P w = .ok r w') : (execOp a.eval op).run P w = .ok (.value r) w' := by
  unfold execOp; simp [hop, hx, h, Result.andThen]
theorem ex_b {op : Oper} {a : Act} {w w' : World} {r : Value} {ps : Array (Nat × Operand)} {vs : Array (Nat × Value)} {ty : Nat} (hop : op.op = .build ty ps) (hx : (ps.map fun (i, x) => (i, a.eval x)) = vs) (h : (Instr.build ty vs).run P w = .ok r w') : (execOp a.eval op).run P w = .ok (.value r) w' := by
  unfold execOp; simp [hop, hx, h, Result.andThen]
/-- .. a whole row that is read. -/
theorem tkL (i : Nat) {oi : Oper} {f : Nat} {listed : Array Bool} {a : Act} {w : World} {ty b o : Nat} {d : TypeDesc} (x : Operand) (u : Array Value) (hi : ops[i]? = some oi) (hT : tidyB md ops = true) (hS : S w) (ho : oi.op = .load ty x) (hx : a.eval x = .pointer (some ⟨b, o, none⟩))
    (hc : ∀ w, S w → w.rangeAt b o u.toList) (hu : P.underlying ty = some d) (hd : d.isRow = true) (hz : (P.info? ty).map (·.size) = some u.size) (h : AnyBut P md ops Q S L f (listed.setIfInBounds i true) (a.put oi.dst (.agg u)) w) (hw : waitB md ops L i = true := by kernel_rfl) (hr : oneB md ops listed i = true := by kernel_rfl) (hg : Region.wanted oi (yielded ops a.tmps) = true := by first | kernel_rfl | rfl) (hQ : ∀ c a w, Q (.panic c) (a.put oi.dst (.agg u)) w → Q (.panic c) a w := by exact fun _ _ _ h => h) : AnyBut P md ops Q S L (f + 1) listed a w :=
  but_takeQ hi hT hw hr hQ (.inl ⟨hg, fun w hSw => by
    have h := run_ldM (P := P) (hc w hSw) hu hd hz
    unfold execOp
    simp only [ho, hx, h, Sem.run_bind, Sem.run_pure, Result.andThen_ok]⟩) hS h
theorem but_startQ {id : Nat} {a : Act} {w : World} (L : Nat) (S : World → Prop) (hm : P.follows .mixedOrders = true) (hT : tidyB .any ops = true) (h : tidyB .any ops = true → AnyBut P .any ops Q S L ops.size (Array.replicate ops.size false) a w.drew) : (Code.region id ops true).wp P Q a w :=
  wp_region_any hm (AnyBut.any _ _ _ _ (h hT))
end
end Go.Proofs.YtgojnhbmelnpnaaDoor.Pg
