/- A region that draws its order and ends in one store that waits for all else: loads may be taken first though the store hits what they read. Conditions: each theorem's own premises. -/
import Derived.Test.YtgojnhbmelnpnaaDoorBlk
import Derived.Deep.RegionHeld3
namespace Go.Proofs.YtgojnhbmelnpnaaDoor.Pg
open Go.RowKit
set_option linter.unusedVariables false
set_option maxRecDepth 100000
theorem l1 {α : Type} {xs : List α} {i : Nat} (h : i < xs.toArray.size) : xs.toArray[i] = xs[i]'(by simpa using h) := rfl
theorem l2 {α : Type} (a : α) (r : List α) (i : Nat) (h : i + 1 < (a :: r).length) : (a :: r)[i + 1] = r[i]'(Nat.lt_of_succ_lt_succ h) := rfl
theorem l3 {α : Type} (a : α) (r : List α) (h : 0 < (a :: r).length) : (a :: r)[0] = a := rfl
theorem l4 {α : Type} (l : List α) (i : Nat) (a : α) : l.toArray.setIfInBounds i a = (l.set i a).toArray := by simp
theorem l5 {α : Type} (a b : α) (r : List α) : (a :: r).set 0 b = b :: r := rfl
theorem l6 {α : Type} (a b : α) (r : List α) (n : Nat) : (a :: r).set (n + 1) b = a :: r.set n b := rfl
theorem kpo {S : World → Prop} {n : Nat} {w0 w' : World} (KP : Hid (∀ w1, Below n w0 w1 → S w1)) (h : Below n w0 w' := by repeat' (first | exact Below.refl _ _ | (with_reducible assumption) | refine Below.drew ?_ | refine Below.alloc ?_ (by first | omega | (simp <;> omega)) _)) : S w' := KP.out _ h
section
variable {P : Program} {ops : Array Oper} {Q : Exit → Act → World → Prop} {md : Region.Mode} {S : World → Prop} {L : Nat}
/-- Whatever comes up; behind each but number L the condition S holds. -/
def AnyBut (P : Program) (md : Region.Mode) (ops : Array Oper) (Q : Exit → Act → World → Prop) (S : World → Prop) (L : Nat) : Nat → Array Bool → Act → World → Prop
  | 0, listed, a, w => Region.ready md ops listed = [] ∧ Q .normal a w
  | f + 1, listed, a, w => (Region.ready md ops listed = [] → Q .normal a w) ∧ ∀ i ∈ Region.ready md ops listed, wpOp P ops Q i (fun a' w' => (i ≠ L → S w') ∧ AnyBut P md ops Q S L f (listed.setIfInBounds i true) a' w') a w
theorem AnyBut.any : ∀ (f : Nat) (listed : Array Bool) (a : Act) (w : World), AnyBut P md ops Q S L f listed a w → wpAny P md ops Q f listed a w
  | 0, _, _, _, h => h
  | f + 1, listed, a, w, h => ⟨h.1, fun i hi => wpOp_mono (fun a' w' q => AnyBut.any f _ a' w' q.2) (h.2 i hi)⟩
/-- Number L waits for number i, or there is no number L. -/
def waitB (md : Region.Mode) (ops : Array Oper) (L i : Nat) : Bool := match ops[L]? with
  | some o => o.after.any fun e => Region.binds md e && e.on == i
  | none => true
theorem wait_not {i : Nat} {listed : Array Bool} (h : waitB md ops L i = true) (hu : listed.getD i true = false) : L ∉ Region.ready md ops listed := by
  intro hr
  obtain ⟨_, o, ho, hall⟩ := mem_ready.1 hr
  unfold waitB at h
  rw [ho] at h
  have h2 : (o.after.any fun e => Region.binds md e && e.on == i) = true := h
  obtain ⟨e, he, hb⟩ := Array.any_eq_true'.1 h2
  simp only [Bool.and_eq_true, beq_iff_eq] at hb
  have h1 := hall e he hb.1
  rw [hb.2] at h1
  rcases Nat.lt_or_ge i listed.size with h' | h'
  · simp [h'] at h1 hu; rw [hu] at h1; cases h1
  · simp [Array.getElem?_eq_none h'] at h1
theorem took {i : Nat} {oi : Oper} {v : Value} (hi : ops[i]? = some oi) (hs : Region.noSelect ops = true) (hw : waitB md ops L i = true) (hQ : ∀ c a w, Q (.panic c) (a.put oi.dst v) w → Q (.panic c) a w) (f : Nat) :
    ∀ (listed : Array Bool) (a : Act) (w : World), (∀ j oj, ops[j]? = some oj → j ≠ i → listed.getD j true = false → (∀ e ∈ oj.after, Region.binds md e = true → e.on ≠ i) → oi.apart ops oj = true) →
      i ∈ Region.ready md ops listed → YieldsIf P ops S oi v a → S w → AnyBut P md ops Q S L f (listed.setIfInBounds i true) (a.put oi.dst v) w → AnyBut P md ops Q S L (f + 1) listed a w := by
  induction f with
  | zero =>
    intro listed a w hfr hr hy hS H
    refine ⟨fun e => absurd hr (by rw [e]; simp), fun j hj => ?_⟩
    rcases Nat.decEq j i with c | c
    · have h2 := ready_mono hj c
      rw [H.1] at h2; cases h2
    · subst c; exact hy.wpOp hi hS ⟨fun _ => hS, H⟩
  | succ f ih =>
    intro listed a w hfr hr hy hS H
    refine ⟨fun e => absurd hr (by rw [e]; simp), fun j hj => ?_⟩
    rcases Nat.decEq j i with c | c
    · have hun := (mem_ready.1 hr).1
      have hjL : j ≠ L := fun e => wait_not hw hun (by rw [← e]; exact hj)
      obtain ⟨hju, oj, ho, hall⟩ := mem_ready.1 hj
      have hno : ∀ e ∈ oj.after, Region.binds md e = true → e.on ≠ i := fun e he hb q => by
        have h1 := hall e he hb
        rw [q] at h1
        rcases Nat.lt_or_ge i listed.size with h' | h'
        · simp [h'] at h1 hun; rw [hun] at h1; cases h1
        · simp [Array.getElem?_eq_none h'] at h1
      have h3 := wpOp_putIf (S := S) ho (hfr j oj ho c hju hno) (fun cs b => Region.noSelect_spec hs i oi cs b hi) (fun cs b => Region.noSelect_spec hs j oj cs b ho) hQ hy (H.2 j (ready_mono hj c))
      refine wpOp_mono (fun a' w' q => ⟨fun _ => q.2.1 hjL, ih (listed.setIfInBounds j true) a' w' (fun k ok hk hki hku hkn => hfr k ok hk hki ?_ hkn) (ready_mono hr (Ne.symm c)) q.1 (q.2.1 hjL) ?_⟩) h3
      · by_cases e : j = k
        · rw [← e]; exact hju
        · rwa [getD_set_ne true e] at hku
      · have h4 := q.2.2
        rwa [Array.setIfInBounds_comm _ _ (Ne.symm c)] at h4
    · subst c; exact hy.wpOp hi hS ⟨fun _ => hS, H⟩
/-- Number i is taken first. -/
theorem but_take {i : Nat} {oi : Oper} {v : Value} {f : Nat} {listed : Array Bool} {a : Act} {w : World} (hi : ops[i]? = some oi) (hs : Region.noSelect ops = true) (hw : waitB md ops L i = true)
    (hf : Region.free md ops listed i = true) (hr : (Region.ready md ops listed).contains i = true) (hQ : ∀ c a w, Q (.panic c) (a.put oi.dst v) w → Q (.panic c) a w) (hy : YieldsIf P ops S oi v a) (hS : S w)
    (h : AnyBut P md ops Q S L f (listed.setIfInBounds i true) (a.put oi.dst v) w) : AnyBut P md ops Q S L (f + 1) listed a w :=
  took hi hs hw hQ f listed a w (Region.free_spec hi hf) (by simpa using hr) hy hS h
theorem tkT (i : Nat) {oi : Oper} {v : Value} {f : Nat} {listed : Array Bool} {a : Act} {w : World} (hi : ops[i]? = some oi) (hS : S w) (h : AnyBut P md ops Q S L f (listed.setIfInBounds i true) (a.put oi.dst v) w) (hs : Region.noSelect ops = true := by kernel_rfl) (hw : waitB md ops L i = true := by kernel_rfl) (hf : Region.free md ops listed i = true := by kernel_rfl) (hr : (Region.ready md ops listed).contains i = true := by kernel_rfl) (hg : Region.wanted oi (yielded ops a.tmps) = true := by first | kernel_rfl | rfl) (hQ : ∀ c a w, Q (.panic c) (a.put oi.dst v) w → Q (.panic c) a w := by exact fun _ _ _ h => h) (hy : ∀ w, S w → (execOp a.eval oi).run P w = .ok (.value v) w := by (intro w hSw; (try dsimp only at hSw); (try go_split_ands); go_simp; (try with_reducible rfl))) : AnyBut P md ops Q S L (f + 1) listed a w :=
  but_take hi hs hw hf hr hQ (.inl ⟨hg, hy⟩) hS h
/-- One alone may come up. -/
theorem but_one {i : Nat} {oi : Oper} {f : Nat} {listed : Array Bool} {a : Act} {w : World} (hr : Region.ready md ops listed = [i]) (hi : ops[i]? = some oi)
    (h : ∀ K : Act → World → Prop, (∀ a' w', (i ≠ L → S w') → AnyBut P md ops Q S L f (listed.setIfInBounds i true) a' w' → K a' w') → if Region.wanted oi (yielded ops a.tmps) = true then oi.wp P a w K Q else K (a.put oi.dst undef) w) : AnyBut P md ops Q S L (f + 1) listed a w := by
  refine ⟨fun e => absurd (hr.symm.trans e) (by simp), fun j hj => ?_⟩
  rw [hr] at hj
  obtain rfl := List.mem_singleton.1 hj
  have h1 := h (fun a' w' => (j ≠ L → S w') ∧ AnyBut P md ops Q S L f (listed.setIfInBounds j true) a' w') fun a' w' q r => ⟨q, r⟩
  unfold wpOp
  rw [hi]
  dsimp only
  split
  · rename_i c; rw [if_pos c] at h1; exact .inl h1
  · rename_i c; rw [if_neg c] at h1; exact h1
/-- One of two comes up. -/
theorem but_two {i j : Nat} {oi oj : Oper} {f : Nat} {listed : Array Bool} {a : Act} {w : World} (hr : Region.ready md ops listed = [i, j]) (hi : ops[i]? = some oi) (hj : ops[j]? = some oj)
    (h : ∀ K : Act → World → Prop, (∀ a' w', (i ≠ L → S w') → AnyBut P md ops Q S L f (listed.setIfInBounds i true) a' w' → K a' w') → if Region.wanted oi (yielded ops a.tmps) = true then oi.wp P a w K Q else K (a.put oi.dst undef) w)
    (g : ∀ K : Act → World → Prop, (∀ a' w', (j ≠ L → S w') → AnyBut P md ops Q S L f (listed.setIfInBounds j true) a' w' → K a' w') → if Region.wanted oj (yielded ops a.tmps) = true then oj.wp P a w K Q else K (a.put oj.dst undef) w) : AnyBut P md ops Q S L (f + 1) listed a w := by
  refine ⟨fun e => absurd (hr.symm.trans e) (by simp), fun k hk => ?_⟩
  rw [hr] at hk
  unfold wpOp
  rcases List.mem_cons.1 hk with rfl | hk
  · have h1 := h (fun a' w' => (k ≠ L → S w') ∧ AnyBut P md ops Q S L f (listed.setIfInBounds k true) a' w') fun a' w' q r => ⟨q, r⟩
    rw [hi]
    dsimp only
    split
    · rename_i c; rw [if_pos c] at h1; exact .inl h1
    · rename_i c; rw [if_neg c] at h1; exact h1
  · obtain rfl := List.mem_singleton.1 hk
    have h1 := g (fun a' w' => (k ≠ L → S w') ∧ AnyBut P md ops Q S L f (listed.setIfInBounds k true) a' w') fun a' w' q r => ⟨q, r⟩
    rw [hj]
    dsimp only
    split
    · rename_i c; rw [if_pos c] at h1; exact .inl h1
    · rename_i c; rw [if_neg c] at h1; exact h1
theorem but_done {listed : Array Bool} {a : Act} {w : World} (hr : Region.ready md ops listed = []) (h : Q .normal a w) : AnyBut P md ops Q S L 0 listed a w := ⟨hr, h⟩
theorem but_start {id : Nat} {a : Act} {w : World} (L : Nat) (S : World → Prop) (hm : P.follows .mixedOrders = true) (h : AnyBut P .any ops Q S L ops.size (Array.replicate ops.size false) a w.drew) : (Code.region id ops true).wp P Q a w :=
  wp_region_any hm (AnyBut.any _ _ _ _ h)
end
end Go.Proofs.YtgojnhbmelnpnaaDoor.Pg
