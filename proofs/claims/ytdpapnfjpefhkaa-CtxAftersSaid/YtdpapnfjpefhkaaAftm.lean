/- Two contexts, one on the other, and what is to start behind them: what is started by a cancellation, and in what order. No condition but those that each names.
A region that draws its order: what holds of it as a whole, reckoned once. Conditions: each theorem's own premises. -/
import Derived.Test.YtdpapnfjpefhkaaDwlm
import Derived.Test.YtdpapnfjpefhkaaAwpm
import Derived.Test.YtdpapnfjpefhkaaTmrm
namespace Go.Proofs.Ytdpapnfjpefhkaa
open Go.RowKit Tr
set_option linter.unusedVariables false
set_option maxRecDepth 100000
def Y2 (c : Nat) : Cx := ⟨2, some c, false, [], 0, 0, 0, false, false, -1⟩
def tA (f : Nat → Nat) (g : Nat → Bool) (n : Nat) : TS := [(-1, false), (0, true), (1, true)] ++ (List.range n).map fun i => ((f i : Int), g i)
def kdA (n : Nat) : List Kd := [⟨false, 0⟩, ⟨false, 1⟩, ⟨false, 2⟩] ++ (List.range n).map fun i => ⟨true, i⟩
def afA (n : Nat) : List Af := (List.range n).map fun i => ⟨3 + i, 100 + (i : Int)⟩
def sA (c1 c2 : Nat) (f : Nat → Nat) (g : Nat → Bool) (n : Nat) : St := ⟨tA f g n, kdA n, [bg, X1 c1, Y2 c2], afA n, [], 0, []⟩
def sB (c1 c2 : Nat) (T : TS) (n : Nat) : St := ⟨T, kdA n, [bg, ended (X1 c1) 1 1, ended (Y2 c2) 1 1], afA n, [], 0, []⟩
section
variable {c1 c2 n i j v : Nat} {f : Nat → Nat} {g : Nat → Bool}
theorem sA_zero (c1 c2 : Nat) (f : Nat → Nat) (g : Nat → Bool) : mkC (A1 c1) (nx0 c2 (X1 c1).wh (X1 c1).has false) (X1 c1) = sA c1 c2 f g 0 := rfl
theorem tA_len (f : Nat → Nat) (g : Nat → Bool) (n : Nat) : (tA f g n).length = n + 3 := by simp [tA]
theorem afA_len (n : Nat) : (afA n).length = n := by simp [afA]
theorem tA_at (h : j < n) : (tA f g n)[3 + j]? = some ((f j : Int), g j) := by
  unfold tA
  rw [List.getElem?_append_right (by simp), show 3 + j - [((-1 : Int), false), (0, true), (1, true)].length = j from by simp, List.getElem?_map, List.getElem?_range h]; rfl
theorem kdA_at (h : j < n) : (kdA n)[3 + j]? = some ⟨true, j⟩ := by
  unfold kdA
  rw [List.getElem?_append_right (by simp), show 3 + j - [(⟨false, 0⟩ : Kd), ⟨false, 1⟩, ⟨false, 2⟩].length = j from by simp, List.getElem?_map, List.getElem?_range h]; rfl
theorem afA_at (h : j < n) : (afA n)[j]? = some ⟨3 + j, 100 + (j : Int)⟩ := by
  unfold afA
  rw [List.getElem?_map, List.getElem?_range h]; rfl
theorem sA_c (h : v ≤ 2) : ∃ x, (sA c1 c2 f g n).C[v]? = some x ∧ x.er = 0 ∧ x.nd = v := by
  match v, h with
  | 0, _ => exact ⟨_, rfl, rfl, rfl⟩
  | 1, _ => exact ⟨_, rfl, rfl, rfl⟩
  | 2, _ => exact ⟨_, rfl, rfl, rfl⟩
/-- One after more. -/
theorem sA_af {x : Cx} (he : x.er = 0) (hn : x.nd = f n) (hg : g n = true) : afS (sA c1 c2 f g n) x (100 + (n : Int)) = sA c1 c2 f g (n + 1) ∧ afM (sA c1 c2 f g n) x (100 + (n : Int)) = [] := by
  refine ⟨?_, by unfold afM; rw [if_pos he]⟩
  unfold afS sA
  dsimp only
  rw [he, hn, tA_len, afA_len]
  have e1 : tA f g n ++ [((f n : Int), decide ((0 : Int) = 0))] = tA f g (n + 1) := by
    unfold tA
    rw [List.range_succ, List.map_append, List.append_assoc, List.map_cons, List.map_nil, hg]; rfl
  have e2 : kdA n ++ [⟨true, n⟩] = kdA (n + 1) := by
    unfold kdA
    rw [List.range_succ, List.map_append, List.append_assoc]; rfl
  have e3 : afA n ++ [⟨n + 3, 100 + (n : Int)⟩] = afA (n + 1) := by
    unfold afA
    rw [List.range_succ, List.map_append, List.map_cons, List.map_nil, show n + 3 = 3 + n from by omega]
  rw [e1, e2, e3]
theorem tA_cut (h : i < n) : Tr.cut (tA f g n) (3 + i) = tA f (fun j => g j && !(j == i)) n := by
  apply List.ext_getElem?
  intro j
  rw [cut_at]
  rcases Nat.lt_or_ge j 3 with h3 | h3
  · rw [if_neg (by omega)]
    unfold tA
    rw [List.getElem?_append_left (by simpa using h3), List.getElem?_append_left (by simpa using h3)]
  · obtain ⟨k, rfl⟩ : ∃ k, j = 3 + k := ⟨j - 3, by omega⟩
    rcases Nat.lt_or_ge k n with hk | hk
    · rw [tA_at hk, tA_at hk]
      by_cases e : k = i
      · subst e; simp
      · rw [if_neg (by omega)]
        simp [e]
    · rw [if_neg (by omega), List.getElem?_eq_none (by rw [tA_len]; omega), List.getElem?_eq_none (by rw [tA_len]; omega)]
/-- One taken back. -/
theorem sA_un (h : i < n) : ({ sA c1 c2 f g n with T := Tr.cut (sA c1 c2 f g n).T (3 + i) } : St) = sA c1 c2 f (fun j => g j && !(j == i)) n := by
  show (⟨Tr.cut (tA f g n) (3 + i), _, _, _, _, _, _⟩ : St) = ⟨tA f (fun j => g j && !(j == i)) n, _, _, _, _, _, _⟩
  rw [tA_cut h]; rfl
theorem sA_lkd (h : i < n) : lkd (sA c1 c2 f g n) (3 + i) = g i := by
  unfold lkd
  rw [show (sA c1 c2 f g n).T = tA f g n from rfl, tA_at h]
/-- Those of one context that are linked. -/
def wA (f : Nat → Nat) (g : Nat → Bool) (v n : Nat) : List Nat := (List.range n).filter fun i => g i && f i == v
theorem wA_lt (h : j ∈ wA f g v n) : j < n := by
  unfold wA at h
  rw [List.mem_filter, List.mem_range] at h
  exact h.1
theorem wA_in (h : g n = true) (e : f n = v) : wA f g v (n + 1) = wA f g v n ++ [n] := by
  unfold wA
  rw [List.range_succ, List.filter_append, List.filter_cons, if_pos (by simp [h, e])]; rfl
theorem wA_out (h : g n = false ∨ f n ≠ v) : wA f g v (n + 1) = wA f g v n := by
  unfold wA
  rw [List.range_succ, List.filter_append, List.filter_cons, if_neg (by rcases h with h | h <;> simp [h])]; simp
theorem wA_len (f : Nat → Nat) (g : Nat → Bool) (v n : Nat) : (wA f g v n).length ≤ n := Nat.le_trans (List.length_filter_le _ _) (by simp)
theorem wA_same {g' : Nat → Bool} (h : ∀ i, i < n → g i = g' i) : wA f g v n = wA f g' v n := by
  unfold wA
  exact filter_same fun x hx => by rw [h x (List.mem_range.1 hx)]
theorem wA_rise (f : Nat → Nat) (g : Nat → Bool) (v n : Nat) : (wA f g v n).Pairwise (· < ·) := List.Pairwise.filter _ List.pairwise_lt_range
def up3 (l : List Nat) : List Nat := l.map fun i => 3 + i
theorem up3_rise {l : List Nat} (h : l.Pairwise (· < ·)) : (up3 l).Pairwise (· < ·) := by
  unfold up3
  rw [List.pairwise_map]
  exact h.imp fun h => by omega
theorem mem_up3 {l : List Nat} {x : Nat} : x ∈ up3 l ↔ ∃ i ∈ l, 3 + i = x := by unfold up3; rw [List.mem_map]
theorem mem_wA {x : Nat} : x ∈ wA f g v n ↔ x < n ∧ g x = true ∧ f x = v := by
  unfold wA
  rw [List.mem_filter, List.mem_range]; simp
theorem kids_two : kids (tA f g n) 2 = up3 (wA f g 2 n) := by
  refine rising_eq _ _ (kids_rise _ _) (up3_rise (wA_rise _ _ _ _)) fun x => ?_
  rw [mem_kids, mem_up3]
  constructor
  · rintro ⟨h1, h2⟩
    obtain ⟨k, rfl⟩ : ∃ k, x = 3 + k := ⟨x - 3, by omega⟩
    have hk := (List.getElem?_eq_some_iff.1 h1).1
    rw [tA_len] at hk
    rw [tA_at (by omega)] at h1
    simp at h1
    exact ⟨k, mem_wA.2 ⟨by omega, h1.2, by omega⟩, rfl⟩
  · rintro ⟨k, hk, rfl⟩
    obtain ⟨h1, h2, h3⟩ := mem_wA.1 hk
    exact ⟨by rw [tA_at h1, h2, h3], by omega⟩
theorem kids_one : kids (tA f g n) 1 = 2 :: up3 (wA f g 1 n) := by
  refine rising_eq _ _ (kids_rise _ _) (List.pairwise_cons.2 ⟨fun x hx => ?_, up3_rise (wA_rise _ _ _ _)⟩) fun x => ?_
  · obtain ⟨k, _, rfl⟩ := mem_up3.1 hx
    omega
  · rw [mem_kids, List.mem_cons, mem_up3]
    constructor
    · rintro ⟨h1, h2⟩
      rcases Nat.lt_or_ge x 3 with h3 | h3
      · exact .inl (by omega)
      · obtain ⟨k, rfl⟩ : ∃ k, x = 3 + k := ⟨x - 3, by omega⟩
        have hk := (List.getElem?_eq_some_iff.1 h1).1
        rw [tA_len] at hk
        rw [tA_at (by omega)] at h1
        simp at h1
        exact .inr ⟨k, mem_wA.2 ⟨by omega, h1.2, by omega⟩, rfl⟩
    · rintro (rfl | ⟨k, hk, rfl⟩)
      · exact ⟨rfl, by omega⟩
      · obtain ⟨h1, h2, h3⟩ := mem_wA.1 hk
        exact ⟨by rw [tA_at h1, h2, h3]; try rfl, by omega⟩
theorem walk_leaf (hf : ∀ j, j < n → f j ≤ 2) (i : Nat) : Tr.walk (tA f g n) (3 + i) = [3 + i] := by
  rw [walk_eq]
  have : kids (tA f g n) (3 + i) = [] := by
    rw [List.eq_nil_iff_forall_not_mem]
    intro x hx
    obtain ⟨h1, h2⟩ := mem_kids.1 hx
    obtain ⟨k, rfl⟩ : ∃ k, x = 3 + k := ⟨x - 3, by omega⟩
    have hk := (List.getElem?_eq_some_iff.1 h1).1
    rw [tA_len] at hk
    rw [tA_at (by omega)] at h1
    simp at h1
    have := hf k (by omega)
    omega
  rw [this]; rfl
theorem walk_leaves (hf : ∀ j, j < n → f j ≤ 2) : ∀ l : List Nat, (up3 l).flatMap (Tr.walk (tA f g n)) = up3 l
  | [] => rfl
  | a :: l => by
    show Tr.walk (tA f g n) (3 + a) ++ (up3 l).flatMap _ = _
    rw [walk_leaf hf, walk_leaves hf l]; rfl
theorem walk_tA (hf : ∀ j, j < n → f j ≤ 2) : Tr.walk (tA f g n) 1 = 1 :: 2 :: up3 (wA f g 2 n ++ wA f g 1 n) := by
  rw [walk_eq, kids_one, List.flatMap_cons, walk_eq _ 2, kids_two, walk_leaves hf, walk_leaves hf]
  unfold up3
  rw [List.map_append]; rfl
/-- Afters alone: each is told, in its order. -/
theorem fold_af {er cs : Int} : ∀ (l : List Nat) (s : St), (∀ i ∈ l, s.K[3 + i]? = some ⟨true, i⟩ ∧ s.A[i]? = some ⟨3 + i, 100 + (i : Int)⟩) → ∃ T', cfold er cs (up3 l) s = ({ s with T := T' }, [], l.map fun i => ⟨i, 100 + (i : Int)⟩) ∧ T'.length = s.T.length
  | [], s, _ => ⟨s.T, rfl, rfl⟩
  | a :: l, s, h => by
    obtain ⟨h1, h2⟩ := h a (by simp)
    obtain ⟨T', e1, e2⟩ := fold_af (er := er) (cs := cs) l { s with T := Tr.cut s.T (3 + a) } fun i hi => h i (by simp [hi])
    refine ⟨T', ?_, e2.trans (Tr.cut_len _ _)⟩
    show ((cfold er cs (up3 l) (cst er cs s (3 + a))).1, clp s (3 + a) ++ (cfold er cs (up3 l) (cst er cs s (3 + a))).2.1, cmp s (3 + a) ++ (cfold er cs (up3 l) (cst er cs s (3 + a))).2.2) = _
    rw [cst_af h1, clp_af h1, cmp_af h1 h2, e1]; rfl
/-- What a cancellation of the outer one starts. -/
theorem sA_cn (hf : ∀ j, j < n → f j ≤ 2) : ∃ T', cnS (sA c1 c2 f g n) (X1 c1) 1 1 = (sB c1 c2 T' n, [(1, []), (2, [])], (wA f g 2 n ++ wA f g 1 n).map fun i => ⟨i, 100 + (i : Int)⟩) ∧ T'.length = n + 3 := by
  have h1 : (sA c1 c2 f g n).K[1]? = some ⟨false, 1⟩ := rfl
  have c1' : cst 1 1 (sA c1 c2 f g n) 1 = { sA c1 c2 f g n with T := Tr.cut (tA f g n) 1, C := [bg, ended (X1 c1) 1 1, Y2 c2] } := (cst_cx h1 rfl).trans rfl
  have c2' : cst 1 1 { sA c1 c2 f g n with T := Tr.cut (tA f g n) 1, C := [bg, ended (X1 c1) 1 1, Y2 c2] } 2 = { sA c1 c2 f g n with T := Tr.cut (Tr.cut (tA f g n) 1) 2, C := [bg, ended (X1 c1) 1 1, ended (Y2 c2) 1 1] } := (cst_cx (i := 2) rfl rfl).trans rfl
  obtain ⟨T', e1, e2⟩ := fold_af (er := 1) (cs := 1) (wA f g 2 n ++ wA f g 1 n) { sA c1 c2 f g n with T := Tr.cut (Tr.cut (tA f g n) 1) 2, C := [bg, ended (X1 c1) 1 1, ended (Y2 c2) 1 1] } fun i hi => by
    have hl : i < n := by
      rcases List.mem_append.1 hi with h | h
      · exact wA_lt h
      · exact wA_lt h
    exact ⟨kdA_at hl, afA_at hl⟩
  refine ⟨T', ?_, e2.trans ((Tr.cut_len (Tr.cut (tA f g n) 1) 2).trans ((Tr.cut_len (tA f g n) 1).trans (tA_len f g n)))⟩
  unfold cnS
  rw [if_neg (by show ¬ ((0 : Int) ≠ 0); decide), show (X1 c1).nd = 1 from rfl, show (sA c1 c2 f g n).T = tA f g n from rfl, walk_tA hf]
  unfold cfold
  rw [c1']
  unfold cfold
  rw [c2', e1]
  rfl
/-- The one that waits is over: an after is started at once. -/
theorem sB_af {T' : TS} {q : Int} : afM (sB c1 c2 T' n) (ended (Y2 c2) 1 1) q = [⟨n, q⟩] ∧ (afS (sB c1 c2 T' n) (ended (Y2 c2) 1 1) q).A[n]? = some ⟨T'.length, q⟩ ∧ lkd (afS (sB c1 c2 T' n) (ended (Y2 c2) 1 1) q) T'.length = false := by
  refine ⟨?_, ?_, ?_⟩
  · show (if (1 : Int) = 0 then ([] : List Mp) else [⟨(afA n).length, q⟩]) = _
    rw [if_neg (by decide), afA_len]
  · show (afA n ++ [_])[n]? = _
    rw [List.getElem?_append_right (by rw [afA_len]; exact Nat.le_refl _), afA_len, Nat.sub_self]; rfl
  · unfold lkd
    rw [show (afS (sB c1 c2 T' n) (ended (Y2 c2) 1 1) q).T = T' ++ [(((ended (Y2 c2) 1 1).nd : Int), decide ((ended (Y2 c2) 1 1).er = 0))] from rfl, List.getElem?_append_right (Nat.le_refl _), Nat.sub_self]
    rfl
end
end Go.Proofs.Ytdpapnfjpefhkaa
namespace Go.Proofs.Ytdpapnfjpefhkaa
open Go.RowKit
set_option linter.unusedVariables false
set_option maxRecDepth 100000
section
variable {P : Program} {ops : Array Oper} {Q : Exit → Act → World → Prop} {md : Region.Mode} {S : World → Prop} {L : Nat}
/-- Number i may come up. -/
def oneB (md : Region.Mode) (ops : Array Oper) (listed : Array Bool) (i : Nat) : Bool :=
  !listed.getD i true && ((ops[i]?).map (·.after.all fun e => !Region.binds md e || listed.getD e.on false)).getD false
theorem one_ready {i : Nat} {oi : Oper} {listed : Array Bool} (hi : ops[i]? = some oi) (h : oneB md ops listed i = true) : i ∈ Region.ready md ops listed := by
  unfold Region.ready
  rw [List.mem_filter, List.mem_range]
  exact ⟨(Array.getElem?_eq_some_iff.1 hi).1, h⟩
/-- Of any two that do not wait for each other none touches the other's result. -/
def tidyB (md : Region.Mode) (ops : Array Oper) : Bool :=
  Region.noSelect ops && (List.range ops.size).all fun i => (List.range ops.size).all fun j => i == j || match ops[i]?, ops[j]? with
    | some oi, some oj => oj.after.any (fun e => Region.binds md e && e.on == i) || (oi.after.any (fun e => Region.binds md e && e.on == j) || oi.apart ops oj)
    | _, _ => true
theorem tidy_free {i : Nat} {oi : Oper} {listed : Array Bool} (hT : tidyB md ops = true) (hi : ops[i]? = some oi) (hr : i ∈ Region.ready md ops listed) (j : Nat) (oj : Oper)
    (hj : ops[j]? = some oj) (hne : j ≠ i) (hun : listed.getD j true = false) (hno : ∀ e ∈ oj.after, Region.binds md e = true → e.on ≠ i) : oi.apart ops oj = true := by
  unfold tidyB at hT
  rw [Bool.and_eq_true] at hT
  have h1 := hT.2
  rw [List.all_eq_true] at h1
  have h2 := h1 i (List.mem_range.2 (Array.getElem?_eq_some_iff.1 hi).1)
  rw [List.all_eq_true] at h2
  have h3 := h2 j (List.mem_range.2 (Array.getElem?_eq_some_iff.1 hj).1)
  simp only [hi, hj, Bool.or_eq_true, beq_iff_eq] at h3
  rcases h3 with e | h3 | h3 | h3
  · exact absurd e.symm hne
  · obtain ⟨e, he, hb⟩ := Array.any_eq_true'.1 h3
    simp only [Bool.and_eq_true, beq_iff_eq] at hb
    exact absurd hb.2 (hno e he hb.1)
  · obtain ⟨e, he, hb⟩ := Array.any_eq_true'.1 h3
    simp only [Bool.and_eq_true, beq_iff_eq] at hb
    obtain ⟨_, o, ho, hall⟩ := mem_ready.1 hr
    rw [hi] at ho
    obtain rfl : oi = o := by injection ho
    have h4 := hall e he hb.1
    rw [hb.2] at h4
    rcases Nat.lt_or_ge j listed.size with h' | h'
    · simp [h'] at h4 hun; rw [hun] at h4; cases h4
    · simp [Array.getElem?_eq_none h'] at h4
  · exact h3
/-- Number i is taken first: by what holds of the region as a whole. -/
theorem but_takeQ {i : Nat} {oi : Oper} {v : Value} {f : Nat} {listed : Array Bool} {a : Act} {w : World} (hi : ops[i]? = some oi) (hT : tidyB md ops = true) (hw : waitB md ops L i = true)
    (hr : oneB md ops listed i = true) (hQ : ∀ c a w, Q (.panic c) (a.put oi.dst v) w → Q (.panic c) a w) (hy : YieldsIf P ops S oi v a) (hS : S w)
    (h : AnyBut P md ops Q S L f (listed.setIfInBounds i true) (a.put oi.dst v) w) : AnyBut P md ops Q S L (f + 1) listed a w :=
  took hi (by unfold tidyB at hT; rw [Bool.and_eq_true] at hT; exact hT.1) hw hQ f listed a w (tidy_free hT hi (one_ready hi hr)) (one_ready hi hr) hy hS h
theorem but_startQ {id : Nat} {a : Act} {w : World} (L : Nat) (S : World → Prop) (hm : P.follows .mixedOrders = true) (hT : tidyB .any ops = true) (h : tidyB .any ops = true → AnyBut P .any ops Q S L ops.size (Array.replicate ops.size false) a w.drew) : (Code.region id ops true).wp P Q a w :=
  wp_region_any hm (AnyBut.any _ _ _ _ (h hT))
end
end Go.Proofs.Ytdpapnfjpefhkaa
