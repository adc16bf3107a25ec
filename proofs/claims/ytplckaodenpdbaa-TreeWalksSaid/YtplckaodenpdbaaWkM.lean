/- Where each one stands in a walk, told by a row of places; what is named by who hangs there: plain mathematics, and the rows in memory. No condition. -/
import Derived.Test.YtplckaodenpdbaaDtW
import Derived.Test.YtplckaodenpdbaaObl
namespace Go.Proofs.Ytplckaodenpdbaa
open Go.RowKit
set_option linter.unusedVariables false
set_option maxRecDepth 100000

/-- Who is named, if one hangs there. -/
def uq (S : TS) : List Int := S.map fun x => if x.2 = true then x.1 else -1
theorem uq_app (S : TS) (x : Int × Bool) : uq (S ++ [x]) = uq S ++ [if x.2 = true then x.1 else -1] := by simp [uq]
theorem uq_len (S : TS) : (uq S).length = S.length := by simp [uq]
theorem uq_on {S : TS} {j : Nat} {p : Int} (h : S[j]? = some (p, true)) : (uq S)[j]? = some p := by simp [uq, h]
theorem uq_off {S : TS} {j : Nat} (hj : j < S.length) (h : ∀ p, S[j]? ≠ some (p, true)) : (uq S)[j]? = some (-1) := by
  have e := List.getElem?_eq_getElem hj
  rw [uq, List.getElem?_map, e]
  have hx : (S[j]).2 = false := by
    cases hb : (S[j]).2 with
    | false => rfl
    | true => exact absurd (e.trans (by rw [← hb])) (h (S[j]).1)
  simp [hx]
theorem uq_inv {S : TS} {j p : Nat} (h : (uq S)[j]? = some (p : Int)) : S[j]? = some ((p : Int), true) := by
  rw [uq, List.getElem?_map] at h
  cases hs : S[j]? with
  | none => rw [hs] at h; cases h
  | some x =>
    rw [hs] at h
    obtain ⟨q, b⟩ := x
    cases b with
    | true => simpa using h
    | false => simp at h
/-- The first i of a walk have their places told. -/
structure Pl (wn : List Nat) (i N : Nat) (at' : List Int) : Prop where
  len : at'.length = N
  hit : ∀ j v, j < i → wn[j]? = some v → at'[v]? = some ((j : Int) + 1)
  miss : ∀ v, v < N → (∀ j, j < i → wn[j]? ≠ some v) → at'[v]? = some 0
theorem Pl.zero (wn : List Nat) (N : Nat) : Pl wn 0 N (List.replicate N 0) := ⟨by simp, fun j v h => by omega, fun v hv _ => by simp [hv]⟩
theorem once_at {wn : List Nat} (h : wn.Nodup) {i j v : Nat} (h1 : wn[i]? = some v) (h2 : wn[j]? = some v) : i = j := by
  obtain ⟨hi, e1⟩ := List.getElem?_eq_some_iff.1 h1
  obtain ⟨hj, e2⟩ := List.getElem?_eq_some_iff.1 h2
  have hp := h
  rw [List.Nodup, List.pairwise_iff_getElem] at hp
  rcases Nat.lt_trichotomy i j with c | c | c
  · exact absurd (e1.trans e2.symm) (hp i j hi hj c)
  · exact c
  · exact absurd (e2.trans e1.symm) (hp j i hj hi c)
theorem Pl.next {wn : List Nat} {i N v : Nat} {at' : List Int} (h : Pl wn i N at') (ho : wn.Nodup) (hv : wn[i]? = some v) (hN : v < N) : Pl wn (i + 1) N (at'.set v ((i : Int) + 1)) := by
  refine ⟨by simp [h.len], fun j u hj hu => ?_, fun u hu hno => ?_⟩
  · by_cases e : u = v
    · subst e
      obtain rfl := once_at ho hu hv
      rw [List.getElem?_set, if_pos rfl, if_pos (by rw [h.len]; exact hN)]
    · rw [List.getElem?_set, if_neg (fun x => e x.symm)]
      refine h.hit j u ?_ hu
      rcases Nat.lt_or_ge j i with c | c
      · exact c
      · obtain rfl : j = i := by omega
        rw [hv] at hu; exact absurd (by injection hu with hu; exact hu.symm) e
  · have e : u ≠ v := fun e => hno i (by omega) (by rw [e]; exact hv)
    rw [List.getElem?_set, if_neg (fun x => e x.symm)]
    exact h.miss u hu fun j hj => hno j (by omega)
theorem Pl.before {wn : List Nat} {i N v : Nat} {at' : List Int} (h : Pl wn i N at') (ho : wn.Nodup) (hv : wn[i]? = some v) (hN : v < N) : at'[v]? = some 0 :=
  h.miss v hN fun j hj e => by have := once_at ho e hv; omega
/-- All places told. -/
theorem Pl.in {wn : List Nat} {N v : Nat} {at' : List Int} (h : Pl wn wn.length N at') (hv : v ∈ wn) : ∃ j : Nat, wn[j]? = some v ∧ at'[v]? = some ((j : Int) + 1) := by
  obtain ⟨j, hj⟩ := List.getElem?_of_mem hv
  exact ⟨j, hj, h.hit j v (List.getElem?_eq_some_iff.1 hj).1 hj⟩
theorem Pl.out {wn : List Nat} {N v : Nat} {at' : List Int} (h : Pl wn wn.length N at') (hN : v < N) (hv : v ∉ wn) : at'[v]? = some 0 :=
  h.miss v hN fun j hj e => hv (List.mem_of_getElem? e)
/-- Two of a walk, told by their places. -/
theorem Pl.ahead {S : TS} {N a b : Nat} {at' : List Int} (hS : WF S) (h : Pl (walk S 0) (walk S 0).length N at') (h0 : 0 < S.length) (ha : a ∈ walk S 0) (hb : b ∈ walk S 0) (hne : a ≠ b) (hno : ¬ Ahead S b a) : ∃ x y : Int, at'[a]? = some x ∧ at'[b]? = some y ∧ x < y ∧ 0 < x ∧ 0 < y := by
  obtain ⟨i, hi, ei⟩ := h.in ha
  obtain ⟨j, hj, ej⟩ := h.in hb
  refine ⟨_, _, ei, ej, ?_, by omega, by omega⟩
  rcases Nat.lt_trichotomy i j with c | c | c
  · omega
  · subst c; rw [hi] at hj; exact absurd (by injection hj) hne
  · exfalso
    have hp := walk_rises hS _ 0 (Nat.lt_succ_self _) h0
    rw [List.pairwise_iff_getElem] at hp
    obtain ⟨hi', e1⟩ := List.getElem?_eq_some_iff.1 hi
    obtain ⟨hj', e2⟩ := List.getElem?_eq_some_iff.1 hj
    have := hp j i hj' hi' c
    rw [e1, e2] at this
    exact hno this
/-- One's parent is ahead. -/
theorem Pl.up {S : TS} {N i p : Nat} {at' : List Int} (hS : WF S) (h : Pl (walk S 0) (walk S 0).length N at') (h0 : 0 < S.length) (hi : i < S.length) (hin : upTo S i 0 = true) (hi0 : 0 < i) (hp : S[i]? = some ((p : Int), true)) (hpl : p < i) : ∃ x y : Int, at'[p]? = some x ∧ at'[i]? = some y ∧ x < y ∧ 0 < x ∧ 0 < y := by
  have hu : upTo S p 0 = true := by
    rw [upTo_step hp hpl, show (i == 0) = false from beq_eq_false_iff_ne.2 (by omega), Bool.false_or] at hin
    exact hin
  refine h.ahead hS h0 ((mem_walk hS h0).2 ⟨by omega, hu⟩) ((mem_walk hS h0).2 ⟨hi, hin⟩) (by omega) ?_
  intro ha
  exact ha.2.1 p hp rfl
/-- Of one's kids the elder is ahead. -/
theorem Pl.kin {S : TS} {N i k p : Nat} {at' : List Int} (hS : WF S) (h : Pl (walk S 0) (walk S 0).length N at') (h0 : 0 < S.length) (hi : i < S.length) (hin : upTo S i 0 = true) (hk : k < i) (hp : S[i]? = some ((p : Int), true)) (hq : S[k]? = some ((p : Int), true)) : ∃ x y : Int, at'[k]? = some x ∧ at'[i]? = some y ∧ x < y ∧ 0 < x ∧ 0 < y := by
  have hpl := (hS k p true hq).2.1
  have hu : upTo S p 0 = true := by
    rw [upTo_step hp (by omega), show (i == 0) = false from beq_eq_false_iff_ne.2 (by omega), Bool.false_or] at hin
    exact hin
  have hku : upTo S k 0 = true := by rw [upTo_step hq (by omega), hu, Bool.or_true]
  refine h.ahead hS h0 ((mem_walk hS h0).2 ⟨by omega, hku⟩) ((mem_walk hS h0).2 ⟨hi, hin⟩) (by omega) ?_
  intro ha
  have := ha.2.2 p hp hq
  omega
section
variable {W w w' : World} {t : Nat} {S : TS} {rs : List Rr}
/-- A store into a row. -/
theorem LS.put {i j g : Nat} {r : Rr} {x : Int} (h : LS W t S rs w) (hr : rs[i]? = some r) (hP : r.P = some ⟨g, 0, none⟩) : LS W t S (rs.set i ⟨r.P, r.c, r.l.set j x⟩) (w.setCell ⟨g, j, none⟩ (.int .i64 x)) := by
  have ho := h.own hr
  obtain ⟨P, c, l⟩ := r
  have hP' : P = some ⟨g, 0, none⟩ := hP
  subst hP'
  refine h.turn hr (Tn.set (F := fun k => blk (some ⟨g, 0, none⟩) = some k) (Tn.refl _ w) (.inl rfl) _) ?_ (fun k hk => .inl hk)
  have := (ho.stored j (.int .i64 x)).1
  unfold Rw
  rw [List.length_set, show iV (l.set j x) = (iV l).set j (.int .i64 x) from by simp [iV, List.map_set]]
  exact this
/-- A row of zeros. -/
theorem LS.made {n g : Nat} (h : LS W t S rs w) (ho : w'.ownsRow w.heap.size 3 1 (.slice (some ⟨g, 0, none⟩) n n) n (madeCells (Value.int .i64 0).cells (n * 1)).toList) (hg : w.grownBy w' none) : LS W t S (⟨some ⟨g, 0, none⟩, n, List.replicate n 0⟩ :: rs) w' := by
  refine h.row ?_ ⟨hg.os, hg.tape, hg.output, hg.size, fun k hk => hg.block k hk (by simp)⟩
  unfold Rw
  rw [List.length_replicate]
  simp only [Value.cells, Nat.mul_one] at ho
  rw [toList_madeCells_one] at ho
  simpa [iV] using ho
end
end Go.Proofs.Ytplckaodenpdbaa
