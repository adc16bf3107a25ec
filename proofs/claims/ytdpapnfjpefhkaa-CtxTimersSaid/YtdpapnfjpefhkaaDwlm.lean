/- A row of contexts, each on the one ahead, with deadlines: the least of all that one hangs on; what a lapse makes of them. Conditions: each theorem's own premises.
Contexts hung on each other in any way: who hangs on whom, and what a cancellation leaves. No condition but those that each names. -/
import Derived.Test.YtdpapnfjpefhkaaLrwm
namespace Go.Proofs.Ytdpapnfjpefhkaa
open Go.RowKit Tr
set_option linter.unusedVariables false
set_option maxRecDepth 100000

/-- A row of contexts; the first m are not done, who is behind was over in time. -/
structure DW (at_ : Int) (s : St) (want : List Int) (m : Nat) : Prop where
  pn : Pn s
  len : s.C.length = want.length + 1
  mle : m ≤ want.length
  t : ∀ (j : Nat) (q : Int) (b : Bool), s.T[j]? = some (q, b) → q = (j : Int) - 1 ∧ b = decide (0 < j ∧ j ≤ m)
  bg : s.C[0]? = some bg
  c : ∀ (j : Nat) (v : Int), want[j]? = some v → ∃ x c, s.C[j + 1]? = some x ∧ x.ch = some c ∧ x.wh = v ∧ x.has = decide (0 < v) ∧ (j + 1 ≤ m → x.er = 0 ∧ x.cs = 0) ∧ (m < j + 1 → x.er = 2 ∧ x.cs = 2)
  nn : ∀ (j : Nat) (v : Int), want[j]? = some v → 0 ≤ v
  dead : ∀ (j : Nat) (v : Int), want[j]? = some v → m < j + 1 → 0 < v ∧ v ≤ at_
  mono : ∀ (p q : Nat) (u v : Int), p ≤ q → want[p]? = some u → 0 < u → want[q]? = some v → 0 < v ∧ v ≤ u
  e : ∀ (i : Nat) (y : On), s.E[i]? = some y → ∃ (j : Nat) (x : Cx), y.dt = (j : Int) + 1 ∧ s.C[j + 1]? = some x ∧ x.lp = (i : Int) ∧ x.own = true
  lp : ∀ (j : Nat) (x : Cx), s.C[j + 1]? = some x → x.lp = -1 ∨ ∃ (i : Nat) (y : On), x.lp = (i : Int) ∧ s.E[i]? = some y ∧ y.dt = (j : Int) + 1
  s1 : ∀ z ∈ s.S, ∃ (i j : Nat) (v : Int) (y : On), z.id = (i : Int) ∧ s.E[i]? = some y ∧ y.dt = (j : Int) + 1 ∧ j + 1 ≤ m ∧ want[j]? = some v ∧ 0 < v ∧ z.w = v
  s2 : ∀ (j : Nat) (v : Int), want[j]? = some v → j + 1 ≤ m → 0 < v → ∃ z ∈ s.S, ∃ (i j' : Nat) (y : On), j' ≤ j ∧ z.id = (i : Int) ∧ s.E[i]? = some y ∧ y.dt = (j' : Int) + 1 ∧ z.w = v
theorem DW.zero (at_ : Int) : DW at_ (s0 [] 0 []) [] 0 := by
  refine ⟨Pn.s0 _ _ _, rfl, Nat.le_refl _, fun j q b h => ?_, rfl, fun j v h => by simp at h, fun j v h => by simp at h, fun j v h => by simp at h, fun p q u v _ h => by simp at h, fun i y h => by simp [Ytdpapnfjpefhkaa.s0] at h, fun j x h => ?_, fun z h => by simp [Ytdpapnfjpefhkaa.s0] at h, fun j v h => by simp at h⟩
  · match j, h with
    | 0, h => cases h; exact ⟨rfl, rfl⟩
  · simp [Ytdpapnfjpefhkaa.s0] at h
/-- The last one. -/
structure DL (s : St) (n : Nat) (least : Int) (y : Cx) : Prop where
  h : s.C[n]? = some y
  er : y.er = 0
  cs : y.cs = 0
  nd : y.nd = n
  wh : y.wh = least
  has : y.has = decide (0 < least)
  nn : 0 ≤ least
theorem DL.zero : DL (s0 [] 0 []) 0 0 bg := ⟨rfl, rfl, rfl, rfl, rfl, rfl, by decide⟩
theorem app_cases {α : Type} {l : List α} {a u : α} {j : Nat} (hu : (l ++ [a])[j]? = some u) : (j < l.length ∧ l[j]? = some u) ∨ (j = l.length ∧ u = a) := by
  by_cases e : j < l.length
  · rw [List.getElem?_append_left e] at hu; exact .inl ⟨e, hu⟩
  · have hj := (List.getElem?_eq_some_iff.1 hu).1
    rw [List.length_append] at hj
    have hj : j < l.length + 1 := hj
    obtain rfl : j = l.length := by omega
    rw [List.getElem?_append_right (Nat.le_refl _), Nat.sub_self] at hu
    cases hu; exact .inr ⟨rfl, rfl⟩
theorem at_app {α : Type} {l : List α} (a : α) {u : α} {j : Nat} (h : l[j]? = some u) : (l ++ [a])[j]? = some u := by
  rw [List.getElem?_append_left (List.getElem?_eq_some_iff.1 h).1]; exact h
theorem app_new {α : Type} (l : List α) (a : α) {j : Nat} (h : j = l.length) : (l ++ [a])[j]? = some a := by subst h; simp
/-- One more, as its parent: no deadline of its own. -/
theorem DW.add {at_ least : Int} {s : St} {want : List Int} {c : Nat} {y : Cx} (h : DW at_ s want want.length) (v : Inv s) (d : DL s want.length least y) (hm : ∀ (j : Nat) (u : Int), want[j]? = some u → 0 < u → 0 < least ∧ least ≤ u) (hs : 0 < least → ∃ (j : Nat), want[j]? = some least) :
    DW at_ (mkC s (nx0 c y.wh y.has false) y) (want ++ [least]) (want ++ [least]).length ∧ DL (mkC s (nx0 c y.wh y.has false) y) (want ++ [least]).length least (nw (nx0 c y.wh y.has false) s.T.length) := by
  have e : mkC s (nx0 c y.wh y.has false) y = addS s (nx0 c y.wh y.has false) (y.nd : Int) true := by unfold mkC; rw [if_pos d.er]
  have hll : (want ++ [least]).length = want.length + 1 := by simp
  rw [e]
  have hnew : (s.C ++ [nw (nx0 c y.wh y.has false) s.T.length])[want.length + 1]? = some (nw (nx0 c y.wh y.has false) s.T.length) := app_new _ _ h.len.symm
  refine ⟨⟨h.pn.add v _ _ _, by show (s.C ++ _).length = _; simp [h.len], Nat.le_refl _, fun j q b hj => ?_, at_app _ h.bg, fun j u hu => ?_, fun j u hu => ?_, fun j u hu hj => ?_, fun p q u u' hpq hp hp0 hq => ?_, fun i z hz => ?_, fun j x hx => ?_, fun z hz => ?_, fun j u hu hj h0 => ?_⟩, ⟨by rw [hll]; exact hnew, rfl, rfl, by show s.T.length = _; rw [h.pn.tl, h.len, hll], d.wh, d.has, d.nn⟩⟩
  · rcases app_cases hj with ⟨a1, a2⟩ | ⟨rfl, a2⟩
    · have := h.t j q b a2
      refine ⟨this.1, ?_⟩
      have hjl : j ≤ want.length := by rw [h.pn.tl, h.len] at a1; omega
      rw [this.2, hll]
      exact decide_eq_decide.2 ⟨fun h1 => ⟨h1.1, by omega⟩, fun h1 => ⟨h1.1, hjl⟩⟩
    · injection a2 with a3 a4
      have htl := h.pn.tl; have hcl := h.len
      refine ⟨by rw [a3, d.nd]; omega, ?_⟩
      rw [a4, hll]; symm; exact decide_eq_true ⟨by omega, by omega⟩
  · rcases app_cases hu with ⟨a1, a2⟩ | ⟨rfl, rfl⟩
    · obtain ⟨x, cx, b1, b2, b3, b4, b5, b6⟩ := h.c j u a2
      exact ⟨x, cx, at_app _ b1, b2, b3, b4, fun _ => b5 (by omega), fun h9 => by rw [hll] at h9; omega⟩
    · exact ⟨_, c, hnew, rfl, d.wh, d.has, fun _ => ⟨rfl, rfl⟩, fun h9 => by rw [hll] at h9; omega⟩
  · rcases app_cases hu with ⟨a1, a2⟩ | ⟨rfl, rfl⟩
    · exact h.nn j u a2
    · exact d.nn
  · have := (List.getElem?_eq_some_iff.1 hu).1; omega
  · rcases app_cases hp with ⟨a1, a2⟩ | ⟨rfl, rfl⟩
    · rcases app_cases hq with ⟨b1, b2⟩ | ⟨rfl, rfl⟩
      · exact h.mono p q u u' hpq a2 hp0 b2
      · exact hm p u a2 hp0
    · rcases app_cases hq with ⟨b1, b2⟩ | ⟨rfl, rfl⟩
      · omega
      · exact ⟨hp0, Int.le_refl _⟩
  · obtain ⟨j, x, b1, b2, b3⟩ := h.e i z hz
    exact ⟨j, x, b1, at_app _ b2, b3⟩
  · rcases app_cases hx with ⟨a1, a2⟩ | ⟨a1, rfl⟩
    · exact h.lp j x a2
    · exact .inl rfl
  · obtain ⟨i, j, u, z', b1, b2, b3, b4, b5, b6⟩ := h.s1 z hz
    exact ⟨i, j, u, z', b1, b2, b3, by omega, at_app _ b5, b6⟩
  · rcases app_cases hu with ⟨a1, a2⟩ | ⟨rfl, rfl⟩
    · exact h.s2 j u a2 (by omega) h0
    · obtain ⟨j0, hj0⟩ := hs h0
      have hlt := (List.getElem?_eq_some_iff.1 hj0).1
      obtain ⟨z, hz, i, j', z', b1, b2⟩ := h.s2 j0 u hj0 (by omega) h0
      exact ⟨z, hz, i, j', z', by omega, b2⟩
/-- One more, with a deadline of its own. -/
theorem DW.dl {at_ least k : Int} {s : St} {want : List Int} {c ts : Nat} {y : Cx} (h : DW at_ s want want.length) (v : Inv s) (d : DL s want.length least y) (hk : 0 < k) (hm : ∀ (j : Nat) (u : Int), want[j]? = some u → 0 < u → k ≤ u) :
    DW at_ (dlS (some ts) s (nx0 c k true true) (y.nd : Int) k) (want ++ [k]) (want ++ [k]).length ∧ DL (dlS (some ts) s (nx0 c k true true) (y.nd : Int) k) (want ++ [k]).length k { nw (nx0 c k true true) s.T.length with lp := lpV (some ts) s.E } := by
  have hll : (want ++ [k]).length = want.length + 1 := by simp
  have hnew : (s.C ++ [{ nw (nx0 c k true true) s.T.length with lp := lpV (some ts) s.E }])[want.length + 1]? = some { nw (nx0 c k true true) s.T.length with lp := lpV (some ts) s.E } := app_new _ _ h.len.symm
  have hEn : (s.E ++ [(⟨4, s.C.length, none, 1⟩ : On)])[s.E.length]? = some ⟨4, s.C.length, none, 1⟩ := app_new _ _ rfl
  refine ⟨⟨h.pn.dl v _ _ _, by show (s.C ++ _).length = _; simp [h.len], Nat.le_refl _, fun j q b hj => ?_, at_app _ h.bg, fun j u hu => ?_, fun j u hu => ?_, fun j u hu hj => ?_, fun p q u u' hpq hp hp0 hq => ?_, fun i z hz => ?_, fun j x hx => ?_, fun z hz => ?_, fun j u hu hj h0 => ?_⟩, ⟨by rw [hll]; exact hnew, rfl, rfl, by show s.T.length = _; rw [h.pn.tl, h.len, hll], rfl, by symm; exact decide_eq_true hk, by omega⟩⟩
  · rcases app_cases hj with ⟨a1, a2⟩ | ⟨rfl, a2⟩
    · have := h.t j q b a2
      refine ⟨this.1, ?_⟩
      have hjl : j ≤ want.length := by rw [h.pn.tl, h.len] at a1; omega
      rw [this.2, hll]
      exact decide_eq_decide.2 ⟨fun h1 => ⟨h1.1, by omega⟩, fun h1 => ⟨h1.1, hjl⟩⟩
    · injection a2 with a3 a4
      have htl := h.pn.tl; have hcl := h.len
      refine ⟨by rw [a3, d.nd]; omega, ?_⟩
      rw [a4, hll]; symm; exact decide_eq_true ⟨by omega, by omega⟩
  · rcases app_cases hu with ⟨a1, a2⟩ | ⟨rfl, rfl⟩
    · obtain ⟨x, cx, b1, b2, b3, b4, b5, b6⟩ := h.c j u a2
      exact ⟨x, cx, at_app _ b1, b2, b3, b4, fun _ => b5 (by omega), fun h9 => by rw [hll] at h9; omega⟩
    · exact ⟨_, c, hnew, rfl, rfl, by symm; exact decide_eq_true hk, fun _ => ⟨rfl, rfl⟩, fun h9 => by rw [hll] at h9; omega⟩
  · rcases app_cases hu with ⟨a1, a2⟩ | ⟨rfl, rfl⟩
    · exact h.nn j u a2
    · omega
  · have := (List.getElem?_eq_some_iff.1 hu).1; omega
  · rcases app_cases hp with ⟨a1, a2⟩ | ⟨rfl, rfl⟩
    · rcases app_cases hq with ⟨b1, b2⟩ | ⟨rfl, rfl⟩
      · exact h.mono p q u u' hpq a2 hp0 b2
      · exact ⟨hk, hm p u a2 hp0⟩
    · rcases app_cases hq with ⟨b1, b2⟩ | ⟨rfl, rfl⟩
      · omega
      · exact ⟨hp0, Int.le_refl _⟩
  · rcases app_cases hz with ⟨a1, a2⟩ | ⟨rfl, rfl⟩
    · obtain ⟨j, x, b1, b2, b3⟩ := h.e i z a2
      exact ⟨j, x, b1, at_app _ b2, b3⟩
    · exact ⟨want.length, _, by show (s.C.length : Int) = _; rw [h.len]; omega, hnew, rfl, rfl⟩
  · rcases app_cases hx with ⟨a1, a2⟩ | ⟨a1, rfl⟩
    · rcases h.lp j x a2 with h9 | ⟨i, z, b1, b2, b3⟩
      · exact .inl h9
      · exact .inr ⟨i, z, b1, at_app _ b2, b3⟩
    · exact .inr ⟨s.E.length, _, rfl, hEn, by show (s.C.length : Int) = _; omega⟩
  · have hz : z ∈ ins ⟨(s.E.length : Int), k, (s.n : Int) + 1⟩ s.S := hz
    rcases ins_mem.1 hz with rfl | hz
    · exact ⟨s.E.length, want.length, k, _, rfl, hEn, by show (s.C.length : Int) = _; rw [h.len]; omega, by omega, app_new _ _ rfl, hk, rfl⟩
    · obtain ⟨i, j, u, z', b1, b2, b3, b4, b5, b6⟩ := h.s1 z hz
      exact ⟨i, j, u, z', b1, at_app _ b2, b3, by omega, at_app _ b5, b6⟩
  · show ∃ z ∈ ins ⟨(s.E.length : Int), k, (s.n : Int) + 1⟩ s.S, _
    rcases app_cases hu with ⟨a1, a2⟩ | ⟨rfl, rfl⟩
    · obtain ⟨z, hz, i, j', z', b1, b2, b3, b4⟩ := h.s2 j u a2 (by omega) h0
      exact ⟨z, ins_mem.2 (.inr hz), i, j', z', b1, b2, at_app _ b3, b4⟩
    · exact ⟨_, ins_mem.2 (.inl rfl), s.E.length, want.length, _, Nat.le_refl _, rfl, hEn, by show (s.C.length : Int) = _; rw [h.len]; omega, rfl⟩
/-- Whom a walk from c meets. -/
theorem DW.walk {at_ : Int} {s : St} {want : List Int} {m c : Nat} (h : DW at_ s want m) (v : Inv s) (h1 : 1 ≤ c) (h2 : c ≤ m) (x : Nat) : x ∈ Tr.walk s.T c ↔ c ≤ x ∧ x ≤ m := by
  have hml := h.mle
  have htl : s.T.length = want.length + 1 := h.pn.tl.trans h.len
  have row : ∀ j, j < s.T.length → s.T[j]? = some ((j : Int) - 1, decide (0 < j ∧ j ≤ m)) := by
    intro j hj
    obtain ⟨⟨q, b⟩, hq⟩ : ∃ z, s.T[j]? = some z := ⟨_, List.getElem?_eq_getElem hj⟩
    obtain ⟨e1, e2⟩ := h.t j q b hq
    rw [hq, e1, e2]
  have up : ∀ x, x < s.T.length → (upTo s.T x c = true ↔ c ≤ x ∧ x ≤ m) := by
    intro x
    induction x with
    | zero =>
      intro hx
      rw [upTo_stop fun p hp => by rw [row 0 hx] at hp; simp at hp]
      simp; omega
    | succ x ih =>
      intro hx
      by_cases e : x + 1 ≤ m
      · have hr := row (x + 1) hx
        rw [show ((x + 1 : Nat) : Int) - 1 = (x : Int) from by omega, decide_eq_true (show 0 < x + 1 ∧ x + 1 ≤ m from ⟨by omega, e⟩)] at hr
        rw [upTo_step hr (by omega), Bool.or_eq_true, ih (by omega)]
        simp only [beq_iff_eq]
        omega
      · rw [upTo_stop fun p hp => by rw [row (x + 1) hx] at hp; simp at hp; omega]
        simp; omega
  rw [mem_walk v.wf (by rw [htl]; omega)]
  constructor
  · rintro ⟨a, b⟩; exact (up x a).1 b
  · rintro ⟨a, b⟩; exact ⟨by rw [htl]; omega, (up x (by rw [htl]; omega)).2 ⟨a, b⟩⟩
/-- Time comes to one of them. -/
theorem DW.lapse {at_ : Int} {s : St} {want : List Int} {m : Nat} {z : It} {r : List It} (h : DW at_ s want m) (v : Inv s) (ok : Ok s.n s.S) (e : s.S = z :: r) (hd : z.w ≤ at_) : ∃ (i j : Nat) (y : On) (x : Cx) (c : Nat) (s' : St) (l : List Lap), z.id = (i : Int) ∧ s.E[i]? = some y ∧ y.dt = (j : Int) + 1 ∧ j < m ∧ s.C[j + 1]? = some x ∧ x.ch = some c ∧ x.own = true ∧
    cnS { s with S := r } x 2 2 = (s', l, []) ∧ DW at_ s' want j := by
  obtain ⟨i, j, u, y, b1, b2, b3, b4, b5, b6, b7⟩ := h.s1 z (by rw [e]; simp)
  obtain ⟨x, c, a1, a2, a3, a4, a5, a6⟩ := h.c j u b5
  obtain ⟨j9, x9, c1, c2, c3, c4⟩ := h.e i y b2
  obtain rfl : j9 = j := by omega
  rw [a1] at c2; cases c2
  have hml := h.mle
  have hp : Pn { s with S := r } := ⟨h.pn.tl, h.pn.k, h.pn.nd⟩
  obtain ⟨s', e1, f⟩ := cn_pn (s := { s with S := r }) (er := 2) (cs := 2) hp (v.due e) a1 (a5 b4).1
  have hw := h.walk v (c := j9 + 1) (by omega) b4
  have hw : ∀ x, x ∈ Tr.walk ({ s with S := r } : St).T (j9 + 1) ↔ j9 + 1 ≤ x ∧ x ≤ m := hw
  generalize Tr.walk ({ s with S := r } : St).T (j9 + 1) = ws at *
  have fl : s'.C.length = want.length + 1 := f.len.trans h.len
  have fe : s'.E = s.E := f.e.1
  have hin : ∀ w ∈ s'.S, w ∈ s.S ∧ w.id ≠ z.id := by
    intro w hw9
    have h9 := ((f.s w).1 hw9).1
    have h9 : w ∈ r := h9
    refine ⟨by rw [e]; exact List.mem_cons_of_mem _ h9, fun e9 => ?_⟩
    have hn := ok.ids
    rw [e] at hn
    have hn : (z.id :: ids r).Nodup := hn
    exact (List.nodup_cons.1 hn).1 (by rw [← e9]; exact List.mem_map_of_mem (f := It.id) h9)
  refine ⟨i, j9, y, x, c, s', _, b1, b2, b3, by omega, a1, a2, c4, e1, f.pl, fl, by omega, fun j q b hj => ?_, ?_, fun j u' hu => ?_, h.nn, fun j u' hu hj => ?_, h.mono, fun i' y' hy => ?_, fun j x' hx => ?_, fun w hw9 => ?_, fun j u' hu hj h0 => ?_⟩
  · obtain ⟨⟨q', b'⟩, hq⟩ : ∃ z, s.T[j]? = some z := by
      have hl := (List.getElem?_eq_some_iff.1 hj).1
      exact ⟨_, List.getElem?_eq_getElem (by rw [h.pn.tl, h.len]; rw [f.pl.tl, fl] at hl; exact hl)⟩
    have h1 := f.t j q' b' hq
    rw [hj] at h1
    injection h1 with h1; injection h1 with g1 g2
    obtain ⟨k1, k2⟩ := h.t j q' b' hq
    refine ⟨g1.trans k1, ?_⟩
    rw [g2, k2]
    by_cases hjw : j ∈ ws
    · have := (hw j).1 hjw
      rw [decide_eq_true hjw, Bool.not_true, Bool.and_false]
      symm; exact decide_eq_false (by omega)
    · have : ¬ (j9 + 1 ≤ j ∧ j ≤ m) := fun h9 => hjw ((hw j).2 h9)
      rw [decide_eq_false hjw, Bool.not_false, Bool.and_true]
      exact decide_eq_decide.2 (by omega)
  · have := f.c 0 _ h.bg
    rwa [if_neg (fun h9 => by have := (hw 0).1 h9; omega)] at this
  · obtain ⟨x', cx, d1, d2, d3, d4, d5, d6⟩ := h.c j u' hu
    have := f.c (j + 1) x' d1
    by_cases hjw : j + 1 ∈ ws
    · rw [if_pos hjw] at this
      have h9 := (hw _).1 hjw
      exact ⟨_, cx, this, d2, d3, d4, fun h8 => by omega, fun _ => ⟨rfl, rfl⟩⟩
    · rw [if_neg hjw] at this
      have h9 : ¬ (j9 + 1 ≤ j + 1 ∧ j + 1 ≤ m) := fun h9 => hjw ((hw _).2 h9)
      exact ⟨x', cx, this, d2, d3, d4, fun h8 => d5 (by omega), fun h8 => d6 (by omega)⟩
  · by_cases hjm : m < j + 1
    · exact h.dead j u' hu hjm
    · have := h.mono j9 j u u' (by omega) b5 b6 hu
      exact ⟨this.1, by omega⟩
  · rw [fe] at hy
    obtain ⟨j', x', d1, d2, d3, d4⟩ := h.e i' y' hy
    have := f.c (j' + 1) x' d2
    by_cases hjw : j' + 1 ∈ ws
    · rw [if_pos hjw] at this; exact ⟨j', _, d1, this, d3, d4⟩
    · rw [if_neg hjw] at this; exact ⟨j', _, d1, this, d3, d4⟩
  · obtain ⟨x0, hx0⟩ : ∃ x0, s.C[j + 1]? = some x0 := by
      have := (List.getElem?_eq_some_iff.1 hx).1
      exact ⟨_, List.getElem?_eq_getElem (by rw [h.len]; rw [fl] at this; exact this)⟩
    have := f.c (j + 1) x0 hx0
    rw [hx] at this
    injection this with this
    have hlp : x'.lp = x0.lp := by rw [this]; split <;> rfl
    rw [hlp, fe]
    exact h.lp j x0 hx0
  · obtain ⟨hw1, hw2⟩ := hin w hw9
    obtain ⟨i', j', u', y', d1, d2, d3, d4, d5, d6, d7⟩ := h.s1 w hw1
    refine ⟨i', j', u', y', d1, by rw [fe]; exact d2, d3, ?_, d5, d6, d7⟩
    obtain ⟨j8, x8, g1, g2, g3, g4⟩ := h.e i' y' d2
    obtain rfl : j8 = j' := by omega
    rcases Nat.lt_or_ge j8 j9 with h9 | h9
    · omega
    · exfalso
      have := ((f.s w).1 hw9).2 (j8 + 1) x8 ((hw _).2 ⟨by omega, d4⟩) g2
      exact this (by rw [d1, g3])
  · obtain ⟨w, hw9, i', j', y', d1, d2, d3, d4, d5⟩ := h.s2 j u' hu (by omega) h0
    have hne : w.id ≠ z.id := by
      intro e9
      rw [d2, b1] at e9
      obtain rfl : i' = i := by omega
      rw [b2] at d3; cases d3
      omega
    refine ⟨w, (f.s w).2 ⟨?_, fun q x' hq hx => ?_⟩, i', j', y', d1, d2, by rw [fe]; exact d3, d4, d5⟩
    · rw [e] at hw9
      rcases List.mem_cons.1 hw9 with rfl | hw9
      · exact absurd rfl hne
      · exact hw9
    · obtain ⟨q, rfl⟩ : ∃ q', q = q' + 1 := ⟨q - 1, by have := (hw q).1 hq; omega⟩
      have hq9 := (hw _).1 hq
      rcases h.lp q x' hx with g1 | ⟨i8, y8, g1, g2, g3⟩
      · rw [g1, d2]; omega
      · rw [g1, d2]
        intro e9
        obtain rfl : i' = i8 := by omega
        rw [d3] at g2; cases g2
        omega
/-- Nobody is due any more: who is over, and who is not. -/
theorem DW.done {at_ : Int} {s : St} {want : List Int} {m : Nat} (h : DW at_ s want m) (ok : Ok s.n s.S) (hd : ∀ z r, s.S = z :: r → at_ < z.w) : ∀ (j : Nat) (u : Int), want[j]? = some u → ∃ x, s.C[j + 1]? = some x ∧ (if 0 < u ∧ u ≤ at_ then x.er = 2 ∧ x.cs = 2 else x.er = 0 ∧ x.cs = 0) := by
  intro j u hu
  obtain ⟨x, c, a1, a2, a3, a4, a5, a6⟩ := h.c j u hu
  refine ⟨x, a1, ?_⟩
  by_cases hj : m < j + 1
  · rw [if_pos (h.dead j u hu hj)]; exact a6 hj
  · rw [if_neg]
    · exact a5 (by omega)
    · rintro ⟨h0, h1⟩
      obtain ⟨z, hz, i, j', y, b1, b2, b3, b4, b5⟩ := h.s2 j u hu (by omega) h0
      cases e : s.S with
      | nil => rw [e] at hz; cases hz
      | cons z0 r =>
        have h2 := hd z0 r e
        have ho := ok.srt
        rw [e] at ho hz
        have := srt_least ho z hz
        omega
end Go.Proofs.Ytdpapnfjpefhkaa
namespace Go.Proofs.Ytdpapnfjpefhkaa
open Go.RowKit Tr
set_option linter.unusedVariables false
set_option maxRecDepth 100000
/-- Two lists with the same members, each once, are as long. -/
theorem same_len : ∀ (l m : List Nat), l.Nodup → m.Nodup → (∀ x, x ∈ l ↔ x ∈ m) → l.length = m.length
  | [], m, _, _, h => by
    cases m with
    | nil => rfl
    | cons a m => exact absurd ((h a).2 (by simp)) (by simp)
  | a :: l, m, hl, hm, h => by
    obtain ⟨h1, h2⟩ := List.nodup_cons.1 hl
    have ha : a ∈ m := (h a).1 (by simp)
    have e := same_len l (m.erase a) h2 (hm.erase a) fun x => by
      rw [hm.mem_erase_iff, ← h x, List.mem_cons]
      constructor
      · intro hx
        exact ⟨fun e => h1 (e ▸ hx), .inr hx⟩
      · rintro ⟨a1, a2 | a2⟩
        · exact absurd a2 a1
        · exact a2
    rw [List.length_erase_of_mem ha] at e
    have := List.length_pos_of_mem ha
    rw [List.length_cons, e]; omega
/-- How many of the first i hang on k. -/
def cnt (S : TS) (k i : Nat) : Nat := ((List.range i).filter fun j => upTo S j k).length
theorem cnt_le (S : TS) (k i : Nat) : cnt S k i ≤ i := Nat.le_trans (List.length_filter_le _ _) (by simp)
theorem cnt_in {S : TS} {k i : Nat} (h : upTo S i k = true) : cnt S k (i + 1) = cnt S k i + 1 := by
  unfold cnt
  rw [List.range_succ, List.filter_append, List.filter_cons, if_pos h]; simp
theorem cnt_out {S : TS} {k i : Nat} (h : upTo S i k = false) : cnt S k (i + 1) = cnt S k i := by
  unfold cnt
  rw [List.range_succ, List.filter_append, List.filter_cons, if_neg (by rw [h]; decide)]; simp
theorem cnt_all {S : TS} (h : WF S) {k : Nat} (hk : k < S.length) : cnt S k S.length = (walk S k).length := by
  unfold cnt
  refine same_len _ _ (List.nodup_range.filter _) (walk_once h hk) fun x => ?_
  rw [List.mem_filter, List.mem_range, mem_walk h hk]
/-- All contexts, whom each hangs on, and which of them are plain; nobody is over. -/
structure FI (s : St) (up : List Int) (pl : List Bool) : Prop where
  pn : Pn s
  lu : up.length = s.C.length
  lp : pl.length = s.C.length
  t : ∀ (j : Nat) (q : Int) (b : Bool), s.T[j]? = some (q, b) → up[j]? = some (if b then q else -1) ∧ pl[j]? = some (!b)
  c : ∀ (j : Nat) (x : Cx), s.C[j]? = some x → x.er = 0 ∧ x.cs = 0 ∧ (x.ch = none ↔ pl[j]? = some true)
section
variable {s : St} {up : List Int} {pl : List Bool} {i c k : Nat} {x y : Cx}
theorem FI.zero : FI (s0 [] 0 []) [-1] [true] := by
  refine ⟨Pn.s0 _ _ _, rfl, rfl, fun j q b h => ?_, fun j x h => ?_⟩
  · match j, h with
    | 0, h => cases h; exact ⟨rfl, rfl⟩
  · match j, h with
    | 0, h => cases h; exact ⟨rfl, rfl, ⟨fun _ => rfl, fun _ => rfl⟩⟩
theorem FI.put {s' : St} {z : Int × Bool} {u : Int} {b : Bool} (h : FI s up pl) (p : Pn s') (hT : s'.T = s.T ++ [z]) (hC : s'.C = s.C ++ [x]) (hu : u = if z.2 then z.1 else -1) (hb : b = !z.2) (h0 : x.er = 0 ∧ x.cs = 0) (hc : x.ch = none ↔ b = true) : FI s' (up ++ [u]) (pl ++ [b]) := by
  have htl := h.pn.tl
  refine ⟨p, by rw [hC]; simp [h.lu], by rw [hC]; simp [h.lp], fun j q l hj => ?_, fun j w hj => ?_⟩
  · rw [hT] at hj
    rcases app_cases hj with ⟨a1, a2⟩ | ⟨rfl, a2⟩
    · obtain ⟨e1, e2⟩ := h.t j q l a2
      exact ⟨at_app _ e1, at_app _ e2⟩
    · subst a2
      exact ⟨by rw [app_new _ _ (by rw [h.lu, htl]), hu], by rw [app_new _ _ (by rw [h.lp, htl]), hb]⟩
  · rw [hC] at hj
    rcases app_cases hj with ⟨a1, a2⟩ | ⟨rfl, rfl⟩
    · obtain ⟨e1, e2, e3⟩ := h.c j w a2
      refine ⟨e1, e2, e3.trans ?_⟩
      rw [List.getElem?_append_left (by rw [h.lp]; exact a1)]
    · refine ⟨h0.1, h0.2, hc.trans ?_⟩
      rw [app_new _ _ h.lp.symm]
      simp
/-- One more that can be cancelled. -/
theorem FI.can (h : FI s up pl) (v : Inv s) (hy : s.C[i]? = some y) : FI (mkC s (nx0 c y.wh y.has false) y) (up ++ [(i : Int)]) (pl ++ [false]) := by
  have e : mkC s (nx0 c y.wh y.has false) y = addS s (nx0 c y.wh y.has false) (y.nd : Int) true := by unfold mkC; rw [if_pos (h.c i y hy).1]
  rw [e]
  refine h.put (z := ((y.nd : Int), true)) (h.pn.add v _ _ _) rfl rfl ?_ rfl ⟨rfl, rfl⟩ ?_
  · rw [h.pn.nd i y hy]; rfl
  · constructor
    · intro h9; cases h9
    · intro h9; cases h9
/-- One more on which nothing falls. -/
theorem FI.wo (h : FI s up pl) (v : Inv s) (hy : s.C[i]? = some y) : FI (addS s nxW (y.nd : Int) false) (up ++ [-1]) (pl ++ [true]) :=
  h.put (z := ((y.nd : Int), false)) (h.pn.add v _ _ _) rfl rfl rfl rfl ⟨rfl, rfl⟩ ⟨fun _ => rfl, fun _ => rfl⟩
/-- Up from j, one step. -/
theorem FI.step (h : FI s up pl) (v : Inv s) {j k : Nat} (hj : j < up.length) : (∃ p : Nat, up[j]? = some (p : Int) ∧ p < j ∧ upTo s.T j k = ((j == k) || upTo s.T p k)) ∨ (up[j]? = some (-1) ∧ upTo s.T j k = (j == k)) := by
  obtain ⟨⟨q, b⟩, hq⟩ : ∃ z, s.T[j]? = some z := ⟨_, List.getElem?_eq_getElem (by rw [h.pn.tl, ← h.lu]; exact hj)⟩
  obtain ⟨e1, e2⟩ := h.t j q b hq
  cases b with
  | true =>
    have hw := v.wf j q true hq
    obtain ⟨p, rfl⟩ := Int.eq_ofNat_of_zero_le (hw.2.2 rfl)
    exact .inl ⟨p, by simpa using e1, by omega, upTo_step hq (by omega)⟩
  | false =>
    refine .inr ⟨by simpa using e1, upTo_stop fun p hp => ?_⟩
    rw [hq] at hp; simp at hp
/-- What a cancellation leaves. -/
structure FG (S : TS) (k : Nat) (cause : Int) (up : List Int) (s' : St) : Prop where
  len : s'.C.length = up.length
  c : ∀ i, i < up.length → ∃ x, s'.C[i]? = some x ∧ x.er = (if upTo S i k then 1 else 0) ∧ x.cs = if upTo S i k then cause else 0
  k : ∃ x c, s'.C[k]? = some x ∧ x.ch = some c ∧ x.er = 1 ∧ x.cs = cause
theorem FI.gone {cause : Int} (h : FI s up pl) (v : Inv s) (hx : s.C[k]? = some x) (hp : pl[k]? = some false) :
    ∃ c s' L, x.ch = some c ∧ cnS s x 1 cause = (s', (k, wkAt s k) :: L, []) ∧ ((k, wkAt s k) :: L).length = cnt s.T k up.length ∧ FG s.T k cause up s' := by
  obtain ⟨h1, h2, h3⟩ := h.c k x hx
  have hk := (List.getElem?_eq_some_iff.1 hx).1
  have hk' : k < s.T.length := by rw [h.pn.tl]; exact hk
  obtain ⟨c, hc⟩ : ∃ c, x.ch = some c := by
    cases e : x.ch with
    | some c => exact ⟨c, rfl⟩
    | none => rw [h3.1 e] at hp; cases hp
  obtain ⟨s', e1, f⟩ := cn_pn (er := 1) (cs := cause) h.pn v hx h1
  have mw : ∀ j, j ∈ walk s.T k ↔ j < s.T.length ∧ upTo s.T j k = true := fun j => mem_walk v.wf hk'
  have hl : (walk s.T k).length = cnt s.T k up.length := by rw [h.lu, ← h.pn.tl]; exact (cnt_all v.wf hk').symm
  have key : ∀ (i : Nat) (z : Cx), s.C[i]? = some z → s'.C[i]? = some (if upTo s.T i k then ended z 1 cause else z) := by
    intro i z hz
    have hi := (List.getElem?_eq_some_iff.1 hz).1
    rw [f.c i z hz]
    by_cases hu : upTo s.T i k = true
    · rw [if_pos hu, if_pos ((mw i).2 ⟨by rw [h.pn.tl]; exact hi, hu⟩)]
    · rw [if_neg hu, if_neg fun h9 => hu ((mw i).1 h9).2]
  rw [walk_eq] at e1 hl
  refine ⟨c, s', _, hc, e1, by rw [← hl]; simp, f.len.trans h.lu.symm, fun i hi => ?_, ?_⟩
  · obtain ⟨z, hz⟩ : ∃ z, s.C[i]? = some z := ⟨_, List.getElem?_eq_getElem (by rw [← h.lu]; exact hi)⟩
    obtain ⟨z1, z2, _⟩ := h.c i z hz
    refine ⟨_, key i z hz, ?_⟩
    by_cases hu : upTo s.T i k = true
    · rw [if_pos hu, if_pos hu, if_pos hu]; exact ⟨rfl, rfl⟩
    · rw [if_neg hu, if_neg hu, if_neg hu]; exact ⟨z1, z2⟩
  · have := key k x hx
    rw [if_pos (upTo_self _ _)] at this
    exact ⟨_, c, this, hc, rfl, rfl⟩
end
end Go.Proofs.Ytdpapnfjpefhkaa
