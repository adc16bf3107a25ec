/- A timer, or a ticker beside a timer, and what each call of TimerStale makes of them. Conditions: each theorem's own premises. -/
import Derived.Test.YtmadcnpkaijllaaLwk
namespace Go.Proofs.Ytmadcnpkaijllaa
open Go.RowKit Ch
set_option linter.unusedVariables false
set_option maxRecDepth 100000
/-- How many are due. -/
def dueN (now : Int) (S : List It) : Nat := (S.filter fun x => decide (x.w ≤ now)).length
/-- What holds of all that are armed and of their channels. -/
structure ZI (i c : Nat) (E : List On) (S : List It) (g : Int → Int) (L : List (Nat × CS)) (l : List Int) (now lo when : Int) (k q : Nat) : Prop where
  el : E.length ≤ 2
  al : ∀ (j : Nat) (e : On), E[j]? = some e → (e.kd = 1 ∨ e.kd = 2) ∧ 0 ≤ e.gn ∧ e.gn ≤ k ∧ ∃ (c' : Nat) (l' : List Int), e.ch = some c' ∧ L[j]? = some (c', cV l') ∧ l'.length ≤ 1
  it : ∀ y ∈ S, lo < y.w ∧ (∃ j : Nat, y.id = (j : Int) ∧ j < E.length) ∧ (g y.id = 0 ∨ (1 ≤ g y.id ∧ g y.id ≤ 1000))
  nd : (ids S).Nodup
  me : ∃ x, E[i]? = some x ∧ x.ch = some c
  li : L[i]? = some (c, cV l)
  wh : ∀ y ∈ S, y.id = (i : Int) → 0 ≤ when ∧ when ≤ y.w
  vl : l = [] ∨ ∃ v, l = [v] ∧ 0 ≤ when ∧ when ≤ v ∧ v ≤ now
  du : dueN now S ≤ q
theorem ZI.two {i c : Nat} {E : List On} {S : List It} {g : Int → Int} {L : List (Nat × CS)} {l : List Int} {now lo when : Int} {k q : Nat} (h : ZI i c E S g L l now lo when k q) : S.length ≤ 2 := by
  have he := h.el
  have key : ∀ y ∈ S, y.id = 0 ∨ y.id = 1 := fun y hy => by
    obtain ⟨_, ⟨j, e1, e2⟩, _⟩ := h.it y hy
    omega
  have hn := h.nd
  match S, key, hn with
  | [], _, _ => simp
  | [a], _, _ => simp
  | [a, b], _, _ => simp
  | a :: b :: d :: r, key, hn => 
    have k1 := key a (by simp)
    have k2 := key b (by simp)
    have k3 := key d (by simp)
    simp only [ids, List.map_cons, List.nodup_cons, List.mem_cons, not_or] at hn
    omega
def ZS (W : World) (t c i : Nat) (now lo when : Int) (k q : Nat) (em : Bool) (w : World) : Prop :=
  ∃ (E : List On) (m n : Nat) (S : List It) (g : Int → Int) (L : List (Nat × CS)) (l : List Int), SS W t E m n S g L w ∧ n ≤ k ∧ ZI i c E S g L l now lo when k q ∧ (em = true → l = [])
section
variable {W w w' : World} {t c i k q : Nat} {now lo when : Int} {em : Bool}
theorem ZS.bel (h : ZS W t c i now lo when k q em w) : Below W.heap.size W w := by obtain ⟨E, m, n, S, g, L, l, h, _⟩ := h; exact h.bel
theorem ZS.later (h : ZS W t c i now lo when k q em w) (hb : Below w.heap.size w w') : ZS W t c i now lo when k q em w' := by
  obtain ⟨E, m, n, S, g, L, l, h, r⟩ := h
  exact ⟨E, m, n, S, g, L, l, h.later hb, r⟩
theorem ZS.box (h : ZS W t c i now lo when k q em w) (u : Obj) : ZS W t c i now lo when k q em (w.alloc u) := h.later (below_al w u)
theorem ZS.gen (h : ZS W t c i now lo when k q em w) : ZS W t c i now lo when k q false w := by
  obtain ⟨E, m, n, S, g, L, l, h, h1, h2, _⟩ := h
  exact ⟨E, m, n, S, g, L, l, h, h1, h2, fun e => (by cases e)⟩
theorem ZS.more {k' : Nat} (h : ZS W t c i now lo when k q em w) (hk : k ≤ k') : ZS W t c i now lo when k' q em w := by
  obtain ⟨E, m, n, S, g, L, l, h, h1, h2, h3⟩ := h
  exact ⟨E, m, n, S, g, L, l, h, by omega, ⟨h2.el, fun j e he => by
    obtain ⟨a1, a2, a3, a4⟩ := h2.al j e he
    exact ⟨a1, a2, by omega, a4⟩, h2.it, h2.nd, h2.me, h2.li, h2.wh, h2.vl, h2.du⟩, h3⟩
theorem ZS.time {r : Int} (hr : 0 ≤ r) (h : ZS W t c i now now when k q em w) : ZS W t c i (now + r) now when k 2 em w := by
  obtain ⟨E, m, n, S, g, L, l, h, h1, h2, h3⟩ := h
  refine ⟨E, m, n, S, g, L, l, h, h1, ⟨h2.el, h2.al, h2.it, h2.nd, h2.me, h2.li, h2.wh, ?_, Nat.le_trans (List.length_filter_le _ _) h2.two⟩, h3⟩
  rcases h2.vl with e | ⟨v, e, a1, a2, a3⟩
  · exact .inl e
  · exact .inr ⟨v, e, a1, a2, by omega⟩
theorem ZS.rest (h : ZS W t c i now lo when k 0 em w) : ZS W t c i now now when k 0 em w := by
  obtain ⟨E, m, n, S, g, L, l, h, h1, h2, h3⟩ := h
  refine ⟨E, m, n, S, g, L, l, h, h1, ⟨h2.el, h2.al, fun y hy => ?_, h2.nd, h2.me, h2.li, h2.wh, h2.vl, h2.du⟩, h3⟩
  obtain ⟨_, a2, a3⟩ := h2.it y hy
  refine ⟨?_, a2, a3⟩
  apply Classical.byContradiction
  intro hc
  have hd := h2.du
  have : y ∈ S.filter fun x => decide (x.w ≤ now) := List.mem_filter.2 ⟨hy, by simp; omega⟩
  have := List.length_pos_of_mem this
  unfold dueN at hd
  omega
/-- What Fire answers. -/
def FrR (W : World) (t c i : Nat) (now lo when : Int) (k q : Nat) (e : Ending) (w' : World) : Prop :=
  ∃ (f0 f1 f2 f3 f4 : Int) (A : Option Addr) (a b : Nat) (kp ok : Bool), e = .returned (.tuple #[vF f0 f1 f2 f3 f4 A a b kp, .bool ok]) ∧ (ok = true → lo < f2 ∧ f2 ≤ now) ∧ ZS W t c i now lo when (k + 1) (q - 1) false w'
theorem set_get {α : Type} {l : List α} {j i : Nat} {x y : α} (hj : l[j]? = some x) : (l.set j y)[i]? = if i = j then some y else l[i]? := by
  have hl := (List.getElem?_eq_some_iff.1 hj).1
  by_cases e : i = j
  · subst e; rw [List.getElem?_set_self hl, if_pos rfl]
  · rw [List.getElem?_set_ne (fun h => e h.symm), if_neg e]
/-- One that fired: the channel of who it is has a value, or had one. -/
theorem ZI.put {E : List On} {S S' : List It} {g g' : Int → Int} {L : List (Nat × CS)} {l : List Int} {j c' : Nat} {l' l2 : List Int} (h : ZI i c E S g L l now lo when k q) (hj : L[j]? = some (c', cV l')) (h2 : l2 = l' ∨ l2 = [now]) (hl' : l'.length ≤ 1) (hw : j = i → 0 ≤ when ∧ when ≤ now)
    (hit : ∀ y ∈ S', lo < y.w ∧ (∃ j : Nat, y.id = (j : Int) ∧ j < E.length) ∧ (g' y.id = 0 ∨ (1 ≤ g' y.id ∧ g' y.id ≤ 1000))) (hnd : (ids S').Nodup) (hwh : ∀ y ∈ S', y.id = (i : Int) → 0 ≤ when ∧ when ≤ y.w) (hdu : dueN now S' ≤ q - 1) :
    ∃ l3, ZI i c E S' g' (L.set j (c', cV l2)) l3 now lo when (k + 1) (q - 1) := by
  have hl2 : l2.length ≤ 1 := by rcases h2 with rfl | rfl <;> simp_all
  have key := fun i => set_get (i := i) (y := (c', cV l2)) hj
  refine ⟨if i = j then l2 else l, h.el, fun a e he => ?_, hit, hnd, h.me, ?_, hwh, ?_, hdu⟩
  · obtain ⟨a1, a2, a3, c9, l9, a4, a5, a6⟩ := h.al a e he
    refine ⟨a1, a2, by omega, c9, if a = j then l2 else l9, a4, ?_, by split <;> assumption⟩
    rw [key]
    by_cases ea : a = j
    · subst ea
      rw [hj] at a5
      injection a5 with a5; injection a5 with a5 _
      rw [if_pos rfl, if_pos rfl, a5]
    · rw [if_neg ea, if_neg ea, a5]
  · rw [key]
    by_cases ei : i = j
    · subst ei
      have := h.li
      rw [hj] at this
      injection this with this; injection this with this _
      rw [if_pos rfl, if_pos rfl, this]
    · rw [if_neg ei, if_neg ei, h.li]
  · by_cases ei : i = j
    · rw [if_pos ei]
      subst ei
      have hli := h.li
      rw [hj] at hli
      injection hli with hli; injection hli with _ hli
      have el : l' = l := by injection hli
      rcases h2 with rfl | rfl
      · rw [el]; exact h.vl
      · exact .inr ⟨now, rfl, (hw rfl).1, (hw rfl).2, Int.le_refl _⟩
    · rw [if_neg ei]; exact h.vl
theorem gv_cv (l : List Int) (now : Int) (hl : l.length ≤ 1) : ∃ l2 b, gv (cV l) now = (cV l2, [], b) ∧ (l2 = l ∨ l2 = [now]) := by
  match l, hl with
  | [], _ => exact ⟨[now], true, rfl, .inr rfl⟩
  | [v], _ => exact ⟨[v], false, rfl, .inl rfl⟩
theorem dueN_ins {now : Int} {x : It} {S : List It} (hx : now < x.w) : dueN now (ins x S) = dueN now S := by
  unfold dueN
  rw [((ins_perm x S).filter _).length_eq, List.filter_cons_of_neg (by simp; omega)]
theorem zs_fire (h : ZS W t c i now lo when k q em w) (hl0 : 0 ≤ lo) (hl1 : lo ≤ now) (hn : now ≤ 1000000) (hk : k ≤ 1000) : Calls Try.prog 15 #[pS t, .int .i64 now] w (FrR W t c i now lo when k q) := by
  obtain ⟨E, m, n, S, g, L, l, h, h1, h2, h3⟩ := h
  have hS := h2.two
  have hE := h2.el
  cases S with
  | nil =>
    refine (fire_no h (tk_idle trivial) (by omega) (by simp)).mono ?_
    rintro e w' ⟨rfl, hs, -⟩
    exact ⟨_, _, _, _, _, _, _, _, _, _, rfl, fun e => (by cases e), E, m, n, [], g, L, l, hs, by omega, ⟨h2.el, fun j e he => by
      obtain ⟨a1, a2, a3, a4⟩ := h2.al j e he
      exact ⟨a1, a2, by omega, a4⟩, h2.it, h2.nd, h2.me, h2.li, h2.wh, h2.vl, Nat.zero_le _⟩, fun e => (by cases e)⟩
  | cons x r =>
    by_cases hd : now < x.w
    · refine (fire_no h (tk_idle hd) (by omega) (by omega)).mono ?_
      rintro e w' ⟨rfl, hs, -⟩
      have h0 : dueN now (x :: r) = 0 := by
        have hsrt := h.ok.srt
        unfold dueN
        rw [List.length_eq_zero_iff, List.filter_eq_nil_iff]
        intro y hy
        have : now < y.w := by
          rcases List.mem_cons.1 hy with rfl | hy
          · exact hd
          · have := (List.pairwise_cons.1 hsrt).1 y hy
            unfold It.lt at this
            omega
        simp; omega
      exact ⟨_, _, _, _, _, _, _, _, _, _, rfl, fun e => (by cases e), E, m, n, x :: r, g, L, l, hs, by omega, ⟨h2.el, fun j e he => by
        obtain ⟨a1, a2, a3, a4⟩ := h2.al j e he
        exact ⟨a1, a2, by omega, a4⟩, h2.it, h2.nd, h2.me, h2.li, h2.wh, h2.vl, by omega⟩, fun e => (by cases e)⟩
    · obtain ⟨b1, ⟨j, ej, hj⟩, b3⟩ := h2.it x (by simp)
      obtain ⟨xi, xw, xs⟩ := x
      simp only at ej
      subst ej
      replace hd : ¬ now < xw := hd
      replace b1 : lo < xw := b1
      replace b3 : g (j : Int) = 0 ∨ (1 ≤ g (j : Int) ∧ g (j : Int) ≤ 1000) := b3
      have hej : E[j]? = some E[j] := List.getElem?_eq_getElem hj
      obtain ⟨a1, a2, a3, c', l', a4, a5, a6⟩ := h2.al j _ hej
      obtain ⟨l2, kb, hg, hl2⟩ := gv_cv l' now a6
      have hwi : j = i → 0 ≤ when ∧ when ≤ now := fun e => by
        have h9 : 0 ≤ when ∧ when ≤ xw := h2.wh ⟨(j : Int), xw, xs⟩ List.mem_cons_self (by show (j : Int) = (i : Int); omega)
        omega
      have hnd := h2.nd
      simp only [ids, List.map_cons, List.nodup_cons] at hnd
      have hdu := h2.du
      have hd2 : dueN now r + 1 = dueN now (⟨(j : Int), xw, xs⟩ :: r) := by
        unfold dueN
        rw [List.filter_cons_of_pos (by simp; omega)]
        rfl
      by_cases hG : Gon xw (g (j : Int)) now
      · have hp : 1 ≤ g (j : Int) ∧ g (j : Int) ≤ 1000 := by
          rcases b3 with b3 | b3
          · rw [show g (j : Int) = 0 from b3] at hG
            exact absurd hG not_gon
          · exact b3
        have hrow := gon_row (wh := xw) (p := g (j : Int)) (now := now) hp.1 (by omega) (by omega) (by omega) (by omega)
        refine (fire_some (i := j) h (tk_on (x := ⟨(j : Int), xw, xs⟩) (by show xw ≤ now; omega) hG) hej (Pt.chan (j := j) a4 a5 rfl (by simp) hg) (by omega) (by omega) (by omega)).mono ?_
        rintro e w' ⟨A, cap, rfl, -, hs, -⟩
        obtain ⟨l3, hz⟩ := h2.put (S' := ins ⟨(j : Int), nx xw (g (j : Int)) now, (n : Int) + 1⟩ r) (g' := g) a5 hl2 a6 hwi (fun y hy => by
          rcases ins_mem.1 hy with rfl | hy
          · exact ⟨by show lo < nx xw (g (j : Int)) now; have := hrow.2.2.1; omega, ⟨j, rfl, hj⟩, .inr hp⟩
          · exact h2.it y (by simp [hy])) (ids_ins.nodup_iff.2 (List.nodup_cons.2 ⟨hnd.1, hnd.2⟩)) (fun y hy e => by
          rcases ins_mem.1 hy with rfl | hy
          · have h9 := hwi (by have e2 : (j : Int) = (i : Int) := e; omega)
            exact ⟨h9.1, by show when ≤ nx xw (g (j : Int)) now; have := hrow.2.2.1; omega⟩
          · exact h2.wh y (by simp [hy]) e) (by rw [dueN_ins (x := ⟨(j : Int), nx xw (g (j : Int)) now, (n : Int) + 1⟩) hrow.2.2.1]; omega)
        exact ⟨_, _, _, _, _, _, _, _, _, _, rfl, fun _ => ⟨b1, by omega⟩, E, m, n + 1, _, g, _, l3, hs, by omega, hz, fun e => (by cases e)⟩
      · refine (fire_some (i := j) h (tk_end (x := ⟨(j : Int), xw, xs⟩) (by show xw ≤ now; omega) hG) hej (Pt.chan (j := j) a4 a5 rfl (by simp) hg) (by omega) (by omega) (by omega)).mono ?_
        rintro e w' ⟨A, cap, rfl, -, hs, -⟩
        obtain ⟨l3, hz⟩ := h2.put (S' := r) (g' := fput g (j : Int) 0) a5 hl2 a6 hwi (fun y hy => by
          obtain ⟨d1, d2, d3⟩ := h2.it y (by simp [hy])
          refine ⟨d1, d2, ?_⟩
          by_cases e : y.id = (j : Int)
          · rw [e, fput_at]; exact .inl rfl
          · rw [fput_ne e]; exact d3) hnd.2 (fun y hy e => h2.wh y (by simp [hy]) e) (by omega)
        exact ⟨_, _, _, _, _, _, _, _, _, _, rfl, fun _ => ⟨b1, by omega⟩, E, m, n, r, _, _, l3, hs, by omega, hz, fun e => (by cases e)⟩
theorem zs_recv (h : ZS W t c i now lo when k q em w) : Calls Try.prog 16 #[.pointer (some ⟨c, 0, none⟩)] w fun e w' => ∃ (v : Int) (ok : Bool) (A : Option Addr) (cap : Nat), e = .returned (.tuple #[.int .i64 v, .bool ok, .bool ok, .slice A 0 cap]) ∧ (ok = true → 0 ≤ when ∧ when ≤ v ∧ v ≤ now) ∧ ZS W t c i now lo when k q true w' := by
  obtain ⟨E, m, n, S, g, L, l, h, h1, h2, h3⟩ := h
  have key : ∀ (L' : List (Nat × CS)), L' = L.set i (c, cV []) → ZI i c E S g L' [] now lo when k q := fun L' e => by
    subst e
    have kk := fun a => set_get (i := a) (y := (c, cV [])) h2.li
    refine ⟨h2.el, fun a e he => ?_, h2.it, h2.nd, h2.me, by rw [kk, if_pos rfl], h2.wh, .inl rfl, h2.du⟩
    obtain ⟨a1, a2, a3, c9, l9, a4, a5, a6⟩ := h2.al a e he
    by_cases ea : a = i
    · subst ea
      have := h2.li
      rw [a5] at this
      injection this with this; injection this with this _
      refine ⟨a1, a2, a3, c9, [], a4, by rw [kk, if_pos rfl, this], by simp⟩
    · exact ⟨a1, a2, a3, c9, l9, a4, by rw [kk, if_neg ea, a5], a6⟩
  rcases h2.vl with rfl | ⟨v, rfl, b1, b2, b3⟩
  · refine (ss_recv h h2.li (by simp) rc_none rfl).mono ?_
    rintro e w' ⟨A, cap, rfl, -, hs, -⟩
    exact ⟨_, _, _, _, rfl, fun e => (by cases e), E, m, n, S, g, _, [], hs, h1, key _ rfl, fun _ => rfl⟩
  · refine (ss_recv h h2.li (by simp) (rc_one v) rfl).mono ?_
    rintro e w' ⟨A, cap, rfl, -, hs, -⟩
    exact ⟨_, _, _, _, rfl, fun _ => ⟨b1, b2, b3⟩, E, m, n, S, g, _, [], hs, h1, key _ rfl, fun _ => rfl⟩
theorem zs_can (h : ZS W t c i now lo when k q true w) : Calls Try.prog 18 #[.pointer (some ⟨c, 0, none⟩), .bool false] w fun e w' => e = .returned (.bool false) ∧ ZS W t c i now lo when k q true w' := by
  obtain ⟨E, m, n, S, g, L, l, h, h1, h2, h3⟩ := h
  obtain rfl := h3 rfl
  refine (ss_can false h h2.li).mono ?_
  rintro e w' ⟨rfl, hs, -⟩
  exact ⟨rfl, E, m, n, S, g, L, [], hs, h1, h2, h3⟩
theorem zs_len (h : ZS W t c i now lo when k q em w) : Calls Try.prog 20 #[.pointer (some ⟨c, 0, none⟩)] w fun e w' => e = .returned (.int .i64 0) ∧ w = w' := by
  obtain ⟨E, m, n, S, g, L, l, h, h1, h2, h3⟩ := h
  exact ss_len h h2.li rfl
theorem zs_cap (h : ZS W t c i now lo when k q em w) : Calls Try.prog 21 #[.pointer (some ⟨c, 0, none⟩)] w fun e w' => e = .returned (.int .i64 0) ∧ w = w' := by
  obtain ⟨E, m, n, S, g, L, l, h, h1, h2, h3⟩ := h
  exact ss_cap h h2.li rfl
theorem dueN_del {S : List It} {j : Int} : dueN now (del j S) ≤ dueN now S := by
  unfold dueN del
  rw [List.filter_filter]
  exact (List.Sublist.length_le (by
    rw [show (fun a : It => decide (a.w ≤ now) && decide (a.id ≠ j)) = fun a => (decide (a.id ≠ j) && decide (a.w ≤ now)) by funext a; exact Bool.and_comm _ _]
    rw [← List.filter_filter]
    exact List.filter_sublist))
/-- It is stopped, or armed anew: its channel has nothing. -/
theorem ZI.drop {E E' : List On} {S S' : List It} {g g' : Int → Int} {L : List (Nat × CS)} {l : List Int} {when' : Int} {k' : Nat} (h : ZI i c E S g L l now lo when k q) (hE : ∀ (j : Nat) (e : On), E'[j]? = some e → ∃ e0, E[j]? = some e0 ∧ e.kd = e0.kd ∧ e.ch = e0.ch ∧ 0 ≤ e.gn ∧ e.gn ≤ k') (hEl : E'.length = E.length)
    (hme : ∃ x, E'[i]? = some x ∧ x.ch = some c) (hit : ∀ y ∈ S', lo < y.w ∧ (∃ j : Nat, y.id = (j : Int) ∧ j < E.length) ∧ (g' y.id = 0 ∨ (1 ≤ g' y.id ∧ g' y.id ≤ 1000))) (hnd : (ids S').Nodup) (hwh : ∀ y ∈ S', y.id = (i : Int) → 0 ≤ when' ∧ when' ≤ y.w) (hdu : dueN now S' ≤ q) :
    ZI i c E' S' g' (L.set i (c, cV [])) [] now lo when' k' q := by
  have kk := fun a => set_get (i := a) (y := (c, cV [])) h.li
  refine ⟨by rw [hEl]; exact h.el, fun a e he => ?_, fun y hy => by rw [hEl]; exact hit y hy, hnd, hme, by rw [kk, if_pos rfl], hwh, .inl rfl, hdu⟩
  obtain ⟨e0, f1, f2, f3, f4, f5⟩ := hE a e he
  obtain ⟨a1, a2, a3, c9, l9, a4, a5, a6⟩ := h.al a e0 f1
  rw [f2, f3]
  by_cases ea : a = i
  · subst ea
    have := h.li
    rw [a5] at this
    injection this with this; injection this with this _
    exact ⟨a1, f4, f5, c9, [], a4, by rw [kk, if_pos rfl, this], by simp⟩
  · exact ⟨a1, f4, f5, c9, l9, a4, by rw [kk, if_neg ea, a5], a6⟩
theorem del_id {S : List It} {j : Int} {y : It} (h : y ∈ del j S) : y ∈ S ∧ y.id ≠ j := del_mem.1 h
theorem del_nd {S : List It} {j : Int} (h : (ids S).Nodup) : (ids (del j S)).Nodup := h.sublist ((List.filter_sublist).map _)
theorem zs_stop (h : ZS W t c i now lo when k q em w) (hk : k ≤ 1000) : Calls Try.prog 17 #[pS t, .int .i64 (i : Int)] w fun e w' => ∃ b : Bool, e = .returned (.tuple #[.bool b, .int .i64 0]) ∧ ZS W t c i now lo (-1) k q true w' := by
  obtain ⟨E, m, n, S, g, L, l, h, h1, h2, h3⟩ := h
  obtain ⟨x, hx, hxc⟩ := h2.me
  obtain ⟨a1, a2, a3, _⟩ := h2.al i x hx
  have hS := h2.two
  have hE := h2.el
  refine (stop_set h hx (Drp.chan (s := cV l) hxc h2.li rfl) (by omega) (by omega) (by omega)).mono ?_
  rintro e w' ⟨rfl, hs, -⟩
  refine ⟨_, rfl, E, m, n, _, _, _, [], hs, h1, h2.drop (fun j e he => ⟨e, he, rfl, rfl, (h2.al j e he).2.1, (h2.al j e he).2.2.1⟩) rfl ⟨x, hx, hxc⟩ (fun y hy => ?_) (del_nd h2.nd) (fun y hy e => absurd e (del_id hy).2) (Nat.le_trans dueN_del h2.du), fun _ => rfl⟩
  obtain ⟨d1, d2⟩ := del_id hy
  rw [fput_ne d2]
  exact h2.it y d1
theorem zs_reset {d : Int} (h : ZS W t c i now now when k q em w) (hk : k ≤ 1000) (h0 : 0 ≤ now) (h9 : now ≤ 1000000) (hd1 : 1 ≤ d) (hd2 : d ≤ 1000) : Calls Try.prog 19 #[pS t, .int .i64 (i : Int), .int .i64 now, .int .i64 d] w fun e w' => ∃ b : Bool, e = .returned (.tuple #[.bool b, .int .i64 0]) ∧ ZS W t c i now now (now + d) (k + 1) q true w' := by
  obtain ⟨E, m, n, S, g, L, l, h, h1, h2, h3⟩ := h
  obtain ⟨x, hx, hxc⟩ := h2.me
  obtain ⟨a1, a2, a3, _⟩ := h2.al i x hx
  have hS := h2.two
  have hE := h2.el
  have hil := (List.getElem?_eq_some_iff.1 hx).1
  refine (reset_ok (now := now) (d := d) h hx (Drp.chan (s := cV l) hxc h2.li rfl) (by omega) (by omega) ⟨⟨by omega, by omega⟩, fun _ => by omega⟩ a2 (by omega) (by omega) (by omega) (by omega)).mono ?_
  rintro e w' ⟨rfl, hs, -⟩
  rw [wn_small h0 (by omega) (by omega) (by omega)] at hs
  have hper : per x.kd d = 0 ∨ (1 ≤ per x.kd d ∧ per x.kd d ≤ 1000) := by
    unfold per
    split
    · rw [hz_small (by omega) (by omega)]; exact .inr ⟨hd1, hd2⟩
    · exact .inl rfl
  have kk := fun a => set_get (i := a) (y := up x) hx
  refine ⟨_, rfl, _, m, n + 1, _, _, _, [], hs, by omega, h2.drop (fun j e he => ?_) (by rw [List.length_set]) ⟨up x, by rw [kk, if_pos rfl], hxc⟩ (fun y hy => ?_) (ids_ins.nodup_iff.2 (List.nodup_cons.2 ⟨del_ids, del_nd h2.nd⟩)) (fun y hy e => ?_) (by rw [dueN_ins (by simp only; omega)]; exact Nat.le_trans dueN_del h2.du), fun _ => rfl⟩
  · rw [kk] at he
    by_cases ej : j = i
    · rw [if_pos ej] at he
      injection he with he
      subst he
      exact ⟨x, by rw [ej]; exact hx, rfl, rfl, by unfold up; simp only; omega, by unfold up; simp only; omega⟩
    · rw [if_neg ej] at he
      exact ⟨e, he, rfl, rfl, (h2.al j e he).2.1, by have := (h2.al j e he).2.2.1; omega⟩
  · rcases ins_mem.1 hy with rfl | hy
    · exact ⟨by simp only; omega, ⟨i, rfl, hil⟩, by simp only; rw [fput_at]; exact hper⟩
    · obtain ⟨d1, d2⟩ := del_id hy
      rw [fput_ne d2]
      exact h2.it y d1
  · rcases ins_mem.1 hy with rfl | hy
    · exact ⟨by omega, by simp only; omega⟩
    · exact absurd e (del_id hy).2
end
end Go.Proofs.Ytmadcnpkaijllaa
