/- Contexts in memory: their cells; one that has turned; the timers beside them; all of it in one predicate. No condition.
What the reading calls of package ctx answer. Conditions: each theorem's own premises.
What Add does to a tree in memory. Conditions: each theorem's own premises. -/
import Derived.Test.YtdpapnfjpefhkaaSfim
import Derived.Test.YtdpapnfjpefhkaaTMemm
namespace Go.Proofs.Ytdpapnfjpefhkaa
open Go.RowKit Tr
set_option linter.unusedVariables false
set_option maxRecDepth 100000
theorem flat_same {α : Type} (f : α → List Value) (y : α) : ∀ (l : List α) (i : Nat) (x : α), l[i]? = some x → f y = f x → (l.set i y).flatMap f = l.flatMap f
  | [], i, x, h, _ => by simp at h
  | a :: l, 0, x, h, e => by simp at h; subst h; simp [e]
  | a :: l, i + 1, x, h, e => by
    rw [List.set_cons_succ, List.flatMap_cons, List.flatMap_cons, flat_same f y l i x (by simpa using h) e]
section
variable {W w w' wx w1 : World} {t g cap i n : Nat} {p : Option Nat} {T T' : TS} {K : List Kd} {C : List Cx} {A : List Af} {F : Nat → Prop} {G : Nat → Nat → Prop} {o : Lo} {k : Nat} {x y : Cx}
/-! Cells. -/
theorem CY.cells (h : CY W t p T K C A F G o w) : w.cell? ⟨t, 0, none⟩ = some (.pointer (cp p)) ∧ w.cell? ⟨t, 2, none⟩ = some (.slice o.PK K.length o.cK) ∧ w.cell? ⟨t, 3, none⟩ = some (.slice o.PC C.length o.cC) ∧ w.cell? ⟨t, 4, none⟩ = some (.slice o.PA A.length o.cA) ∧ ∀ j, w.frozen? ⟨t, j, none⟩ = false := by
  obtain ⟨P, c, hb⟩ := h.tr.blk
  refine ⟨by rw [cell_of_row w t 0 _ _ _ hb]; rfl, by rw [cell_of_row w t 2 _ _ _ hb]; rfl, by rw [cell_of_row w t 3 _ _ _ hb]; rfl, by rw [cell_of_row w t 4 _ _ _ hb]; rfl, fun j => frozen_of_row w t j _ _ hb⟩
theorem CY.cx (h : CY W t p T K C A F G o w) (hx : C[i]? = some x) : ∃ q, o.PC = some ⟨q, 0, none⟩ ∧ q < w.heap.size ∧
    (w.cell? ⟨q, i * 8, none⟩ = some (.int .i64 x.nd) ∧ w.cell? ⟨q, i * 8 + 1, none⟩ = some (.pointer (cp x.ch)) ∧ w.cell? ⟨q, i * 8 + 2, none⟩ = some (.int .i64 x.er) ∧ w.cell? ⟨q, i * 8 + 3, none⟩ = some (.int .i64 x.cs) ∧ w.cell? ⟨q, i * 8 + 4, none⟩ = some (.int .i64 x.wh) ∧ w.cell? ⟨q, i * 8 + 5, none⟩ = some (.bool x.has) ∧ w.cell? ⟨q, i * 8 + 6, none⟩ = some (.bool x.own) ∧ w.cell? ⟨q, i * 8 + 7, none⟩ = some (.int .i64 x.lp)) ∧ ∀ j, w.frozen? ⟨q, j, none⟩ = false := by
  have hi := (List.getElem?_eq_some_iff.1 hx).1
  obtain ⟨q, hP, _⟩ := row_form h.rc (by omega)
  have rc := h.rc
  rw [hP] at rc
  have hc : ∀ j, j < 8 → w.cell? ⟨q, i * 8 + j, none⟩ = (cE x)[j]? := fun j hj => by
    rw [rc.cellAt (i * 8 + j) (by omega)]
    exact flat_at cE 8 cE_len C i x hx j hj
  exact ⟨q, hP, (row_lt rc rfl).2, ⟨hc 0 (by omega), hc 1 (by omega), hc 2 (by omega), hc 3 (by omega), hc 4 (by omega), hc 5 (by omega), hc 6 (by omega), hc 7 (by omega)⟩, fun j => rc.frozenAt j⟩
theorem CY.kx (h : CY W t p T K C A F G o w) {z : Kd} (hx : K[i]? = some z) : ∃ q, o.PK = some ⟨q, 0, none⟩ ∧ q < w.heap.size ∧
    (w.cell? ⟨q, i * 2, none⟩ = some (.bool z.af) ∧ w.cell? ⟨q, i * 2 + 1, none⟩ = some (.int .i64 z.id)) := by
  have hi := (List.getElem?_eq_some_iff.1 hx).1
  obtain ⟨q, hP, _⟩ := row_form h.rk (by omega)
  have rc := h.rk
  rw [hP] at rc
  have hc : ∀ j, j < 2 → w.cell? ⟨q, i * 2 + j, none⟩ = (kE z)[j]? := fun j hj => by
    rw [rc.cellAt (i * 2 + j) (by omega)]
    exact flat_at kE 2 kE_len K i z hx j hj
  exact ⟨q, hP, (row_lt rc rfl).2, hc 0 (by omega), hc 1 (by omega)⟩
theorem CY.ax (h : CY W t p T K C A F G o w) {z : Af} (hx : A[i]? = some z) : ∃ q, o.PA = some ⟨q, 0, none⟩ ∧ q < w.heap.size ∧
    (w.cell? ⟨q, i * 2, none⟩ = some (.int .i64 z.nd) ∧ w.cell? ⟨q, i * 2 + 1, none⟩ = some (.int .i64 z.pg)) := by
  have hi := (List.getElem?_eq_some_iff.1 hx).1
  obtain ⟨q, hP, _⟩ := row_form h.ra (by omega)
  have rc := h.ra
  rw [hP] at rc
  have hc : ∀ j, j < 2 → w.cell? ⟨q, i * 2 + j, none⟩ = (aE z)[j]? := fun j hj => by
    rw [rc.cellAt (i * 2 + j) (by omega)]
    exact flat_at aE 2 aE_len A i z hx j hj
  exact ⟨q, hP, (row_lt rc rfl).2, hc 0 (by omega), hc 1 (by omega)⟩
/-- A context's cell is written. -/
theorem CY.setx (h : CY W t p T K C A F G o w) (hx : C[i]? = some x) {q : Nat} (hP : o.PC = some ⟨q, 0, none⟩) (j : Nat) (hj : j < 8) (v : Value) (hc : y.ch = x.ch) (hs : chS y = chS x) (he : cE y = (cE x).set j v) :
    CY W t p T K (C.set i y) A F G o (w.setCell ⟨q, i * 8 + j, none⟩ v) ∧ Tn (ow F G o) w (w.setCell ⟨q, i * 8 + j, none⟩ v) := by
  have hl := (List.getElem?_eq_some_iff.1 hx).1
  have key : ∀ k, k ≠ q → (w.setCell ⟨q, i * 8 + j, none⟩ v).heap[k]? = w.heap[k]? := fun k hk => Below.heap_setCell _ _ _ _ (by exact hk)
  have hq : blk o.PC = some q := by rw [hP]; rfl
  have T2 : Tn (ow F G o) w (w.setCell ⟨q, i * 8 + j, none⟩ v) := (Tn.refl _ w).set (.inl (.c hq)) _
  have tg := tag_row h.rc hq
  have nq : ∀ k ty, Tg (· = ty) w k → ty ≠ 92 → (w.setCell ⟨q, i * 8 + j, none⟩ v).heap[k]? = w.heap[k]? := fun k ty hk n => key k (by rintro rfl; exact hk.two tg fun a b c => n (b.symm.trans c))
  have nF : ∀ k, F k → (w.setCell ⟨q, i * 8 + j, none⟩ v).heap[k]? = w.heap[k]? := fun k hf => key k (by rintro rfl; exact (h.fF k hf).2.two tg fun ty a b => by subst b; revert a; unfold TgT; decide)
  have nG : ∀ i' k, G i' k → (w.setCell ⟨q, i * 8 + j, none⟩ v).heap[k]? = w.heap[k]? := fun i' k hk => key k (by rintro rfl; exact (h.tagG hk).two tg fun ty a b => by subst b; revert a; decide)
  have hat : ∀ (i' : Nat) (z : Cx), (C.set i y)[i']? = some z → ∃ z', C[i']? = some z' ∧ z.ch = z'.ch ∧ chS z = chS z' := by
    intro i' z hz
    rcases set_at hz with ⟨rfl, rfl⟩ | ⟨hn, hz⟩
    · exact ⟨x, hx, hc, hs⟩
    · exact ⟨z, hz, rfl, rfl⟩
  have hta : ∀ (i' : Nat) (z : Cx), C[i']? = some z → ∃ z', (C.set i y)[i']? = some z' ∧ z'.ch = z.ch := by
    intro i' z hz
    by_cases e : i' = i
    · subst e; rw [hx] at hz; cases hz
      exact ⟨y, by rw [List.getElem?_set_self hl], hc⟩
    · exact ⟨z, by rw [List.getElem?_set_ne (fun e9 => e e9.symm)]; exact hz, rfl⟩
  refine ⟨⟨h.tnb T2, ?_, row_keep h.rk fun k hk => nq k _ (tag_row h.rk hk) (by decide), ?_, row_keep h.ra fun k hk => nq k _ (tag_row h.ra hk) (by decide), h.lk, h.lc, h.la, fun i' z c h1 h2 => ?_, fun k hf => ⟨(h.fF k hf).1, (h.fF k hf).2.at (nF k hf)⟩, fun i' k hk => ?_, h.gg, h.fg⟩, T2⟩
  · rw [List.length_set]; exact h.tr.keep fun k _ hf => nF k hf
  · have rc := h.rc
    rw [hP] at rc
    have := (rc.stored (i * 8 + j) v).1
    rw [flat_set cE 8 cE_len v y C i x hx j hj he] at this
    rw [List.length_set, hP]; exact this
  · obtain ⟨z', e1, e2, e3⟩ := hat i' z h1
    rw [e3]
    exact (h.ch i' z' c e1 (e2.symm.trans h2)).keep fun k hk => nG i' k hk
  · obtain ⟨h1, z, c, h2, h3⟩ := h.fG i' k hk
    obtain ⟨z', e1, e2⟩ := hta i' z h2
    exact ⟨h1, z', c, e1, e2.trans h3⟩
/-- A call on a context's channel. -/
theorem CY.chan {c : Nat} (h : CY W t p T K C A F G o w) (hx : C[i]? = some x) (hc : x.ch = some c) (he : cE y = cE x) (hy : y.ch = x.ch) (g : Ch.Go (G i) c (chS y) w w') :
    ∃ G', CY W t p T K (C.set i y) A F G' o w' ∧ (∀ i k, G' i k → G i k ∨ w.heap.size ≤ k) ∧ Tn (ow F G o) w w' := by
  have hl := (List.getElem?_eq_some_iff.1 hx).1
  obtain ⟨F', hch, hsub, tn⟩ := g
  have T2 : Tn (ow F G o) w w' := (tn_ch tn).mono fun b hb => .inl (.g hb)
  have nG : ∀ k, k < w.heap.size → ¬ G i k → w'.heap[k]? = w.heap[k]? := fun k hk hn => tn.block k hk hn
  have nq : ∀ k ty, Tg (· = ty) w k → ty ≠ 128 ∧ ty ≠ 186 ∧ ty ≠ 3 ∧ ty ≠ 161 → w'.heap[k]? = w.heap[k]? := fun k ty hk n => nG k hk.lt fun hg => hk.two (h.tagG hg) fun a b c => by
    subst b; rcases c with c | c | c | c
    · exact n.1 c
    · exact n.2.1 c
    · exact n.2.2.1 c
    · exact n.2.2.2 c
  have hW := h.bel.size
  refine ⟨fun j => if j = i then F' else G j, ⟨h.tnb T2, ?_, row_keep h.rk fun k hk => nq k _ (tag_row h.rk hk) (by decide), ?_, row_keep h.ra fun k hk => nq k _ (tag_row h.ra hk) (by decide), h.lk, h.lc, h.la, fun i' z c' h1 h2 => ?_, fun k hf => ⟨(h.fF k hf).1, (h.fF k hf).2.at (nG k (h.fF k hf).2.lt (h.fg i k hf))⟩, fun i' k hk => ?_, fun a b k ha hb => ?_, fun i' k hf hk => ?_⟩, fun i' k hk => ?_, T2⟩
  · rw [List.length_set]; exact h.tr.keep fun k hk hf => nG k hk (h.fg i k hf)
  · rw [List.length_set, flat_same cE y C i x hx he]
    exact row_keep h.rc fun k hk => nq k _ (tag_row h.rc hk) (by decide)
  · rcases set_at h1 with ⟨rfl, rfl⟩ | ⟨hn, h1⟩
    · simp only [if_true]
      rw [hy, hc] at h2; cases h2
      exact hch
    · simp only [if_neg hn]
      exact (h.ch i' z c' h1 h2).keep fun k hk => nG k (h.lt (.g (o := o) (F := F) hk)) fun hg => hn (h.gg _ _ _ hk hg)
  · by_cases e : i' = i
    · subst e
      simp only [if_true] at hk
      refine ⟨?_, y, c, by rw [List.getElem?_set_self hl], hy.trans hc⟩
      rcases hsub k hk with h1 | h1
      · exact (h.fG _ k h1).1
      · omega
    · simp only [if_neg e] at hk
      obtain ⟨h1, z, c', h2, h3⟩ := h.fG i' k hk
      exact ⟨h1, z, c', by rw [List.getElem?_set_ne (fun e9 => e e9.symm)]; exact h2, h3⟩
  · have key : ∀ a, a ≠ i → G a k → F' k → False := fun a e h1 h2 => by
      rcases hsub k h2 with h3 | h3
      · exact e (h.gg _ _ _ h1 h3)
      · have := h.lt (.g (o := o) (F := F) h1); omega
    by_cases e : a = i
    · by_cases e2 : b = i
      · rw [e, e2]
      · simp only [if_pos e] at ha; simp only [if_neg e2] at hb
        exact (key b e2 hb ha).elim
    · by_cases e2 : b = i
      · simp only [if_neg e] at ha; simp only [if_pos e2] at hb
        exact (key a e ha hb).elim
      · simp only [if_neg e] at ha; simp only [if_neg e2] at hb
        exact h.gg _ _ _ ha hb
  · by_cases e : i' = i
    · simp only [if_pos e] at hk
      rcases hsub k hk with h1 | h1
      · exact h.fg _ k hf h1
      · have := (h.fF k hf).2.lt; omega
    · simp only [if_neg e] at hk; exact h.fg _ k hf hk
  · by_cases e : i' = i
    · subst e; simp only [if_true] at hk; exact hsub k hk
    · simp only [if_neg e] at hk; exact .inl hk
end

/-! Timers beside. -/
def IsTm (w : World) (j : Nat) : Prop := Tg (fun ty => ¬ OthZ ty) w j ∨ ∃ es cl, w.heap[j]? = some (.map es cl)
theorem SS.tm {W w w' : World} {t m n : Nat} {E : List On} {S : List It} {g : Int → Int} (h : SS W t E m n S g [] w) (hb : Below W.heap.size W w') (k : ∀ j, j < w.heap.size → IsTm w j → w'.heap[j]? = w.heap[j]?) : SS W t E m n S g [] w' := by
  obtain ⟨h0, P, c, h1, h2⟩ := h
  refine ⟨⟨hb, fun _ _ => False, fun i c s h => by simp at h, fun _ _ h => h.elim, fun _ _ _ h => h.elim⟩, P, c, h1.keep fun j hj hi => k j hj ?_, row_keep h2 fun j hj => k j (row_lt h2 hj).2 ?_⟩
  · rcases hi with ⟨cs, ty, fr, e, e2⟩ | ⟨es, cl, e⟩
    · exact .inl ⟨cs, ty, fr, e, by rcases e2 with rfl | rfl | rfl <;> decide⟩
    · exact .inr ⟨es, cl, e⟩
  · exact .inl ((tag_row h2 hj).imp fun ty e => by subst e; decide)
/-- The timers, if there are any. -/
def z0 : Int → Int := fun _ => 0
def TMs (W : World) (p : Option Nat) (E : List On) (n : Nat) (S : List It) (w : World) : Prop := match p with
  | none => E = [] ∧ S = [] ∧ n = 0
  | some ts => SS W ts E 0 n S z0 [] w ∧ (∀ x ∈ S, 0 ≤ x.id ∧ x.id < (E.length : Int)) ∧ ∀ x ∈ E, x.ch = none ∧ x.kd = 4
/-- All of it: the tree, what stands at its numbers, contexts, afters; the timers that were made, how many armings, who is armed, the periods. -/
structure St where
  T : TS
  K : List Kd
  C : List Cx
  A : List Af
  E : List On
  n : Nat
  S : List It
/-- Block t is contexts that are s; O are their blocks. -/
def FS (W : World) (t : Nat) (p : Option Nat) (s : St) (O : Nat → Prop) (w : World) : Prop := (∃ F G o, CY W t p s.T s.K s.C s.A F G o w ∧ ∀ k, O k ↔ ow F G o k) ∧ TMs W p s.E s.n s.S w
/-- No other block has turned. -/
def Fm (O : Nat → Prop) (w w' : World) : Prop := w.heap.size ≤ w'.heap.size ∧ ∀ (k : Nat) (cs : Array Value) (ty : TypeId) (fr : Nat × Nat), w.heap[k]? = some (.cells cs ty fr) → OthZ ty → ¬ O k → w'.heap[k]? = some (.cells cs ty fr)
/-- They have come to be s. -/
def GS (W : World) (t : Nat) (p : Option Nat) (s : St) (O : Nat → Prop) (w w' : World) : Prop := ∃ O', FS W t p s O' w' ∧ (∀ k, O' k → O k ∨ w.heap.size ≤ k) ∧ Fm O w w'
theorem tgo_oth {ty : TypeId} (h : TgO ty) : OthZ ty := by rcases h with h | h | h | h | h | h | h | h | h <;> subst h <;> decide
section
variable {W w w' w'' : World} {t : Nat} {p : Option Nat} {s s' s'' : St} {O O' : Nat → Prop} {k : Nat}
theorem Fm.refl (O : Nat → Prop) (w : World) : Fm O w w := ⟨Nat.le_refl _, fun _ _ _ _ h _ _ => h⟩
theorem Fm.of_below (h : Below w.heap.size w w') : Fm O w w' := ⟨h.size, fun k cs ty fr e _ _ => (h.block k (lt_of_blk e)).trans e⟩
theorem Fm.of_tn (h : Tn O w w') : Fm O w w' := ⟨h.size, fun k cs ty fr e _ hn => (h.block k (lt_of_blk e) hn).trans e⟩
theorem Fm.comp (h : Fm O w w') (g : Fm O' w' w'') (hs : ∀ k, O' k → O k ∨ w.heap.size ≤ k) : Fm O w w'' :=
  ⟨Nat.le_trans h.1 g.1, fun k cs ty fr e ho hn => g.2 k cs ty fr (h.2 k cs ty fr e ho hn) ho fun h1 => by
    rcases hs k h1 with h2 | h2
    · exact hn h2
    · have := lt_of_blk e; omega⟩
theorem FS.bel (h : FS W t p s O w) : Below W.heap.size W w := by obtain ⟨⟨F, G, o, y, _⟩, _⟩ := h; exact y.bel
theorem FS.tag (h : FS W t p s O w) (hk : O k) : Tg TgO w k := by obtain ⟨⟨F, G, o, y, e⟩, _⟩ := h; exact y.tag ((e k).1 hk)
theorem FS.low (h : FS W t p s O w) (hk : O k) : W.heap.size ≤ k := by obtain ⟨⟨F, G, o, y, e⟩, _⟩ := h; exact y.low ((e k).1 hk)
theorem FS.lt (h : FS W t p s O w) (hk : O k) : k < w.heap.size := (h.tag hk).lt
theorem FS.ht (h : FS W t p s O w) : O t := by obtain ⟨⟨F, G, o, y, e⟩, _⟩ := h; exact (e t).2 (.f y.ft)
theorem TMs.tm {E : List On} {n : Nat} {S : List It} (h : TMs W p E n S w) (hb : Below W.heap.size W w') (k : ∀ j, j < w.heap.size → IsTm w j → w'.heap[j]? = w.heap[j]?) : TMs W p E n S w' := by
  cases p with
  | none => exact h
  | some ts => exact ⟨SS.tm h.1 hb k, h.2⟩
theorem FS.later (h : FS W t p s O w) (b : Below w.heap.size w w') : FS W t p s O w' := by
  obtain ⟨⟨F, G, o, y, e⟩, m⟩ := h
  exact ⟨⟨F, G, o, y.later b, e⟩, m.tm (y.bel.trans (b.mono y.bel.size)) fun j hj _ => b.block j hj⟩
theorem FS.gs (h : FS W t p s O w) (b : Below w.heap.size w w') : GS W t p s O w w' := ⟨O, h.later b, fun k hk => .inl hk, Fm.of_below b⟩
theorem GS.comp (hs : ∀ k, O' k → O k ∨ w.heap.size ≤ k) (f : Fm O w w') (g : GS W t p s O' w' w'') : GS W t p s O w w'' := by
  obtain ⟨O2, h, h2, f2⟩ := g
  refine ⟨O2, h, fun k hk => ?_, f.comp f2 hs⟩
  rcases h2 k hk with h3 | h3
  · exact hs k h3
  · exact .inr (Nat.le_trans f.1 h3)
theorem GS.from (b : Below w.heap.size w w') (g : GS W t p s O w' w'') : GS W t p s O w w'' := GS.comp (fun k hk => .inl hk) (Fm.of_below b) g
theorem GS.then (g : GS W t p s O w w') (b : Below w'.heap.size w' w'') : GS W t p s O w w'' := by
  obtain ⟨O', h, hs, f⟩ := g
  exact ⟨O', h.later b, hs, f.comp (Fm.of_below (O := O) b) fun k hk => .inl hk⟩
/-- A change of contexts alone. -/
theorem FS.ctx {T : TS} {K : List Kd} {C : List Cx} {A : List Af} {F F' : Nat → Prop} {G G' : Nat → Nat → Prop} {o o' : Lo} (hy : CY W t p s.T s.K s.C s.A F G o w) (hO : ∀ k, O k ↔ ow F G o k) (m : TMs W p s.E s.n s.S w)
    (h : CY W t p T K C A F' G' o' w') (hs : ∀ k, ow F' G' o' k → O k ∨ w.heap.size ≤ k) (tn : Tn O w w') : GS W t p { s with T := T, K := K, C := C, A := A } O w w' := by
  refine ⟨ow F' G' o', ⟨⟨F', G', o', h, fun k => Iff.rfl⟩, m.tm h.bel fun j hj hi => tn.block j hj fun hk => ?_⟩, hs, Fm.of_tn tn⟩
  have := hy.tag ((hO j).1 hk)
  rcases hi with hi | ⟨es, cl, e⟩
  · exact this.two hi fun ty a b => b (tgo_oth a)
  · obtain ⟨cs, ty, fr, e2, _⟩ := this
    rw [e] at e2; cases e2
/-- A change of the timers alone. -/
theorem FS.tms {E : List On} {n : Nat} {S : List It} (h : FS W t p s O w) (m : TMs W p E n S w') (hb : Below W.heap.size W w') (oz : OZ w w') : GS W t p { s with E := E, n := n, S := S } O w w' := by
  obtain ⟨⟨F, G, o, y, e⟩, _⟩ := h
  refine ⟨O, ⟨⟨F, G, o, y.keep (fun k hk => ?_) hb, e⟩, m⟩, fun k hk => .inl hk, oz.1, fun k cs ty fr e ho _ => oz.2 k cs ty fr e ho⟩
  obtain ⟨cs, ty, fr, e1, e2⟩ := y.tag hk
  rw [e1]; exact oz.2 k cs ty fr e1 (tgo_oth e2)
end
end Go.Proofs.Ytdpapnfjpefhkaa
namespace Go.Proofs.Ytdpapnfjpefhkaa
open Go.RowKit Tr
set_option linter.unusedVariables false
set_option maxRecDepth 100000
section
variable {W w w' : World} {t i : Nat} {p : Option Nat} {s : St} {O : Nat → Prop} {x : Cx}
/-- Its cells, for a walk. -/
theorem FS.c3 (h : FS W t p s O w) : ∃ PC cC, w.cell? ⟨t, 3, none⟩ = some (.slice PC s.C.length cC) ∧ ∀ (i : Nat) (x : Cx), s.C[i]? = some x → ∃ q, PC = some ⟨q, 0, none⟩ ∧ q < w.heap.size ∧
    (w.cell? ⟨q, i * 8, none⟩ = some (.int .i64 x.nd) ∧ w.cell? ⟨q, i * 8 + 1, none⟩ = some (.pointer (cp x.ch)) ∧ w.cell? ⟨q, i * 8 + 2, none⟩ = some (.int .i64 x.er) ∧ w.cell? ⟨q, i * 8 + 3, none⟩ = some (.int .i64 x.cs) ∧ w.cell? ⟨q, i * 8 + 4, none⟩ = some (.int .i64 x.wh) ∧ w.cell? ⟨q, i * 8 + 5, none⟩ = some (.bool x.has) ∧ w.cell? ⟨q, i * 8 + 6, none⟩ = some (.bool x.own) ∧ w.cell? ⟨q, i * 8 + 7, none⟩ = some (.int .i64 x.lp)) := by
  obtain ⟨⟨F, G, o, y, _⟩, _⟩ := h
  refine ⟨_, _, y.cells.2.2.1, fun i x hx => ?_⟩
  obtain ⟨q, h1, h2, h3, _⟩ := y.cx hx
  exact ⟨q, h1, h2, h3⟩
theorem FS.tlt (h : FS W t p s O w) : t < w.heap.size := h.lt h.ht
theorem clen_nil (w : World) : Calls Try.prog 29 #[.pointer none] w fun e w' => e = .returned (.int .i64 0) ∧ w = w' := by
  go_enter Try.func29, Try.ntmps29
  go_wp2
  go_ret
  exact ⟨rfl, rfl⟩
theorem clen_any (h : FS W t p s O w) : Calls Try.prog 29 #[pS t] w fun e w' => e = .returned (.int .i64 (s.C.length : Int)) ∧ w = w' := by
  obtain ⟨PC, cC, h3, _⟩ := h.c3
  clear h
  go_enter Try.func29, Try.ntmps29
  go_wp2_with fail
  go_ret
  exact ⟨rfl, rfl⟩
theorem chas_yes (h : FS W t p s O w) (hi : i < s.C.length) : Calls Try.prog 36 #[pS t, .int .i64 (i : Int)] w fun e w' => e = .returned (.bool true) ∧ w = w' := by
  have b1 : (i : Int) < (s.C.length : Int) := by omega
  have b2 : (0 : Int) ≤ (i : Int) := by omega
  have HA := Lib.hid h
  clear h
  go_enter Try.func36, Try.ntmps36
  go_wp2_with fail
  refine (clen_any HA.out).mono ?_
  rintro e w' ⟨rfl, rfl⟩
  go_wp2_with fail
  go_ret
  exact ⟨rfl, rfl⟩
theorem chas_no {k : Int} (h : FS W t p s O w) (hk : k < 0 ∨ (s.C.length : Int) ≤ k) : Calls Try.prog 36 #[pS t, .int .i64 k] w fun e w' => e = .returned (.bool false) ∧ w = w' := by
  have HA := Lib.hid h
  clear h
  by_cases c1 : k < 0
  · have c2 : ¬ 0 ≤ k := by omega
    clear hk
    go_enter Try.func36, Try.ntmps36
    go_wp2_with fail
    go_ret
    exact ⟨rfl, rfl⟩
  · have c2 : 0 ≤ k := by omega
    have c3 : ¬ k < (s.C.length : Int) := by omega
    clear hk c1
    go_enter Try.func36, Try.ntmps36
    go_wp2_with fail
    refine (clen_any HA.out).mono ?_
    rintro e w' ⟨rfl, rfl⟩
    go_wp2_with fail
    go_ret
    exact ⟨ret_bool (decide_eq_false (by omega)), rfl⟩
theorem chas_nil (k : Int) (w : World) : Calls Try.prog 36 #[.pointer none, .int .i64 k] w fun e w' => e = .returned (.bool false) ∧ w = w' := by
  by_cases c1 : 0 ≤ k
  · have c3 : ¬ k < 0 := by omega
    go_enter Try.func36, Try.ntmps36
    go_wp2_with fail
    refine (clen_nil w).mono ?_
    rintro e w' ⟨rfl, rfl⟩
    go_wp2_with fail
    go_ret
    exact ⟨ret_bool (decide_eq_false (by omega)), rfl⟩
  · go_enter Try.func36, Try.ntmps36
    go_wp2_with fail
    go_ret
    exact ⟨rfl, rfl⟩
theorem over_any (h : FS W t p s O w) (hx : s.C[i]? = some x) : Calls Try.prog 39 #[pS t, .int .i64 (i : Int)] w fun e w' => e = .returned (.bool (x.er != 0)) ∧ w = w' := by
  have hi := (List.getElem?_eq_some_iff.1 hx).1
  have b1 : (i : Int) < (s.C.length : Int) := by omega
  have b2 : (0 : Int) ≤ (i : Int) := by omega
  obtain ⟨PC, cC, h3, hr⟩ := h.c3
  obtain ⟨q, rfl, hq, x0, x1, x2, x3, x4, x5, x6, x7⟩ := hr i x hx
  have ht := h.tlt
  clear h hr x0 x1 x3 x4 x5 x6 x7 hx
  go_enter Try.func39, Try.ntmps39
  go_wp2_with fail
  go_ret
  exact ⟨rfl, rfl⟩
abbrev cG (x : Cx) : Value := .agg #[.int .i64 x.nd, .pointer (cp x.ch), .int .i64 x.er, .int .i64 x.cs, .int .i64 x.wh, .bool x.has, .bool x.own, .int .i64 x.lp]
def zC : Cx := ⟨0, none, false, [], 0, 0, 0, false, false, 0⟩
def GtC (x : Cx) (r : Int) (w : World) (e : Ending) (w' : World) : Prop := e = .returned (.tuple #[cG x, .int .i64 r]) ∧ Below w.heap.size w w'
set_option maxHeartbeats 4000000 in
theorem cget_yes (h : FS W t p s O w) (hx : s.C[i]? = some x) : Calls Try.prog 38 #[pS t, .int .i64 (i : Int)] w (GtC x 0 w) := by
  have hi := (List.getElem?_eq_some_iff.1 hx).1
  have b1 : (i : Int) < (s.C.length : Int) := by omega
  have b2 : (0 : Int) ≤ (i : Int) := by omega
  obtain ⟨PC, cC, h3, hr⟩ := h.c3
  obtain ⟨q, rfl, hq, x0, x1, x2, x3, x4, x5, x6, x7⟩ := hr i x hx
  have ht := h.tlt
  have HA := Lib.hid h
  clear h hr hx
  go_enter Try.func38, Try.ntmps38
  go_wp2_with fail
  refine (chas_yes (HA.out.later (below_al _ _)) hi).mono ?_
  rintro e w' ⟨rfl, rfl⟩
  go_wp2_with fail
  refine bodyPost_ret (v := .tuple #[cG x, .int .i64 0]) ?_ rfl ⟨rfl, ?_⟩
  · rw [results_cell_tmp rfl]; go_simp; try rfl
  · first | exact below_al _ _ | (repeat' (first | exact below_al _ _ | refine Below.alloc ?_ (by omega) _))
set_option maxHeartbeats 4000000 in
theorem cget_no {k : Int} (h : FS W t p s O w) (hk : k < 0 ∨ (s.C.length : Int) ≤ k) : Calls Try.prog 38 #[pS t, .int .i64 k] w (GtC zC 4 w) := by
  have HA := Lib.hid h
  clear h
  go_enter Try.func38, Try.ntmps38
  go_wp2_with fail
  refine (chas_no (HA.out.later (below_al _ _)) hk).mono ?_
  rintro e w' ⟨rfl, rfl⟩
  go_wp2_with fail
  refine bodyPost_ret (v := .tuple #[cG zC, .int .i64 4]) ?_ rfl ⟨rfl, ?_⟩
  · rw [results_cell_tmp rfl]; go_simp; simp [zC]
  · first | exact below_al _ _ | (repeat' (first | exact below_al _ _ | refine Below.alloc ?_ (by omega) _))
/-- What is told of a number: of a context, or of none. -/
def cA (s : St) (k : Int) : Cx × Int := if k < 0 then (zC, 4) else match s.C[k.toNat]? with
  | some x => (x, 0)
  | none => (zC, 4)
theorem cA_at (hx : s.C[i]? = some x) : cA s i = (x, 0) := by
  unfold cA
  rw [if_neg (by omega), Int.toNat_natCast, hx]
theorem cA_no {k : Int} (hk : k < 0 ∨ (s.C.length : Int) ≤ k) : cA s k = (zC, 4) := by
  unfold cA
  split
  · rfl
  · rw [List.getElem?_eq_none (by omega)]
theorem cget_any (k : Int) (h : FS W t p s O w) : Calls Try.prog 38 #[pS t, .int .i64 k] w (GtC (cA s k).1 (cA s k).2 w) := by
  by_cases hk : k < 0 ∨ (s.C.length : Int) ≤ k
  · rw [cA_no hk]; exact cget_no h hk
  · have hi : k.toNat < s.C.length := by omega
    have hx : s.C[k.toNat]? = some s.C[k.toNat] := List.getElem?_eq_getElem hi
    have ek : k = (k.toNat : Int) := by omega
    rw [ek, cA_at hx]
    exact cget_yes h hx
/-- What a reading call tells. -/
def RdC (v : Value) (w : World) (e : Ending) (w' : World) : Prop := e = .returned v ∧ Below w.heap.size w w'
theorem cerr_any (k : Int) (h : FS W t p s O w) : Calls Try.prog 17 #[pS t, .int .i64 k] w (RdC (.tuple #[.int .i64 (cA s k).1.er, .int .i64 (cA s k).2]) w) := by
  have H := Lib.hid (cget_any k h)
  clear h
  generalize (cA s k).1 = x at *
  generalize (cA s k).2 = r at *
  go_enter Try.func17, Try.ntmps17
  go_wp2_with fail
  refine H.out.mono ?_
  rintro e w1 ⟨rfl, hb⟩
  have HB := Lib.hid hb
  clear hb H
  go_wp2_with fail
  go_ret2
  exact ⟨rfl, HB.out.alloc HB.out.size _⟩
theorem ccause_any (k : Int) (h : FS W t p s O w) : Calls Try.prog 18 #[pS t, .int .i64 k] w (RdC (.tuple #[.int .i64 (cA s k).1.cs, .int .i64 (cA s k).2]) w) := by
  have H := Lib.hid (cget_any k h)
  clear h
  generalize (cA s k).1 = x at *
  generalize (cA s k).2 = r at *
  go_enter Try.func18, Try.ntmps18
  go_wp2_with fail
  refine H.out.mono ?_
  rintro e w1 ⟨rfl, hb⟩
  have HB := Lib.hid hb
  clear hb H
  go_wp2_with fail
  go_ret2
  exact ⟨rfl, HB.out.alloc HB.out.size _⟩
theorem cdone_any (k : Int) (h : FS W t p s O w) : Calls Try.prog 25 #[pS t, .int .i64 k] w (RdC (.tuple #[.pointer (cp (cA s k).1.ch), .int .i64 (cA s k).2]) w) := by
  have H := Lib.hid (cget_any k h)
  clear h
  generalize (cA s k).1 = x at *
  generalize (cA s k).2 = r at *
  go_enter Try.func25, Try.ntmps25
  go_wp2_with fail
  refine H.out.mono ?_
  rintro e w1 ⟨rfl, hb⟩
  have HB := Lib.hid hb
  clear hb H
  go_wp2_with fail
  go_ret2
  exact ⟨rfl, HB.out.alloc HB.out.size _⟩
theorem cuntil_any (k : Int) (h : FS W t p s O w) : Calls Try.prog 20 #[pS t, .int .i64 k] w (RdC (.tuple #[.int .i64 (cA s k).1.wh, .bool (cA s k).1.has, .int .i64 (cA s k).2]) w) := by
  have H := Lib.hid (cget_any k h)
  clear h
  generalize (cA s k).1 = x at *
  generalize (cA s k).2 = r at *
  go_enter Try.func20, Try.ntmps20
  go_wp2_with fail
  refine H.out.mono ?_
  rintro e w1 ⟨rfl, hb⟩
  have HB := Lib.hid hb
  clear hb H
  go_wp2_with fail
  go_quiet (fail)
  go_wp2_with fail
  go_ret3
  exact ⟨rfl, (HB.out.alloc HB.out.size _).trans ((below_drewN _ _).mono (by have := HB.out.size; simp; omega))⟩
/-- Why there can't be one more of a parent. -/
def rfs (s : St) (k : Int) : Int := if k < 0 ∨ (s.C.length : Int) ≤ k then 4 else if s.C.length = 64 then 3 else 0
theorem refusal_any (k : Int) (h : FS W t p s O w) : Calls Try.prog 33 #[pS t, .int .i64 k] w fun e w' => e = .returned (.int .i64 (rfs s k)) ∧ w = w' := by
  have HA := Lib.hid h
  unfold rfs
  by_cases hk : k < 0 ∨ (s.C.length : Int) ≤ k
  · rw [if_pos hk]
    have H := Lib.hid (chas_no h hk)
    clear h hk
    go_enter Try.func33, Try.ntmps33
    go_wp2_with fail
    refine H.out.mono ?_
    rintro e w' ⟨rfl, rfl⟩
    go_wp2_with fail
    go_ret
    exact ⟨rfl, rfl⟩
  · rw [if_neg hk]
    have hi : k.toNat < s.C.length := by omega
    have ek : k = (k.toNat : Int) := by omega
    generalize k.toNat = i at *
    subst ek
    have H := Lib.hid (chas_yes h hi)
    have H2 := Lib.hid (clen_any h)
    clear h hk
    by_cases c : s.C.length = 64
    · rw [if_pos c]
      rw [c] at H2
      clear hi
      go_enter Try.func33, Try.ntmps33
      go_wp2_with fail
      refine H.out.mono ?_
      rintro e w' ⟨rfl, rfl⟩
      go_wp2_with fail
      refine H2.out.mono ?_
      rintro e w' ⟨rfl, rfl⟩
      go_wp2_with fail
      go_ret
      exact ⟨rfl, rfl⟩
    · rw [if_neg c]
      have c2 : ((s.C.length : Int) == 64) = false := beq_eq_false_iff_ne.2 (by omega)
      clear hi
      go_enter Try.func33, Try.ntmps33
      go_wp2_with fail
      refine H.out.mono ?_
      rintro e w' ⟨rfl, rfl⟩
      go_wp2_with fail
      refine H2.out.mono ?_
      rintro e w' ⟨rfl, rfl⟩
      go_wp2_with fail
      go_ret
      exact ⟨rfl, rfl⟩
theorem refusal_nil (k : Int) (w : World) : Calls Try.prog 33 #[.pointer none, .int .i64 k] w fun e w' => e = .returned (.int .i64 4) ∧ w = w' := by
  go_enter Try.func33, Try.ntmps33
  go_wp2_with fail
  refine (chas_nil k w).mono ?_
  rintro e w' ⟨rfl, rfl⟩
  go_wp2_with fail
  go_ret
  exact ⟨rfl, rfl⟩
end
end Go.Proofs.Ytdpapnfjpefhkaa
namespace Go.Proofs.Ytdpapnfjpefhkaa.Tr
open Go.RowKit
set_option linter.unusedVariables false
set_option maxRecDepth 100000

theorem add_nil (w : World) (p : Int) (l : Bool) : Calls Try.prog 59 #[.pointer none, .int .i64 p, .bool l] w fun e w' => e = .returned (.tuple #[.int .i64 0, .int .i64 1]) ∧ w = w' := by
  go_enter Try.func59, Try.ntmps59
  go_wp2_with fail
  go_ret2
  exact ⟨rfl, rfl⟩
/-- The nodes' row behind an append, a new node with no kids. -/
theorem TX.pushed {V : Nat → Value} {F : Nat → Prop} {B t c : Nat} {w wx w1 : World} {P : Option Addr} {D : List Nd} (h : TX F B V w t P c D) (hx : Below w.heap.size w wx)
    (hg : wx.grownBy w1 (Value.slice P D.length c).ownBlock) : w1.cell? ⟨t, 1, none⟩ = some (.slice P D.length c) ∧ w1.frozen? ⟨t, 1, none⟩ = false := by
  have e := (Tn.grown hx hg).block t h.lt (by rw [own_blk]; exact h.neP)
  exact ⟨(cell_blk e 1).trans h.c0, (World.frozen?_of_block (a := ⟨t, 1, none⟩) e).trans (h.f0 1)⟩
theorem heap_alloc_set (w : World) (a : Addr) (u : Value) (o : Obj) : ((w.setCell a u).alloc o).heap[w.heap.size]? = some o := by
  have := heap_alloc_new (w.setCell a u) o
  rw [size_set] at this
  exact this
def AddR (F : Nat → Prop) (B : Nat) (V : Nat → Value) (t : Nat) (S S' : TS) (w : World) (e : Ending) (w' : World) : Prop := e = .returned (.tuple #[.int .i64 (S.length : Int), .int .i64 0]) ∧ Go F B V t S' w w'
section
variable {V : Nat → Value} {F : Nat → Prop} {B t : Nat} {S : TS}
theorem add_arg (w : World) (h : TR F B V S w t) (p : Int) (l : Bool) (hp : p < -1 ∨ (S.length : Int) ≤ p) : Calls Try.prog 59 #[.pointer (some ⟨t, 1, none⟩), .int .i64 p, .bool l] w fun e w' => e = .returned (.tuple #[.int .i64 0, .int .i64 1]) ∧ w = w' := by
  have b1 : (p == -1) = false := beq_eq_false_iff_ne.2 (by omega)
  have b2 : ¬ p = -1 := by omega
  have H := Lib.hid (has_no w h p (by omega))
  clear hp h
  go_enter Try.func59, Try.ntmps59
  go_wp2_with fail
  refine H.out.mono ?_
  rintro e w' ⟨rfl, rfl⟩
  go_wp2_with fail
  go_ret2
  exact ⟨rfl, rfl⟩
theorem add_full (w : World) (h : TR F B V S w t) (hn : S.length = 1000) (p : Int) (l : Bool) (hp : p = -1 ∨ 0 ≤ p ∧ p < (S.length : Int)) : Calls Try.prog 59 #[.pointer (some ⟨t, 1, none⟩), .int .i64 p, .bool l] w fun e w' => e = .returned (.tuple #[.int .i64 0, .int .i64 3]) ∧ w = w' := by
  obtain ⟨P, c, D, x, o⟩ := h.ex
  have h0 := x.c0
  rw [o.1, hn] at h0
  clear x o
  by_cases b2 : p = -1
  · subst b2
    clear hp h hn
    go_enter Try.func59, Try.ntmps59
    go_wp2_with fail
    go_ret2
    exact ⟨rfl, rfl⟩
  · obtain ⟨i, rfl⟩ : ∃ i : Nat, p = (i : Int) := Int.eq_ofNat_of_zero_le (by omega)
    have b1 : ((i : Int) == -1) = false := beq_eq_false_iff_ne.2 (by omega)
    have H := Lib.hid (has_yes w h i (by omega))
    clear hp h hn
    go_enter Try.func59, Try.ntmps59
    go_wp2_with fail
    refine H.out.mono ?_
    rintro e w' ⟨rfl, rfl⟩
    go_wp2_with fail
    go_ret2
    exact ⟨rfl, rfl⟩
/-- One that hangs nowhere: of none. -/
theorem add_root (w : World) (h : TR F 0 V S w t) (hn : S.length < 1000) (l : Bool) : Calls Try.prog 59 #[.pointer (some ⟨t, 1, none⟩), .int .i64 (-1), .bool l] w (AddR F 0 V t S (S ++ [(-1, false)]) w) := by
  obtain ⟨P, c, D, x, o⟩ := h.ex
  obtain ⟨i0, hi, hz0, hz1, hz2⟩ := info_parts inf57
  have hl := o.1
  have h0 := x.c0
  have hfa := x.f0 1
  have HX := Lib.hid x
  have HT := Lib.hid h
  have HO := Lib.hid o
  have b3 : ((D.length : Int) == 1000) = false := beq_eq_false_iff_ne.2 (by omega)
  have HB := Lib.hid (below_al w (.cells #[.int .i64 (-1), .bool false, .slice none 0 0] 157))
  have hb : D.length ≤ 1000 := by omega
  have HL := Lib.hid hl
  clear x h o hl
  have key : ∀ g cap w1, (w.alloc (.cells #[.int .i64 (-1), .bool false, .slice none 0 0] 157)).grownBy w1 (Value.slice P D.length c).ownBlock → w1.ownsRow 0 157 3 (.slice (some ⟨g, 0, none⟩) (D.length + 1) cap) (D.length + 1) (D.flatMap nV ++ [.int .i64 (-1), .bool false, .slice none 0 0]) → ((Value.slice P D.length c).ownBlock = some g ∨ g = w.heap.size + 1) →
      AddR F 0 V t S (S ++ [(-1, false)]) w (.returned (.tuple #[.int .i64 (D.length : Int), .int .i64 0])) (w1.setCell ⟨t, 1, none⟩ (.slice (some ⟨g, 0, none⟩) (D.length + 1) cap)) := by
    intro g cap w1 hg ho hat
    have hp := HX.out.push (-1) false HB.out ho hg (hat.imp id (by omega))
    refine ⟨by rw [HL.out], ⟨HT.out.wf.push (by omega) (by omega) (by simp), by simp; omega, _, _, _, hp.1, HO.out.lone HT.out.wf (-1) false (by simp)⟩, hp.2⟩
  have KEY := Lib.hid key
  clear key
  cases l <;>
    (go_enter Try.func59, Try.ntmps59
     go_wp2_with (at_builtin; go_loud (refine wpList_append_lies _ rfl (.tmp 44) (.tmp 48) 82 rfl 0 157 i0 _ 3 40 Try.underlying82 hi hz0 hz1 hz2 rfl (by omega) (.slice P D.length c) D.length (D.flatMap nV) rfl (row_later HX.out.own HB.out) ⟨w.heap.size, 0, none⟩ 1 1 [.int .i64 (-1), .bool false, .slice none 0 0] rfl rfl (World.news_of_block (cs := #[.int .i64 (-1), .bool false, .slice none 0 0]) (heap_alloc_new w _)) (nd_cell _ _) (by omega) (by unfold maxLen; omega) (by omega) (by omega) (w.heap.size + 1) (by first | (simp; done) | (simp; rfl)) ?_; intro g cap w1 hown hgrow hat hlt1; have HE := Lib.hid (KEY.out g cap w1 hgrow hown hat); have hc1 := (HX.out.pushed HB.out hgrow).1; have hf1 := (HX.out.pushed HB.out hgrow).2; clear hown hgrow hat hlt1 h0 hfa))
     go_wp2_with fail
     go_ret2
     exact HE.out)
/-- One that was named one, and does not hang there. -/
theorem add_off (w : World) (h : TR F 0 V S w t) (hn : S.length < 1000) (i : Nat) (hin : i < S.length) : Calls Try.prog 59 #[.pointer (some ⟨t, 1, none⟩), .int .i64 (i : Int), .bool false] w (AddR F 0 V t S (S ++ [((i : Int), false)]) w) := by
  obtain ⟨P, c, D, x, o⟩ := h.ex
  obtain ⟨i0, hi, hz0, hz1, hz2⟩ := info_parts inf57
  have hl := o.1
  have h0 := x.c0
  have hfa := x.f0 1
  have HX := Lib.hid x
  have HT := Lib.hid h
  have HO := Lib.hid o
  have b1 : ((i : Int) == -1) = false := beq_eq_false_iff_ne.2 (by omega)
  have b1n : ((i : Int) != -1) = true := bne_iff_ne.2 (by omega)
  have H := Lib.hid (has_yes w h i hin)
  have b3 : ((D.length : Int) == 1000) = false := beq_eq_false_iff_ne.2 (by omega)
  have HB := Lib.hid (below_al w (.cells #[.int .i64 (i : Int), .bool false, .slice none 0 0] 157))
  have hb : D.length ≤ 1000 := by omega
  have HL := Lib.hid hl
  clear x h o hl
  have key : ∀ g cap w1, (w.alloc (.cells #[.int .i64 (i : Int), .bool false, .slice none 0 0] 157)).grownBy w1 (Value.slice P D.length c).ownBlock → w1.ownsRow 0 157 3 (.slice (some ⟨g, 0, none⟩) (D.length + 1) cap) (D.length + 1) (D.flatMap nV ++ [.int .i64 (i : Int), .bool false, .slice none 0 0]) → ((Value.slice P D.length c).ownBlock = some g ∨ g = w.heap.size + 1) →
      AddR F 0 V t S (S ++ [((i : Int), false)]) w (.returned (.tuple #[.int .i64 (D.length : Int), .int .i64 0])) (w1.setCell ⟨t, 1, none⟩ (.slice (some ⟨g, 0, none⟩) (D.length + 1) cap)) := by
    intro g cap w1 hg ho hat
    have hp := HX.out.push (i : Int) false HB.out ho hg (hat.imp id (by omega))
    refine ⟨by rw [HL.out], ⟨HT.out.wf.push (by omega) (by omega) (by simp), by simp; omega, _, _, _, hp.1, HO.out.lone HT.out.wf (i : Int) false (by simp)⟩, hp.2⟩
  have KEY := Lib.hid key
  clear key
  go_enter Try.func59, Try.ntmps59
  go_wp2_with fail
  refine H.out.mono ?_
  rintro e w' ⟨rfl, rfl⟩
  go_wp2_with (at_builtin; go_loud (refine wpList_append_lies _ rfl (.tmp 44) (.tmp 48) 82 rfl 0 157 i0 _ 3 40 Try.underlying82 hi hz0 hz1 hz2 rfl (by omega) (.slice P D.length c) D.length (D.flatMap nV) rfl (row_later HX.out.own HB.out) ⟨w.heap.size, 0, none⟩ 1 1 [.int .i64 (i : Int), .bool false, .slice none 0 0] rfl rfl (World.news_of_block (cs := #[.int .i64 (i : Int), .bool false, .slice none 0 0]) (heap_alloc_new w _)) (nd_cell _ _) (by omega) (by unfold maxLen; omega) (by omega) (by omega) (w.heap.size + 1) (by first | (simp; done) | (simp; rfl)) ?_; intro g cap w1 hown hgrow hat hlt1; have HE := Lib.hid (KEY.out g cap w1 hgrow hown hat); have hc1 := (HX.out.pushed HB.out hgrow).1; have hf1 := (HX.out.pushed HB.out hgrow).2; clear hown hgrow hat hlt1 h0 hfa))
  go_wp2_with fail
  go_ret2
  exact HE.out
/-- The tree behind the first append, ahead of the second. -/
structure Mid (F : Nat → Prop) (V : Nat → Value) (t : Nat) (S : TS) (i : Nat) (W : World) (q c : Nat) (D : List Nd) (d : Nd) (w : World) : Prop where
  tx : TX (okN F W.heap.size) 0 V w t (some ⟨q, 0, none⟩) c (D ++ [⟨(i : Int), true, [], none, 0⟩])
  tn : Tn F W w
  at' : (D ++ ([⟨(i : Int), true, [], none, 0⟩] : List Nd))[i]? = some d
  wf : WF S
  o : Of S D
  hd : D[i]? = some d
  hi : i < S.length
  le : S.length < 1000
theorem Mid.done {W w wx w1 : World} {i q c g cap : Nat} {D : List Nd} {d : Nd} (m : Mid F V t S i W q c D d w) (hx : Below w.heap.size w wx) (ho : w1.ownsRow 0 3 1 (.slice (some ⟨g, 0, none⟩) (d.ks.length + 1) cap) (d.ks.length + 1) (iV d.ks ++ [.int .i64 (D.length : Int)])) (hg : wx.grownBy w1 (Value.slice d.P d.ks.length d.c).ownBlock) (hat : (Value.slice d.P d.ks.length d.c).ownBlock = some g ∨ w.heap.size ≤ g) :
    AddR F 0 V t S (S ++ [((i : Int), true)]) W (.returned (.tuple #[.int .i64 (D.length : Int), .int .i64 0])) (w1.setCell ⟨q, i * 3 + 2, none⟩ (.slice (some ⟨g, 0, none⟩) (d.ks.length + 1) cap)) := by
  rw [own_blk] at hg hat
  rw [m.o.1] at ho ⊢
  have ho' : Rw 0 w1 (some ⟨g, 0, none⟩) cap (d.ks ++ [(S.length : Int)]) := by
    unfold Rw
    rw [show (d.ks ++ [(S.length : Int)]).length = d.ks.length + 1 from by simp, iV_app]
    exact ho
  have h1 := m.tx.kidTo m.at' rfl (Tn.grown hx hg) ho' hat
  rw [show (d.ks ++ [(S.length : Int)]).length = d.ks.length + 1 from by simp] at h1
  refine ⟨rfl, ⟨m.wf.push (by omega) (by have := m.hi; omega) (by omega), by have := m.le; simp; omega, _, _, _, h1.1.mono ?_, m.o.hung m.wf i m.hi m.hd _ _⟩, ?_⟩
  · rintro k _ ((hk | hk) | hk)
    · exact .inl hk
    · exact .inr hk
    · exact .inr (Nat.le_trans m.tn.size hk)
  · exact m.tn.comp h1.2 fun b hb => hb
theorem Mid.cells {W w wx w1 : World} {i q c : Nat} {D : List Nd} {d : Nd} (m : Mid F V t S i W q c D d w) (hx : Below w.heap.size w wx) (hg : wx.grownBy w1 (Value.slice d.P d.ks.length d.c).ownBlock) :
    w1.cell? ⟨q, i * 3 + 2, none⟩ = some (.slice d.P d.ks.length d.c) ∧ w1.frozen? ⟨q, i * 3 + 2, none⟩ = false := by
  rw [own_blk] at hg
  have e := (Tn.grown hx hg).block q (row_lt m.tx.own rfl).2 fun e => m.tx.nePK m.at' (k := q) rfl e
  exact ⟨(cell_blk e _).trans (m.tx.cells rfl m.at').2.2, (World.frozen?_of_block (a := ⟨q, i * 3 + 2, none⟩) e).trans (m.tx.fz rfl _)⟩
theorem add_hung (w : World) (h : TR F 0 V S w t) (hn : S.length < 1000) (i : Nat) (hin : i < S.length) : Calls Try.prog 59 #[.pointer (some ⟨t, 1, none⟩), .int .i64 (i : Int), .bool true] w (AddR F 0 V t S (S ++ [((i : Int), true)]) w) := by
  obtain ⟨P, c, D, x, o⟩ := h.ex
  obtain ⟨i0, hi, hz0, hz1, hz2⟩ := info_parts inf57
  obtain ⟨i3, hi3, hy0, hy1, hy2⟩ := info_parts inf3
  have hl := o.1
  have h0 := x.c0
  have hfa := x.f0 1
  have HX := Lib.hid x
  have HT := Lib.hid h
  have HO := Lib.hid o
  have b1 : ((i : Int) == -1) = false := beq_eq_false_iff_ne.2 (by omega)
  have b1n : ((i : Int) != -1) = true := bne_iff_ne.2 (by omega)
  have H := Lib.hid (has_yes w h i hin)
  have b3 : ((D.length : Int) == 1000) = false := beq_eq_false_iff_ne.2 (by omega)
  have HB := Lib.hid (below_al w (.cells #[.int .i64 (i : Int), .bool true, .slice none 0 0] 157))
  have hb : D.length ≤ 1000 := by omega
  have c1 : (i : Int) < (D.length : Int) + 1 := by omega
  have c4 : i < D.length := by omega
  have c2 : (0 : Int) ≤ (i : Int) := by omega
  have c3 : i < D.length + 1 := by omega
  obtain ⟨d, hd, hsd, hks⟩ := o.one hin
  have hkl : d.ks.length ≤ 1000 := by
    rw [hks, nz_len]
    have := once_len S.length (kids S i) ((kids_rise S i).imp fun h => by omega) (fun x hx => (kids_lt hx).2)
    omega
  have HD := Lib.hid hd
  have HL := Lib.hid hl
  clear x h o hl hd hks hsd
  have key : ∀ g cap w1, (w.alloc (.cells #[.int .i64 (i : Int), .bool true, .slice none 0 0] 157)).grownBy w1 (Value.slice P D.length c).ownBlock → w1.ownsRow 0 157 3 (.slice (some ⟨g, 0, none⟩) (D.length + 1) cap) (D.length + 1) (D.flatMap nV ++ [.int .i64 (i : Int), .bool true, .slice none 0 0]) → ((Value.slice P D.length c).ownBlock = some g ∨ g = w.heap.size + 1) →
      Mid F V t S i w g cap D d (w1.setCell ⟨t, 1, none⟩ (.slice (some ⟨g, 0, none⟩) (D.length + 1) cap)) := by
    intro g cap w1 hg ho hat
    have hp := HX.out.push (i : Int) true HB.out ho hg (hat.imp id (by omega))
    exact ⟨hp.1, hp.2, by rw [List.getElem?_append_left c4]; exact HD.out, HT.out.wf, HO.out, HD.out, hin, hn⟩
  have KEY := Lib.hid key
  clear key
  go_enter Try.func59, Try.ntmps59
  go_wp2_with fail
  refine H.out.mono ?_
  rintro e w' ⟨rfl, rfl⟩
  go_wp2_with (at_builtin; first | (refine wpList_append_lies _ rfl (.tmp 44) (.tmp 48) 82 rfl 0 157 i0 _ 3 40 Try.underlying82 hi hz0 hz1 hz2 rfl (by omega) (.slice P D.length c) D.length (D.flatMap nV) rfl (row_later HX.out.own HB.out) ⟨w.heap.size, 0, none⟩ 1 1 [.int .i64 (i : Int), .bool true, .slice none 0 0] rfl rfl (World.news_of_block (cs := #[.int .i64 (i : Int), .bool true, .slice none 0 0]) (heap_alloc_new w _)) (nd_cell _ _) (by omega) (by unfold maxLen; omega) (by omega) (by omega) (w.heap.size + 1) (by first | (simp; done) | (simp; rfl)) ?_; intro g cap w1 hown hgrow hat hlt1; have HM := Lib.hid (KEY.out g cap w1 hgrow hown hat); have hc1 := (HX.out.pushed HB.out hgrow).1; have hf1 := (HX.out.pushed HB.out hgrow).2; have hs1 := HM.out.tx.c0; have hk1 := (HM.out.tx.cells rfl HM.out.at').2.2; clear hown hgrow hat hlt1 h0 hfa) | go_loud (refine wpList_append_lies _ rfl (.tmp 63) (.tmp 65) 22 rfl 0 3 i3 _ 1 8 Try.underlying22 hi3 hy0 hy1 hy2 rfl (by omega) (.slice d.P d.ks.length d.c) d.ks.length (iV d.ks) rfl (row_later (HM.out.tx.kid i d HM.out.at') (below_al _ _)) ⟨w1.heap.size, 0, none⟩ 1 1 [.int .i64 (D.length : Int)] rfl rfl (World.news_of_block (cs := #[.int .i64 (D.length : Int)]) (heap_alloc_set _ _ _ _)) (int_cell _) (by omega) (by unfold maxLen; omega) (by omega) (by omega) (w1.heap.size + 1) (by first | (simp; done) | (simp [size_set]; done)) ?_; intro g2 cap2 w2 hown hgrow hat hlt1; have HE := Lib.hid (HM.out.done (below_al _ _) hown hgrow (hat.imp id (fun e => by rw [size_set]; omega))); have hc2 := (HM.out.cells (below_al _ _) hgrow).1; have hf2 := (HM.out.cells (below_al _ _) hgrow).2; clear hown hgrow hat hlt1 hs1 hk1 hc1 hf1))
  go_wp2_with fail
  go_ret2
  exact HE.out
end
end Go.Proofs.Ytdpapnfjpefhkaa.Tr
