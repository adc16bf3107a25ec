/- What a law knows: a table of its own and rows of its own, apart; what each call makes of it. No condition. -/
import Derived.Test.YthiifnbgdajgaaaDoorTStart
namespace Go.Proofs.YthiifnbgdajgaaaDoor
open Go.RowKit
set_option linter.unusedVariables false
set_option maxRecDepth 100000

/-- A row of numbers of one's own. -/
abbrev Rw (B : Nat) (w : World) (P : Option Addr) (c : Nat) (l : List Int) : Prop := w.ownsRow B 3 1 (.slice P l.length c) l.length (iV l)
theorem Tn.grown {w wx w1 : World} {o : Option Nat} (hx : Below w.heap.size w wx) (hg : wx.grownBy w1 o) : Tn (fun k => o = some k) w w1 :=
  ⟨hg.os.trans hx.os, hg.tape.trans hx.tape, hg.output.trans hx.output, Nat.le_trans hx.size hg.size, fun k hk hn => (hg.block k (by have := hx.size; omega) (fun e => hn e.symm)).trans (hx.block k hk)⟩
theorem set_at {α : Type} {l : List α} {i j : Nat} {y x : α} (h : (l.set i y)[j]? = some x) : (j = i ∧ x = y) ∨ (j ≠ i ∧ l[j]? = some x) := by
  rw [List.getElem?_set] at h
  by_cases e : i = j
  · subst e
    rw [if_pos rfl] at h
    split at h
    · injection h with h; exact .inl ⟨rfl, h.symm⟩
    · cases h
  · rw [if_neg e] at h
    exact .inr ⟨fun e2 => e e2.symm, h⟩
/-- A block, or a row, of one's own: where, what, and that it hangs on nothing else. -/
structure Rr where
  P : Option Addr
  pr : World → Prop
  st : ∀ w w' : World, pr w → (∀ k, blk P = some k → w'.heap[k]? = w.heap[k]?) → pr w'
def rI (P : Option Addr) (c : Nat) (l : List Int) : Rr := ⟨P, fun w => Rw 0 w P c l, fun _ _ h hb => row_keep h hb⟩
def rB (k T : Nat) (u : Array Value) : Rr := ⟨some ⟨k, 0, none⟩, fun w => Bk w k T u, fun _ _ h hb => h.keep (hb k rfl)⟩
def Rr.apart (a b : Rr) : Prop := ∀ k, blk a.P = some k → blk b.P ≠ some k
/-- Since W, block t has come to be the table S, L, and there are rows; nothing that was there has turned. -/
structure LS (W : World) (t : Nat) (S : List T0) (L : List Int) (rs : List Rr) (w : World) : Prop where
  ex : ∃ F : Nat → Prop, TR F S L w t ∧ (∀ k, F k → W.heap.size ≤ k ∧ k < w.heap.size) ∧ ∀ r ∈ rs, ∀ k, blk r.P = some k → ¬ F k
  bel : Below W.heap.size W w
  rows : ∀ r ∈ rs, r.pr w ∧ ∀ k, blk r.P = some k → W.heap.size ≤ k ∧ k < w.heap.size
  ap : rs.Pairwise Rr.apart
section
variable {W w w' : World} {t : Nat} {S S' : List T0} {L L' : List Int} {rs : List Rr}
theorem LS.later (h : LS W t S L rs w) (hb : Below w.heap.size w w') : LS W t S L rs w' := by
  obtain ⟨F, h1, h2, h3⟩ := h.ex
  have hs := hb.size
  exact ⟨⟨F, h1.later hb, fun k hk => ⟨(h2 k hk).1, Nat.lt_of_lt_of_le (h2 k hk).2 hb.size⟩, h3⟩, h.bel.trans (hb.mono h.bel.size), fun r hr => ⟨r.st _ _ (h.rows r hr).1 fun k hk => hb.block k ((h.rows r hr).2 k hk).2, fun k hk => ⟨((h.rows r hr).2 k hk).1, Nat.lt_of_lt_of_le ((h.rows r hr).2 k hk).2 hs⟩⟩, h.ap⟩
theorem LS.drewN (h : LS W t S L rs w) (q : Nat) : LS W t S L rs (w.drewN q) := h.later (below_drewN w q)
theorem LS.drew (h : LS W t S L rs w) : LS W t S L rs w.drew := h.later ((Below.refl _ _).drew)
theorem LS.alloc (h : LS W t S L rs w) (o : Obj) : LS W t S L rs (w.alloc o) := h.later (below_al w o)
theorem LS.sub (h : LS W t S L rs w) {rs' : List Rr} (hs : rs'.Sublist rs) : LS W t S L rs' w := by
  obtain ⟨F, h1, h2, h3⟩ := h.ex
  exact ⟨⟨F, h1, h2, fun r hr => h3 r (hs.subset hr)⟩, h.bel, fun r hr => h.rows r (hs.subset hr), h.ap.sublist hs⟩
/-- A call that changed the table. -/
theorem LS.go {F : Nat → Prop} (h : LS W t S L rs w) (h2 : ∀ k, F k → W.heap.size ≤ k ∧ k < w.heap.size) (h3 : ∀ r ∈ rs, ∀ k, blk r.P = some k → ¬ F k) (g : Go F t S' L' w w') : LS W t S' L' rs w' := by
  have hs := g.2.size
  have hW := h.bel.size
  refine ⟨⟨fun k => okN F w.heap.size k ∧ k < w'.heap.size, g.1.mono fun k hk hf => ⟨hf, hk⟩, ?_, ?_⟩, h.bel.trans (g.2.below hW fun k hk => (h2 k hk).1), ?_, h.ap⟩
  · rintro k ⟨hk | hk, hl⟩
    · exact ⟨(h2 k hk).1, hl⟩
    · exact ⟨by omega, hl⟩
  · rintro r hr k hk ⟨hf | hf, _⟩
    · exact h3 r hr k hk hf
    · have := ((h.rows r hr).2 k hk).2; omega
  · intro r hr
    refine ⟨r.st _ _ (h.rows r hr).1 fun k hk => ?_, fun k hk => ⟨((h.rows r hr).2 k hk).1, Nat.lt_of_lt_of_le ((h.rows r hr).2 k hk).2 hs⟩⟩
    exact g.2.block k ((h.rows r hr).2 k hk).2 (h3 r hr k hk)
/-- A new row. -/
theorem LS.row {r : Rr} (h : LS W t S L rs w) (hr : r.pr w') (hn : ∀ k, blk r.P = some k → w.heap.size ≤ k ∧ k < w'.heap.size) (hb : Below w.heap.size w w') : LS W t S L (r :: rs) w' := by
  have h' := h.later hb
  obtain ⟨F, h1, h2, h3⟩ := h.ex
  have hW := h.bel.size
  refine ⟨⟨F, h1.later hb, fun k hk => ⟨(h2 k hk).1, Nat.lt_of_lt_of_le (h2 k hk).2 hb.size⟩, ?_⟩, h'.bel, ?_, ?_⟩
  · intro x hx k hk hf
    rcases List.mem_cons.1 hx with rfl | hx
    · have := (hn k hk).1; have := (h2 k hf).2; omega
    · exact h3 x hx k hk hf
  · intro x hx
    rcases List.mem_cons.1 hx with rfl | hx
    · exact ⟨hr, fun k hk => ⟨by have := (hn k hk).1; omega, (hn k hk).2⟩⟩
    · exact h'.rows x hx
  · rw [List.pairwise_cons]
    refine ⟨fun x hx k hk e => ?_, h.ap⟩
    have := (hn k hk).1; have := ((h.rows x hx).2 k e).2; omega
theorem LS.ints {P : Option Addr} {c : Nat} {l : List Int} (h : LS W t S L rs w) (hr : Rw w.heap.size w' P c l) (hb : Below w.heap.size w w') : LS W t S L (rI P c l :: rs) w' := h.row (row_low hr (Nat.zero_le _)) (fun k hk => row_lt hr hk) hb
theorem LS.block (h : LS W t S L rs w) (T : Nat) (u : Array Value) : LS W t S L (rB w.heap.size T u :: rs) (w.alloc (.cells u T)) := h.row (Bk.new w u T) (fun k hk => by injection hk with hk; subst hk; simp) (below_al w _)
/-- A row has turned: a store into it, or an append. -/
theorem LS.turn {i : Nat} {r r' : Rr} (h : LS W t S L rs w) (hr : rs[i]? = some r) (T : Tn (fun k => blk r.P = some k) w w') (own : r'.pr w') (hat : ∀ k, blk r'.P = some k → (blk r.P = some k ∨ w.heap.size ≤ k) ∧ k < w'.heap.size) : LS W t S L (rs.set i r') w' := by
  obtain ⟨F, h1, h2, h3⟩ := h.ex
  have hW := h.bel.size
  have hs := T.size
  have hrm : r ∈ rs := List.mem_of_getElem? hr
  have key : ∀ (j : Nat) (x : Rr), (rs.set i r')[j]? = some x → (j = i ∧ x = r') ∨ (j ≠ i ∧ rs[j]? = some x) := fun j x hx => set_at hx
  have ap : ∀ (j : Nat) (x : Rr), rs[j]? = some x → j ≠ i → ∀ k, blk x.P = some k → blk r.P ≠ some k := by
    intro j x hx hne k hk e
    have hp := h.ap
    rw [List.pairwise_iff_getElem] at hp
    obtain ⟨hj, rfl⟩ := List.getElem?_eq_some_iff.1 hx
    obtain ⟨hi, rfl⟩ := List.getElem?_eq_some_iff.1 hr
    rcases Nat.lt_or_gt_of_ne hne with c | c
    · exact hp j i hj hi c k hk e
    · exact hp i j hi hj c k e hk
  refine ⟨⟨F, h1.keep fun k hk hf => T.block k hk fun e => h3 r hrm k e hf, fun k hk => ⟨(h2 k hk).1, Nat.lt_of_lt_of_le (h2 k hk).2 hs⟩, ?_⟩, h.bel.trans (T.below hW fun k hk => ((h.rows r hrm).2 k hk).1), ?_, ?_⟩
  · intro x hx k hk hf
    obtain ⟨j, hj⟩ := List.getElem?_of_mem hx
    rcases key j x hj with ⟨_, rfl⟩ | ⟨_, hj⟩
    · rcases (hat k hk).1 with e | e
      · exact h3 r hrm k e hf
      · have := (h2 k hf).2; omega
    · exact h3 x (List.mem_of_getElem? hj) k hk hf
  · intro x hx
    obtain ⟨j, hj⟩ := List.getElem?_of_mem hx
    rcases key j x hj with ⟨_, rfl⟩ | ⟨hne, hj⟩
    · refine ⟨own, fun k hk => ⟨?_, (hat k hk).2⟩⟩
      rcases (hat k hk).1 with e | e
      · exact ((h.rows r hrm).2 k e).1
      · omega
    · have hx2 := h.rows x (List.mem_of_getElem? hj)
      exact ⟨x.st _ _ hx2.1 fun k hk => T.block k (hx2.2 k hk).2 (ap j x hj hne k hk), fun k hk => ⟨(hx2.2 k hk).1, Nat.lt_of_lt_of_le (hx2.2 k hk).2 hs⟩⟩
  · rw [List.pairwise_iff_getElem]
    intro a b ha hb hab k hk e
    have xa := key a _ (List.getElem?_eq_getElem ha)
    have xb := key b _ (List.getElem?_eq_getElem hb)
    have lt : ∀ (j : Nat) (x : Rr), rs[j]? = some x → blk x.P = some k → k < w.heap.size := fun j x hj hk => ((h.rows x (List.mem_of_getElem? hj)).2 k hk).2
    rcases xa with ⟨rfl, ea⟩ | ⟨na, ea⟩
    · rcases xb with ⟨rfl, eb⟩ | ⟨nb, eb⟩
      · omega
      · rw [ea] at hk
        rcases (hat k hk).1 with e1 | e1
        · exact ap b _ eb nb k e e1
        · have := lt b _ eb e; omega
    · rcases xb with ⟨rfl, eb⟩ | ⟨nb, eb⟩
      · rw [eb] at e
        rcases (hat k e).1 with e1 | e1
        · exact ap a _ ea na k hk e1
        · have := lt a _ ea hk; omega
      · have hp := h.ap
        rw [List.pairwise_iff_getElem] at hp
        obtain ⟨ha', ea'⟩ := List.getElem?_eq_some_iff.1 ea
        obtain ⟨hb', eb'⟩ := List.getElem?_eq_some_iff.1 eb
        rw [← ea'] at hk
        rw [← eb'] at e
        exact hp a b ha' hb' hab k hk e
theorem LS.own (h : LS W t S L rs w) {i : Nat} {r : Rr} (hr : rs[i]? = some r) : r.pr w := (h.rows r (List.mem_of_getElem? hr)).1
theorem LS.ownI (h : LS W t S L rs w) {i c : Nat} {P : Option Addr} {l : List Int} (hr : rs[i]? = some (rI P c l)) : Rw 0 w P c l := h.own hr
theorem LS.ownB (h : LS W t S L rs w) {i k T : Nat} {u : Array Value} (hr : rs[i]? = some (rB k T u)) : Bk w k T u := h.own hr

/-! The calls. -/
theorem at_D {D : List Tk} {k : Nat} {s : T0} (hD : D.map Tk.t = S) (h : S[k]? = some s) : ∃ x, D[k]? = some x ∧ x.t = s := by
  subst hD
  rw [List.getElem?_map] at h
  cases e : D[k]? with
  | none => rw [e] at h; cases h
  | some x => rw [e] at h; injection h with h; exact ⟨x, rfl, h⟩
theorem set_D {D : List Tk} {k : Nat} {y : Tk} (hD : D.map Tk.t = S) : (D.set k y).map Tk.t = S.set k y.t := by rw [List.map_set, hD]
theorem Ids.off {k : Nat} {y : T0} (h : Ids S L) : Ids (S.set k y) (wo L k) := by
  intro z hz
  obtain ⟨h1, h2⟩ := List.mem_filter.1 hz
  simp only [decide_eq_true_eq] at h2
  obtain ⟨j, s, rfl, hs, h0⟩ := h z h1
  exact ⟨j, s, rfl, by rw [List.getElem?_set_ne (by omega)]; exact hs, h0⟩
theorem Ids.same {k : Nat} {y : T0} (h : Ids S L) (hk : k < S.length) (hy : y.st = 0) : Ids (S.set k y) L := by
  intro z hz
  obtain ⟨j, s, rfl, hs, h0⟩ := h z hz
  by_cases e : k = j
  · subst e
    exact ⟨k, y, rfl, by rw [List.getElem?_set_self hk], hy⟩
  · exact ⟨j, s, rfl, by rw [List.getElem?_set_ne e]; exact hs, h0⟩
theorem Ids.back {k : Nat} {y : T0} (h : Ids S L) (hk : k < S.length) (hy : y.st = 0) : Ids (S.set k y) (L ++ [(k : Int)]) := by
  intro z hz
  rcases List.mem_append.1 hz with hz | hz
  · exact h.same hk hy z hz
  · rw [List.mem_singleton.1 hz]
    exact ⟨k, y, rfl, by rw [List.getElem?_set_self hk], hy⟩
theorem Ids.more {y : T0} (h : Ids S L) (hy : y.st = 0) : Ids (S ++ [y]) (L ++ [(S.length : Int)]) := by
  intro z hz
  rcases List.mem_append.1 hz with hz | hz
  · obtain ⟨j, s, rfl, hs, h0⟩ := h z hz
    exact ⟨j, s, rfl, by rw [List.getElem?_append_left (List.getElem?_eq_some_iff.1 hs).1]; exact hs, h0⟩
  · rw [List.mem_singleton.1 hz]
    exact ⟨S.length, y, rfl, by simp, hy⟩
theorem Ids.not {k : Nat} {s : T0} (h : Ids S L) (hs : S[k]? = some s) (h1 : s.st ≠ 0) : (k : Int) ∉ L := by
  intro hm
  obtain ⟨j, s', e, hs', h0⟩ := h _ hm
  have : k = j := by omega
  subst this
  rw [hs] at hs'; injection hs' with hs'; exact h1 (by rw [hs']; exact h0)
theorem Ids.new (h : Ids S L) : (S.length : Int) ∉ L := by
  intro hm
  obtain ⟨j, s', e, hs', h0⟩ := h _ hm
  have := (List.getElem?_eq_some_iff.1 hs').1
  omega
theorem LS.ids (h : LS W t S L rs w) : Ids S L ∧ S.length ≤ 64 ∧ L.Nodup := by
  obtain ⟨F, ⟨a, P, c, o, b, Q, e, D, h1, hD, hI⟩, _⟩ := h.ex
  refine ⟨hI, ?_, h1.rg.nd⟩
  rw [← hD, List.length_map]; exact h1.len
/-- A call that changed the table. -/
def ChL (W : World) (t : Nat) (S : List T0) (L : List Int) (rs : List Rr) (e : Ending) (w' : World) : Prop := e = .returned (.int .i64 0) ∧ Hid (LS W t S L rs w')
theorem chg_ls {k fn : Nat} {s y : T0} {args : Array Value} (h : LS W t S L rs w) (hs : S[k]? = some s) (hI : Ids S L → Ids (S.set k y) L')
    (hc : ∀ F a P c o b Q e D x, TX F w t a P c o b Q e D L → Ids S L → D[k]? = some x → x.t = s → Calls Tryd.prog fn args w (EndX F t D L' k y w)) : Calls Tryd.prog fn args w (ChL W t (S.set k y) L' rs) := by
  obtain ⟨F, ⟨a, P, c, o, b, Q, e, D, h1, hD, hI0⟩, h2, h3⟩ := h.ex
  obtain ⟨x, hx, hxs⟩ := at_D hD hs
  refine (hc F a P c o b Q e D x h1 hI0 hx hxs).mono ?_
  rintro e1 w' ⟨rfl, a', P', c', o', b', Q', e', A', d', r1, r2⟩
  exact ⟨rfl, h.go h2 h3 ⟨⟨a', P', c', o', b', Q', e', _, r1, set_D hD, hI hI0⟩, r2⟩⟩
theorem sam_ls {k fn : Nat} {s : T0} {args : Array Value} {v : Value} (h : LS W t S L rs w) (hs : S[k]? = some s)
    (hc : ∀ F a P c o b Q e D x, TX F w t a P c o b Q e D L → D[k]? = some x → x.t = s → Calls Tryd.prog fn args w fun e w' => e = .returned v ∧ Below w.heap.size w w') : Calls Tryd.prog fn args w fun e w' => e = .returned v ∧ Hid (LS W t S L rs w') := by
  obtain ⟨F, ⟨a, P, c, o, b, Q, e, D, h1, hD, hI0⟩, h2, h3⟩ := h.ex
  obtain ⟨x, hx, hxs⟩ := at_D hD hs
  exact (hc F a P c o b Q e D x h1 hx hxs).mono fun e w' ⟨h1, h2⟩ => ⟨h1, h.later h2⟩
theorem new_ls (hb : Below W.heap.size W w) : Calls Tryd.prog 9 #[] w fun e w' => ∃ t, e = .returned (.pointer (some ⟨t, 0, none⟩)) ∧ Hid (LS W t [] [] [] w') := by
  have hs := hb.size
  refine (new_x w).mono ?_
  rintro e w' ⟨t, rfl, h, b⟩
  exact ⟨t, rfl, ⟨fun k => w.heap.size ≤ k ∧ k < w'.heap.size, h.mono fun k hk hf => ⟨hf, hk⟩, fun k hk => ⟨by have := hk.1; omega, hk.2⟩, fun r hr => by cases hr⟩, hb.trans (b.mono hs), fun r hr => (by cases hr), .nil⟩
theorem start_ls {prog : Int} {g : Nat → Int} (h : LS W t S L rs w) (hp : 0 ≤ prog) (hn : S.length < 64) (hl : L.length ≤ 1000) : Calls Tryd.prog 11 #[.pointer (some ⟨t, 0, none⟩), .int .i64 prog, .agg (gR g)] w fun e w' => e = .returned (.tuple #[.int .i64 (S.length : Int), .int .i64 0]) ∧ Hid (LS W t (S ++ [yNew prog g]) (L ++ [(S.length : Int)]) rs w') := by
  obtain ⟨F, ⟨a, P, c, o, b, Q, e, D, h1, hD, hI0⟩, h2, h3⟩ := h.ex
  have hDl : D.length = S.length := by rw [← hD, List.length_map]
  refine (start_x prog g h1 hp (by omega) hl (by rw [hDl]; exact hI0.new)).mono ?_
  rintro e1 w' ⟨rfl, a', P', c', o', b', Q', e', r1, r2⟩
  rw [hDl] at *
  exact ⟨rfl, h.go h2 h3 ⟨⟨a', P', c', o', b', Q', e', _, r1, by rw [List.map_append, hD]; rfl, hI0.more rfl⟩, r2⟩⟩
theorem full_ls {prog : Int} {g : Nat → Int} (h : LS W t S L rs w) (hp : 0 ≤ prog) (hn : S.length = 64) : Calls Tryd.prog 11 #[.pointer (some ⟨t, 0, none⟩), .int .i64 prog, .agg (gR g)] w fun e w' => e = .returned (.tuple #[.int .i64 0, .int .i64 3]) ∧ Hid (LS W t S L rs w') := by
  obtain ⟨F, ⟨a, P, c, o, b, Q, e, D, h1, hD, hI0⟩, h2, h3⟩ := h.ex
  have hDl : D.length = S.length := by rw [← hD, List.length_map]
  exact (start_full prog g h1 hp (by omega)).mono fun e w' ⟨h1, h2⟩ => ⟨h1, h.later h2⟩
theorem get_ls {k : Nat} {s : T0} (h : LS W t S L rs w) (hs : S[k]? = some s) : Calls Tryd.prog 19 #[.pointer (some ⟨t, 0, none⟩), .int .i64 (k : Int)] w fun e w' => ∃ A c, e = .returned (.tuple #[.agg (tW s A c), .bool true]) ∧ Hid (LS W t S L rs w') := by
  obtain ⟨F, ⟨a, P, c, o, b, Q, e, D, h1, hD, hI0⟩, h2, h3⟩ := h.ex
  obtain ⟨x, hx, rfl⟩ := at_D hD hs
  refine (get_any h1 hx).mono ?_
  rintro e1 w' ⟨A, c, rfl, _, hb⟩
  exact ⟨A, c, rfl, h.later hb⟩
theorem put_ls {k : Nat} {s : T0} {pc : Int} {g : Nat → Int} (h : LS W t S L rs w) (hs : S[k]? = some s) (h0 : s.st = 0) : Calls Tryd.prog 18 #[.pointer (some ⟨t, 0, none⟩), .int .i64 (k : Int), .int .i64 pc, .agg (gR g)] w (ChL W t (S.set k (yPut s pc g)) L rs) :=
  chg_ls h hs (fun hI => hI.same (List.getElem?_eq_some_iff.1 hs).1 h0) fun F a P c o b Q e D x h1 _ hx hxs => by
    subst hxs
    exact put_x pc g h1 hx h0
theorem putno_ls {k : Nat} {s : T0} {pc : Int} {g : Array Value} (h : LS W t S L rs w) (hs : S[k]? = some s) (h0 : s.st ≠ 0) : Calls Tryd.prog 18 #[.pointer (some ⟨t, 0, none⟩), .int .i64 (k : Int), .int .i64 pc, .agg g] w fun e w' => e = .returned (.int .i64 8) ∧ Hid (LS W t S L rs w') :=
  sam_ls h hs fun F a P c o b Q e D x h1 hx hxs => by
    subst hxs
    exact put_no pc g h1 hx h0
theorem park_ls {k : Nat} {s y : T0} {As : Option Addr} {cap : Nat} (h : LS W t S L rs w) (hs : S[k]? = some s) (h0 : s.st = 0) (hl : L.length ≤ 1000) (hF : Pg.FT w) (hop : y.op = 10 ∨ y.op = 11 ∨ y.op = 15)
    (hck : Pg.checkB [tI y As cap] 16 = true) (hA : As = none ∨ ∃ b off, As = some ⟨b, off, none⟩) (hR : Pg.RdC w As y.cs.length y.cs) (hcs : y.cs.length ≤ 1000) (hn : y.cs.length ≤ cap) (hc : cap ≤ 9223372036854775807) :
    Calls Tryd.prog 12 #[.pointer (some ⟨t, 0, none⟩), .int .i64 (k : Int), .agg (iR y As cap)] w (ChL W t (S.set k (yPark s y)) (wo L k) rs) :=
  chg_ls h hs (fun hI => hI.off) fun F a P c o b Q e D x h1 _ hx hxs => by
    subst hxs
    exact park_x y As cap h1 hx h0 hl hF hop hck hA hR hcs hn hc
theorem parkno_ls {k : Nat} {s : T0} {y : Array Value} (h : LS W t S L rs w) (hs : S[k]? = some s) (h0 : s.st ≠ 0) : Calls Tryd.prog 12 #[.pointer (some ⟨t, 0, none⟩), .int .i64 (k : Int), .agg y] w fun e w' => e = .returned (.int .i64 8) ∧ Hid (LS W t S L rs w') :=
  sam_ls h hs fun F a P c o b Q e D x h1 hx hxs => by
    subst hxs
    exact park_no y h1 hx h0
theorem parkarg_ls {k : Nat} {s y : T0} {As : Option Addr} {cap : Nat} (h : LS W t S L rs w) (hs : S[k]? = some s) (h0 : s.st = 0) (hop : y.op = 6) : Calls Tryd.prog 12 #[.pointer (some ⟨t, 0, none⟩), .int .i64 (k : Int), .agg (iR y As cap)] w fun e w' => e = .returned (.int .i64 1) ∧ Hid (LS W t S L rs w') :=
  sam_ls h hs fun F a P c o b Q e D x h1 hx hxs => by
    subst hxs
    exact park_arg y As cap h1 hx h0 hop
theorem end_ls {k : Nat} {s : T0} {how : Int} (h : LS W t S L rs w) (hs : S[k]? = some s) (h0 : s.st ≠ 2) (hl : L.length ≤ 1000) : Calls Tryd.prog 15 #[.pointer (some ⟨t, 0, none⟩), .int .i64 (k : Int), .int .i64 how] w (ChL W t (S.set k (yEnd s how)) (wo L k) rs) :=
  chg_ls h hs (fun hI => hI.off) fun F a P c o b Q e D x h1 _ hx hxs => by
    subst hxs
    exact end_x how h1 hx h0 hl
theorem endno_ls {k : Nat} {s : T0} {how : Int} (h : LS W t S L rs w) (hs : S[k]? = some s) (h0 : s.st = 2) : Calls Tryd.prog 15 #[.pointer (some ⟨t, 0, none⟩), .int .i64 (k : Int), .int .i64 how] w fun e w' => e = .returned (.int .i64 8) ∧ Hid (LS W t S L rs w') :=
  sam_ls h hs fun F a P c o b Q e D x h1 hx hxs => by
    subst hxs
    exact end_no how h1 hx h0
theorem wake_ls {k kase : Nat} {s : T0} {value : Int} {ok : Bool} {g : Nat → Int} (h : LS W t S L rs w) (hs : S[k]? = some s) (h0 : s.st = 1) (hl : L.length ≤ 1000) (hpc : IntKind.i64.wrap (s.pc + 1) = s.pc + 1)
    (hT : ∀ A c w1, Pg.RdC w1 A s.cs.length s.cs → Calls Tryd.prog 32 #[.agg (tW s A c), .agg (wR (k : Int) (kase : Int) value ok false)] w1 (ToldR g w1)) :
    Calls Tryd.prog 14 #[.pointer (some ⟨t, 0, none⟩), .agg (wR (k : Int) (kase : Int) value ok false)] w (ChL W t (S.set k (yWake s g)) (L ++ [(k : Int)]) rs) :=
  chg_ls h hs (fun hI => hI.back (List.getElem?_eq_some_iff.1 hs).1 rfl) fun F a P c o b Q e D x h1 hI hx hxs => by
    subst hxs
    exact wake_x g kase value ok h1 hx h0 hl (hI.not hs (by omega)) hpc hT
theorem panic_ls {k kase : Nat} {s : T0} {value : Int} {ok : Bool} (h : LS W t S L rs w) (hs : S[k]? = some s) (h0 : s.st = 1) (hl : L.length ≤ 1000) :
    Calls Tryd.prog 14 #[.pointer (some ⟨t, 0, none⟩), .agg (wR (k : Int) (kase : Int) value ok true)] w (ChL W t (S.set k (yEnd s 1)) (wo L k) rs) :=
  chg_ls h hs (fun hI => hI.off) fun F a P c o b Q e D x h1 hI hx hxs => by
    subst hxs
    exact wake_panic kase value ok h1 hx h0 hl
theorem wakeno_ls {k : Nat} {s : T0} {kase value : Int} {ok pn : Bool} (h : LS W t S L rs w) (hs : S[k]? = some s) (h0 : s.st ≠ 1) : Calls Tryd.prog 14 #[.pointer (some ⟨t, 0, none⟩), .agg (wR (k : Int) kase value ok pn)] w fun e w' => e = .returned (.int .i64 8) ∧ Hid (LS W t S L rs w') :=
  sam_ls h hs fun F a P c o b Q e D x h1 hx hxs => by
    subst hxs
    exact wake_no kase value ok pn h1 hx h0
theorem len_ls (h : LS W t S L rs w) : Calls Tryd.prog 20 #[.pointer (some ⟨t, 0, none⟩)] w fun e w' => e = .returned (.int .i64 (S.length : Int)) ∧ w = w' := by
  obtain ⟨F, ⟨a, P, c, o, b, Q, e, D, h1, hD, hI0⟩, h2, h3⟩ := h.ex
  have hDl : D.length = S.length := by rw [← hD, List.length_map]
  rw [← hDl]
  exact len_x h1
theorem ready_ls (h : LS W t S L rs w) (hl : L.length ≤ 1000) : Calls Tryd.prog 17 #[.pointer (some ⟨t, 0, none⟩)] w fun e w' => ∃ A c, e = .returned (.slice A L.length c) ∧ Hid (Rn w' A L.length L) ∧ Hid (LS W t S L rs w') := by
  obtain ⟨F, ⟨a, P, c, o, b, Q, e, D, h1, hD, hI0⟩, h2, h3⟩ := h.ex
  refine (ready_x h1 hl).mono ?_
  rintro e1 w' ⟨A, c, rfl, r1, r2⟩
  exact ⟨A, c, rfl, r1, h.later r2⟩
theorem pick_ls {n z : Int} (h : LS W t S L rs w) (hl : L.length ≤ 1000) (hz : L[pk n L.length]? = some z) : Calls Tryd.prog 21 #[.pointer (some ⟨t, 0, none⟩), .int .i64 n] w fun e w' => e = .returned (.tuple #[.int .i64 z, .bool true]) ∧ Hid (LS W t S L rs w') := by
  obtain ⟨F, ⟨a, P, c, o, b, Q, e, D, h1, hD, hI0⟩, h2, h3⟩ := h.ex
  exact (pick_x h1 hl hz).mono fun e w' ⟨h1, h2⟩ => ⟨h1, h.later h2⟩
theorem none_ls {n : Int} (h : LS W t S [] rs w) : Calls Tryd.prog 21 #[.pointer (some ⟨t, 0, none⟩), .int .i64 n] w fun e w' => e = .returned (.tuple #[.int .i64 0, .bool false]) ∧ w = w' := by
  obtain ⟨F, ⟨a, P, c, o, b, Q, e, D, h1, hD, hI0⟩, h2, h3⟩ := h.ex
  exact pick_none_x h1
/-- The table of operations stays. -/
theorem LS.ft (h : LS W t S L rs w) (hF : Pg.FT W) : Pg.FT w := hF.later h.bel
end
end Go.Proofs.YthiifnbgdajgaaaDoor
