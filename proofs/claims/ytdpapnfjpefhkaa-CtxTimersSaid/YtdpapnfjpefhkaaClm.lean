/- The loop of cancel: what has been told, and what is left. No condition. -/
import Derived.Test.YtdpapnfjpefhkaaCadm
namespace Go.Proofs.Ytdpapnfjpefhkaa
open Go.RowKit Tr
set_option linter.unusedVariables false
set_option maxRecDepth 100000
/-- One that was cancelled, where those that it woke lie. -/
structure Lp where
  id : Nat
  er : Int
  cs : Int
  wk : List Ch.Wk
  A : Option Addr
  n : Nat
  c : Nat
def lE (x : Lp) : List Value := [.int .i64 x.id, .int .i64 x.er, .int .i64 x.cs, .slice x.A x.n x.c]
theorem lE_len (x : Lp) : (lE x).length = 4 := rfl
theorem lE_one (x : Lp) : ∀ u ∈ lE x, u.oneCell' = true := by intro u hu; simp [lE] at hu; rcases hu with rfl | rfl | rfl | rfl <;> rfl
/-- An after that was started. -/
structure Mp where
  id : Nat
  pg : Int
def mE (x : Mp) : List Value := [.int .i64 x.id, .int .i64 x.pg]
theorem mE_len (x : Mp) : (mE x).length = 2 := rfl
theorem mE_one (x : Mp) : ∀ u ∈ mE x, u.oneCell' = true := by intro u hu; simp [mE] at hu; rcases hu with rfl | rfl <;> rfl
theorem infL : (Try.prog.info? 41).map (fun i => (i.zero, i.size, i.bytes)) = some (some (.agg #[.int .i64 0, .int .i64 0, .int .i64 0, .slice none 0 0]), 4, 48) := by kernel_rfl
theorem infM : (Try.prog.info? 57).map (fun i => (i.zero, i.size, i.bytes)) = some (some (.agg #[.int .i64 0, .int .i64 0]), 2, 16) := by kernel_rfl
/-- Who was cancelled, and who was woken by it. -/
abbrev Lap := Nat × List Ch.Wk
/-- A row of the call's own: all that were cancelled with an error and a cause. -/
def LR (B : Nat) (w : World) (P : Option Addr) (c : Nat) (er cs : Int) (l : List Lap) : Prop :=
  ∃ L : List Lp, L.map (fun x => (x.id, x.wk)) = l ∧ (∀ x ∈ L, x.er = er ∧ x.cs = cs ∧ x.n = x.wk.length ∧ Ch.RdK w x.A x.n x.wk) ∧ w.ownsRow B 41 4 (.slice P L.length c) L.length (L.flatMap lE)
/-- A row of the call's own: all afters that were started. -/
def SR (B : Nat) (w : World) (P : Option Addr) (c : Nat) (m : List Mp) : Prop := w.ownsRow B 57 2 (.slice P m.length c) m.length (m.flatMap mE)

/-! What a walk makes, node by node. -/
def cst (er cs : Int) (s : St) (k : Nat) : St := match s.K[k]? with
  | some ⟨false, i⟩ => match s.C[i]? with
    | some x => { s with T := Tr.cut s.T k, C := s.C.set i (ended x er cs), S := del x.lp s.S }
    | none => { s with T := Tr.cut s.T k }
  | _ => { s with T := Tr.cut s.T k }
def clp (s : St) (k : Nat) : List Lap := match s.K[k]? with
  | some ⟨false, i⟩ => match s.C[i]? with
    | some x => [(i, wks x)]
    | none => []
  | _ => []
def cmp (s : St) (k : Nat) : List Mp := match s.K[k]? with
  | some ⟨true, i⟩ => match s.A[i]? with
    | some a => [⟨i, a.pg⟩]
    | none => []
  | _ => []
def cfold (er cs : Int) : List Nat → St → St × List Lap × List Mp
  | [], s => (s, [], [])
  | k :: r, s => ((cfold er cs r (cst er cs s k)).1, clp s k ++ (cfold er cs r (cst er cs s k)).2.1, cmp s k ++ (cfold er cs r (cst er cs s k)).2.2)
/-- What stands at a node can be cancelled, or started. -/
structure Good (s : St) (k : Nat) : Prop where
  lt : k < s.T.length
  ex : ∃ z, s.K[k]? = some z ∧ (z.af = true → ∃ a, s.A[z.id]? = some a) ∧ (z.af = false → ∃ x c, s.C[z.id]? = some x ∧ x.nd = k ∧ x.ch = some c ∧ x.cl = false ∧ x.rs.length ≤ 1000000)
theorem cst_af {er cs : Int} {s : St} {k i : Nat} (h : s.K[k]? = some ⟨true, i⟩) : cst er cs s k = { s with T := Tr.cut s.T k } := by unfold cst; rw [h]
theorem cst_cx {er cs : Int} {s : St} {k i : Nat} {x : Cx} (h : s.K[k]? = some ⟨false, i⟩) (hx : s.C[i]? = some x) : cst er cs s k = { s with T := Tr.cut s.T k, C := s.C.set i (ended x er cs), S := del x.lp s.S } := by unfold cst; rw [h]; simp only [hx]
theorem clp_af {s : St} {k i : Nat} (h : s.K[k]? = some ⟨true, i⟩) : clp s k = [] := by unfold clp; rw [h]
theorem clp_cx {s : St} {k i : Nat} {x : Cx} (h : s.K[k]? = some ⟨false, i⟩) (hx : s.C[i]? = some x) : clp s k = [(i, wks x)] := by unfold clp; rw [h]; simp only [hx]
theorem cmp_af {s : St} {k i : Nat} {a : Af} (h : s.K[k]? = some ⟨true, i⟩) (ha : s.A[i]? = some a) : cmp s k = [⟨i, a.pg⟩] := by unfold cmp; rw [h]; simp only [ha]
theorem cmp_cx {s : St} {k i : Nat} (h : s.K[k]? = some ⟨false, i⟩) : cmp s k = [] := by unfold cmp; rw [h]
theorem cst_len {er cs : Int} (s : St) (k : Nat) : (cst er cs s k).C.length = s.C.length ∧ (cst er cs s k).E = s.E ∧ (cst er cs s k).S.length ≤ s.S.length ∧ (cst er cs s k).K = s.K ∧ (cst er cs s k).A = s.A ∧ (cst er cs s k).T.length = s.T.length := by
  unfold cst
  split
  · split
    · exact ⟨by simp, rfl, List.length_filter_le _ _, rfl, rfl, Tr.cut_len _ _⟩
    · exact ⟨rfl, rfl, Nat.le_refl _, rfl, rfl, Tr.cut_len _ _⟩
  · exact ⟨rfl, rfl, Nat.le_refl _, rfl, rfl, Tr.cut_len _ _⟩
theorem Good.next {er cs : Int} {s : St} {k k' : Nat} (h : Good s k') (g : Good s k) (hne : k' ≠ k) : Good (cst er cs s k) k' := by
  obtain ⟨hl, z, h1, h2, h3⟩ := h
  obtain ⟨_, ⟨za, zi⟩, g1, g2, g3⟩ := g
  obtain ⟨_, _, _, e4, e5, e6⟩ := cst_len (er := er) (cs := cs) s k
  refine ⟨by rw [e6]; exact hl, z, by rw [e4]; exact h1, fun e => by rw [e5]; exact h2 e, fun e => ?_⟩
  obtain ⟨x, c, x1, x2, x3⟩ := h3 e
  cases za with
  | true => rw [cst_af g1]; exact ⟨x, c, x1, x2, x3⟩
  | false =>
    obtain ⟨y, d, y1, y2, y3⟩ := g3 rfl
    rw [cst_cx g1 y1]
    refine ⟨x, c, ?_, x2, x3⟩
    show (s.C.set zi _)[z.id]? = some x
    rw [List.getElem?_set_ne]
    · exact x1
    · intro e
      have e : zi = z.id := e
      rw [← e] at x1
      have y1 : s.C[zi]? = some y := y1
      rw [y1] at x1; cases x1
      exact hne (x2.symm.trans y2)

/-! Memory on the way. -/
structure CL (W w1 : World) (t : Nat) (p : Option Nat) (O : Nat → Prop) (ws : List Int) (Pw : Option Addr) (cw : Nat) (er cs : Int) (s : St) (P1 : Option Addr) (c1 : Nat) (l : List Lap) (P2 : Option Addr) (c2 : Nat) (m : List Mp) (w : World) : Prop where
  fs : ∃ O', FS W t p s O' w ∧ ∀ k, O' k → O k ∨ w1.heap.size ≤ k
  fm : Fm O w1 w
  wr : Rw 0 w Pw cw ws
  wn : ∀ k, blk Pw = some k → k < w1.heap.size ∧ ¬ O k
  lr : LR w1.heap.size w P1 c1 er cs l
  mr : SR w1.heap.size w P2 c2 m
section
variable {W w1 w w' wx : World} {t : Nat} {p : Option Nat} {O : Nat → Prop} {ws : List Int} {Pw P1 P2 : Option Addr} {cw c1 c2 g cap : Nat} {er cs : Int} {s s' : St} {l : List Lap} {m : List Mp}
theorem LR.keep {B : Nat} (h : LR B w P1 c1 er cs l) (k : ∀ b, Tg (fun ty => ty = 41 ∨ ty = 67) w b → w'.heap[b]? = w.heap[b]?) : LR B w' P1 c1 er cs l := by
  obtain ⟨L, h1, h2, h3⟩ := h
  refine ⟨L, h1, fun x hx => ⟨(h2 x hx).1, (h2 x hx).2.1, (h2 x hx).2.2.1, (h2 x hx).2.2.2.keep fun b cs e => ?_⟩, row_keep h3 fun b hb => k b ((tag_row h3 hb).imp fun ty e => .inl e)⟩
  exact k b ⟨_, _, _, e, .inr rfl⟩
theorem LR.later {B : Nat} (h : LR B w P1 c1 er cs l) (b : Below w.heap.size w w') : LR B w' P1 c1 er cs l := h.keep fun k hk => b.block k hk.lt
theorem Fm.tg {P : TypeId → Prop} {b : Nat} (f : Fm O w w') (h : Tg P w b) (ho : ∀ ty, P ty → OthZ ty) (hn : ¬ O b) : w'.heap[b]? = w.heap[b]? := by
  obtain ⟨cs, ty, fr, e, hp⟩ := h
  rw [e]; exact f.2 b cs ty fr e (ho ty hp) hn
theorem FS.nott {P : TypeId → Prop} {b : Nat} (h : FS W t p s O w) (g : Tg P w b) (hn : ∀ ty, P ty → ¬ TgO ty) : ¬ O b := fun hk => g.two (h.tag hk) hn
theorem CL.later (h : CL W w1 t p O ws Pw cw er cs s P1 c1 l P2 c2 m w) (b : Below w.heap.size w w') : CL W w1 t p O ws Pw cw er cs s P1 c1 l P2 c2 m w' := by
  obtain ⟨⟨O', f, hs⟩, fm, wr, wn, lr, mr⟩ := h
  exact ⟨⟨O', f.later b, hs⟩, fm.comp (Fm.of_below (O := O) b) fun k hk => .inl hk, row_later wr b, wn, lr.later b, row_later mr b⟩
/-- A call that changes contexts. -/
theorem CL.go {O' : Nat → Prop} (h : CL W w1 t p O ws Pw cw er cs s P1 c1 l P2 c2 m w) (f : FS W t p s O' w) (hs : ∀ k, O' k → O k ∨ w1.heap.size ≤ k) (gs : GS W t p s' O' w w') : CL W w1 t p O ws Pw cw er cs s' P1 c1 l P2 c2 m w' := by
  obtain ⟨_, fm, wr, wn, lr, mr⟩ := h
  obtain ⟨O2, f2, hs2, fm2⟩ := gs
  have key : ∀ b, Tg (fun ty => ty = 41 ∨ ty = 67) w b → w'.heap[b]? = w.heap[b]? := fun b hb => fm2.tg hb (fun ty e => by rcases e with rfl | rfl <;> decide) (f.nott hb fun ty e => by rcases e with rfl | rfl <;> simp [TgO])
  refine ⟨⟨O2, f2, fun k hk => ?_⟩, fm.comp fm2 hs, row_keep wr fun k hk => ?_, wn, lr.keep key, row_keep mr fun k hk => ?_⟩
  · rcases hs2 k hk with h1 | h1
    · exact hs k h1
    · exact .inr (Nat.le_trans fm.1 h1)
  · refine fm2.tg (tag_row wr hk) (fun ty e => by subst e; decide) fun h1 => ?_
    rcases hs k h1 with h2 | h2
    · exact (wn k hk).2 h2
    · have := (wn k hk).1; omega
  · exact fm2.tg (tag_row mr hk) (fun ty e => by subst e; decide) (f.nott (tag_row mr hk) fun ty e => by subst e; simp [TgO])
/-- What an append to one of the call's own rows keeps. -/
theorem FS.app {P : Option Addr} {ty sz n c : Nat} {xs : List Value} {B : Nat} (f : FS W t p s O w) (r : w.ownsRow B ty sz (.slice P n c) n xs) (hB : W.heap.size ≤ B) (ho : OthZ ty) (hn : ¬ TgO ty) (hx : Below w.heap.size w wx) (hg : wx.grownBy w' (Value.slice P n c).ownBlock) :
    FS W t p s O w' ∧ Tn (fun k => blk P = some k) w w' := by
  have T1 : Tn (fun k => blk P = some k) w w' := Tn.grown hx (by rw [own_blk] at hg; exact hg)
  have hb : Below W.heap.size W w' := f.bel.trans (T1.below f.bel.size fun b hb => Nat.le_trans hB (row_lt r hb).1)
  refine ⟨?_, T1⟩
  obtain ⟨⟨F, G, o, y, e⟩, mm⟩ := f
  refine ⟨⟨F, G, o, y.keep (fun k hk => T1.block k (y.lt hk) fun h => (tag_row r h).two (y.tag hk) fun ty' a => by subst a; exact hn) hb, e⟩, mm.tm hb fun j hj hi => T1.block j hj fun h => ?_⟩
  rcases hi with hi | ⟨es, cl, e2⟩
  · exact (tag_row r h).two hi fun ty' a b => b (by subst a; exact ho)
  · obtain ⟨cs, ty', fr, e3, _⟩ := tag_row r h
    rw [e2] at e3; cases e3
/-- One more is told as cancelled. -/
theorem CL.addL {L : List Lp} {x : Lp} (h : CL W w1 t p O ws Pw cw er cs s P1 c1 l P2 c2 m w) (hW : W.heap.size ≤ w1.heap.size) (hm : L.map (fun x => (x.id, x.wk)) = l) (hL : ∀ x ∈ L, x.er = er ∧ x.cs = cs ∧ x.n = x.wk.length ∧ Ch.RdK w x.A x.n x.wk) (hr : w.ownsRow w1.heap.size 41 4 (.slice P1 L.length c1) L.length (L.flatMap lE))
    (hxe : x.er = er ∧ x.cs = cs ∧ x.n = x.wk.length) (hxk : Ch.RdK w x.A x.n x.wk) (hx : Below w.heap.size w wx) (hg : wx.grownBy w' (Value.slice P1 L.length c1).ownBlock) (ho : w'.ownsRow w1.heap.size 41 4 (.slice (some ⟨g, 0, none⟩) (L.length + 1) cap) (L.length + 1) (L.flatMap lE ++ lE x)) :
    CL W w1 t p O ws Pw cw er cs s (some ⟨g, 0, none⟩) cap (l ++ [(x.id, x.wk)]) P2 c2 m w' := by
  obtain ⟨⟨O', f, hs⟩, fm, wr, wn, lr, mr⟩ := h
  obtain ⟨f', T1⟩ := f.app hr hW (by decide) (by simp [TgO]) hx hg
  have nb : ∀ k ty, Tg (· = ty) w k → ty ≠ 41 → w'.heap[k]? = w.heap[k]? := fun k ty hk n => T1.block k hk.lt fun e => hk.two (tag_row hr e) fun a b c => n (b.symm.trans c)
  have kp : ∀ (A : Option Addr) (n : Nat) (k : List Ch.Wk), Ch.RdK w A n k → Ch.RdK w' A n k := fun A n k h => h.keep fun b cs e => nb b 67 ⟨_, _, _, e, rfl⟩ (by decide)
  refine ⟨⟨O', f', hs⟩, ?_, row_keep wr fun k hk => nb k _ (tag_row wr hk) (by decide), wn, ⟨L ++ [x], by simp [hm], fun y hy => ?_, ?_⟩, row_keep mr fun k hk => nb k _ (tag_row mr hk) (by decide)⟩
  · refine ⟨Nat.le_trans fm.1 T1.size, fun k cs ty fr e1 e2 e3 => ?_⟩
    have e4 := fm.2 k cs ty fr e1 e2 e3
    refine (T1.block k (lt_of_blk e4) fun h => ?_).trans e4
    have := (row_lt hr h).1; have := lt_of_blk e1; omega
  · rcases List.mem_append.1 hy with h1 | h1
    · have := hL y h1
      exact ⟨this.1, this.2.1, this.2.2.1, kp _ _ _ this.2.2.2⟩
    · simp at h1; subst h1; exact ⟨hxe.1, hxe.2.1, hxe.2.2, kp _ _ _ hxk⟩
  · rw [List.flatMap_append, show ([x] : List Lp).flatMap lE = lE x from by simp, show (L ++ [x]).length = L.length + 1 from by simp]
    exact ho
/-- One more is told as started. -/
theorem CL.addM {x : Mp} (h : CL W w1 t p O ws Pw cw er cs s P1 c1 l P2 c2 m w) (hW : W.heap.size ≤ w1.heap.size)
    (hx : Below w.heap.size w wx) (hg : wx.grownBy w' (Value.slice P2 m.length c2).ownBlock) (ho : w'.ownsRow w1.heap.size 57 2 (.slice (some ⟨g, 0, none⟩) (m.length + 1) cap) (m.length + 1) (m.flatMap mE ++ mE x)) :
    CL W w1 t p O ws Pw cw er cs s P1 c1 l (some ⟨g, 0, none⟩) cap (m ++ [x]) w' := by
  obtain ⟨⟨O', f, hs⟩, fm, wr, wn, lr, mr⟩ := h
  obtain ⟨f', T1⟩ := f.app mr hW (by decide) (by simp [TgO]) hx hg
  have nb : ∀ k ty, Tg (· = ty) w k → ty ≠ 57 → w'.heap[k]? = w.heap[k]? := fun k ty hk n => T1.block k hk.lt fun e => hk.two (tag_row mr e) fun a b c => n (b.symm.trans c)
  refine ⟨⟨O', f', hs⟩, ?_, row_keep wr fun k hk => nb k _ (tag_row wr hk) (by decide), wn, lr.keep fun b hb => ?_, ?_⟩
  · refine ⟨Nat.le_trans fm.1 T1.size, fun k cs ty fr e1 e2 e3 => ?_⟩
    have e4 := fm.2 k cs ty fr e1 e2 e3
    refine (T1.block k (lt_of_blk e4) fun h => ?_).trans e4
    have := (row_lt mr h).1; have := lt_of_blk e1; omega
  · obtain ⟨cs, ty, fr, e, hp⟩ := hb
    exact nb b ty ⟨_, _, _, e, rfl⟩ (by rcases hp with rfl | rfl <;> decide)
  · unfold SR
    rw [List.flatMap_append, show ([x] : List Mp).flatMap mE = mE x from by simp, show (m ++ [x]).length = m.length + 1 from by simp]
    exact ho
end
end Go.Proofs.Ytdpapnfjpefhkaa
