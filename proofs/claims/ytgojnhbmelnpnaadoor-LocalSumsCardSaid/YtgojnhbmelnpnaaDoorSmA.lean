/- A row of sets, moves and sums: what the law keeps, and how it goes on. No condition. -/
import Derived.Test.YtgojnhbmelnpnaaDoorDsW
import Derived.Test.YtgojnhbmelnpnaaDoorROpn
namespace Go.Proofs.YtgojnhbmelnpnaaDoor.Pg
open Go.RowKit
set_option linter.unusedVariables false
set_option maxRecDepth 100000

theorem Tryd.inf39 : (Tryd.prog.info? 39).map (fun i => (i.zero, i.size, i.bytes)) = some (some (.agg #[.int .i64 0, .int .i64 0, .int .i64 0, .int .i64 0, .slice none 0 0, .bool false]), 6, 64) := by kernel_rfl
theorem news_at (w : World) (cs : Array Value) (t : TypeId) (N : Nat) (h : N = w.heap.size) : ∀ j u, cs.toList[j]? = some u → (w.alloc (.cells cs t)).cell? ((⟨N, 0, none⟩ : Addr).add j) = some u := by
  subst h
  exact World.news_of_block (heap_alloc_new w _)
theorem own_cap {w : World} {base : Nat} {e : TypeId} {size n : Nat} {v : Value} {xs : List Value} (h : w.ownsRow base e size v n xs) : ∃ a c, v = .slice a n c ∧ n ≤ c ∧ c ≤ 9223372036854775807 := by
  rcases h.2 with ⟨rfl, rfl⟩ | ⟨g, cap, cur, rfl, _, _, h1, h2, _⟩
  · exact ⟨none, 0, rfl, by omega, by omega⟩
  · exact ⟨_, _, rfl, h1, h2⟩
theorem own_rd {w : World} {base e s n : Nat} {v : Value} {xs : List Value} (h : w.ownsRow base e s v n xs) : ∃ A c, v = .slice A n c ∧ n ≤ c ∧ c ≤ 9223372036854775807 := own_cap h
theorem own_keep {w w' : World} {base e s n : Nat} {v : Value} {xs : List Value} (h : w.ownsRow base e s v n xs) (hb : ∀ k, v.ownBlock = some k → w'.heap[k]? = w.heap[k]?) : w'.ownsRow base e s v n xs := by
  refine ⟨h.1, ?_⟩
  rcases h.2 with h1 | ⟨g, cap, cur, rfl, h2, h3, h4⟩
  · exact .inl h1
  · refine .inr ⟨g, cap, cur, rfl, h2, ?_, h4⟩
    rw [hb g rfl]; exact h3
theorem iV_one (e : In) : ∀ u ∈ iV e, u.oneCell' = true := by
  intro u hu
  simp only [iV, List.mem_cons, List.not_mem_nil, or_false] at hu
  rcases hu with rfl | rfl | rfl | rfl | rfl | rfl <;> rfl
/-- What a triple makes. -/
def stepI (t : Tr) : In :=
  if t.a.tmod 3 = 0 then pI 1 (pk t.a 8 : Int) ((pk t.c 1000 : Int) - 500) 0 else if t.a.tmod 3 = 1 then pI 2 (pk t.a 8 : Int) (pk t.b 8 : Int) 0 else pI 3 (pk t.a 8 : Int) ((pk t.c 1000 : Int) - 500) 0
def progL (ts : List Tr) : List In := ts.map stepI
def wantG (ts : List Tr) (g : Nat → Int) : Nat → Int := ts.foldl (fun h t => wri (stepI t) h 5) g
theorem progL_snoc (ts : List Tr) (t : Tr) : progL (ts ++ [t]) = progL ts ++ [stepI t] := by simp [progL]
theorem wantG_snoc (ts : List Tr) (t : Tr) (g : Nat → Int) : wantG (ts ++ [t]) g = wri (stepI t) (wantG ts g) 5 := by simp [wantG]
theorem step_pI (t : Tr) : ∃ op a b c, stepI t = pI op a b c := by
  unfold stepI; split
  · exact ⟨_, _, _, _, rfl⟩
  · split <;> exact ⟨_, _, _, _, rfl⟩
theorem progL_pI (ts : List Tr) : ∀ e ∈ progL ts, ∃ op a b c, e = pI op a b c := by
  intro e he
  obtain ⟨t, _, rfl⟩ := List.mem_map.1 he
  exact step_pI t
theorem step_op (t : Tr) : (stepI t).op = 1 ∨ (stepI t).op = 2 ∨ (stepI t).op = 3 := by
  unfold stepI; split
  · exact .inl rfl
  · split
    · exact .inr (.inl rfl)
    · exact .inr (.inr rfl)
theorem step_may (t : Tr) (ins : Int) : mayB ins 16 (stepI t) = true := by
  have h1 := pk_lt t.a (m := 8) (by omega)
  have h2 := pk_lt t.b (m := 8) (by omega)
  unfold stepI
  generalize pk t.a 8 = x at *
  generalize pk t.b 8 = y at *
  split
  · simp [mayB, rowI, row, tab, fitsB, mostB, casB]; omega
  · split
    · simp [mayB, rowI, row, tab, fitsB, mostB, casB]; omega
    · simp [mayB, rowI, row, tab, fitsB, mostB, casB]; omega
theorem chkP {ts : List Tr} (h : ts.length ≤ 40) : checkB (progL ts) 16 = true := by
  unfold checkB
  rw [Bool.and_eq_true, List.all_eq_true]
  refine ⟨by simp [progL]; omega, fun e he => ?_⟩
  obtain ⟨t, _, rfl⟩ := List.mem_map.1 he
  exact step_may t _
theorem sum_at {ts : List Tr} {k : Nat} {t : Tr} (hl : ts.length ≤ 40) (hk : ts[k]? = some t) (g : Nat → Int) : doX (progL ts) k g 5 = (⟨(k : Int) + 1, wri (stepI t) g 5, false, 0, false⟩, 0) := by
  have hk' : (progL ts)[k]? = some (stepI t) := by simp [progL, hk]
  rw [doX_at g 5 (chkP hl) hk']
  have ho := step_op t
  rw [if_pos (by unfold mineB; simp; omega)]
  unfold doO nxt
  have h4 : ¬ (stepI t).op = 4 := by omega
  have h5 : ¬ (stepI t).op = 5 := by omega
  have h6 : ¬ (stepI t).op = 6 := by omega
  have h7 : ¬ (stepI t).op = 7 := by omega
  simp [h4, h5, h6, h7]
theorem sum_end {ts : List Tr} (hl : ts.length ≤ 40) (g : Nat → Int) : doX (progL ts) (ts.length : Int) g 5 = (⟨(ts.length : Int), g, false, 0, true⟩, 0) := by
  have h := doX_end g 5 (chkP hl)
  rwa [show (progL ts).length = ts.length by simp [progL]] at h
/-- What stands: the registers, what is wanted, the program. -/
structure SmS (W : World) (pv : Value) (n : Nat) (L : List In) (h1 h2 : Nat → Int) (w : World) : Prop where
  r : Bk w W.heap.size 23 (gR h1)
  v : Bk w (W.heap.size + 1) 23 (gR h2)
  own : w.ownsRow (W.heap.size + 2) 39 6 pv n (L.flatMap iV)
  len : L.length = n
  bel : Below W.heap.size W w
section
variable {W w w' : World} {pv pv' : Value} {n k : Nat} {L : List In} {h1 h2 : Nat → Int} {z : Int} {e : In}
theorem SmS.new (W : World) (g : Nat → Int) : SmS W (.slice none 0 0) 0 [] g g ((W.alloc (.cells (gR g) 23)).alloc (.cells (gR g) 23)) := by
  refine ⟨(Bk.new W _ 23).later (below_al _ _), ?_, World.ownsRow_nil _ _ _ _, rfl, two_new _ _ _⟩
  have h := Bk.new (W.alloc (.cells (gR g) 23)) (gR g) 23
  rw [World.size_alloc] at h; exact h
theorem SmS.later (h : SmS W pv n L h1 h2 w) (hb : Below w.heap.size w w') : SmS W pv n L h1 h2 w' :=
  ⟨h.r.later hb, h.v.later hb, own_keep h.own fun k hk => hb.block k (h.own.lt k hk).2, h.len, h.bel.trans (hb.mono h.bel.size)⟩
theorem SmS.app {o : Obj} (h : SmS W pv n L h1 h2 w) (hg : (w.alloc o).grownBy w' pv.ownBlock) (ho : w'.ownsRow (W.heap.size + 2) 39 6 pv' (n + 1) (L.flatMap iV ++ iV e)) : SmS W pv' (n + 1) (L ++ [e]) h1 h2 w' := by
  have ha := h.later (below_al w o)
  have hs := ha.v.lt
  have off : ∀ k, k < W.heap.size + 2 → pv.ownBlock ≠ some k := fun k hk e => by have := (h.own.lt k e).1; omega
  refine ⟨ha.r.keep (hg.block _ (by omega) fun e => off W.heap.size (by omega) e.symm), ha.v.keep (hg.block _ (by omega) fun e => off (W.heap.size + 1) (by omega) e.symm), ?_, by simp [h.len], ?_⟩
  · rw [List.flatMap_append]; simpa using ho
  · exact ha.bel.grown hg (Nat.le_trans ha.bel.size (Nat.le_refl _)) fun k hk => by have := (h.own.lt k hk).1; omega
theorem SmS.setV (h : SmS W pv n L h1 h2 w) (hk : k < 8) : SmS W pv n L h1 (upd h2 k z) (w.setCell ⟨W.heap.size + 1, k, none⟩ (.int .i64 z)) := by
  refine ⟨h.r.set_other (by omega) _, ?_, own_keep h.own fun b hb => Below.heap_setCell _ _ _ _ (show b ≠ W.heap.size + 1 by have := (h.own.lt b hb).1; omega), h.len, below_set h.bel (by omega) _⟩
  have h3 := h.v.set k (.int .i64 z)
  rwa [gR_set h2 hk] at h3
theorem SmS.setR (h : SmS W pv n L h1 h2 w) (g : Nat → Int) : SmS W pv n L g h2 (w.setRow W.heap.size (gR g)) :=
  ⟨h.r.row _, h.v.row_other (by omega) _, own_keep h.own fun k hk => setRow_other _ _ _ _ (by have := (h.own.lt k hk).1; omega), h.len, below_row h.bel (Nat.le_refl _) _⟩
theorem SmS.reg (h : SmS W pv n L h1 h2 w) (hk : k < 8) : w.cell? ⟨W.heap.size, k, none⟩ = some (.int .i64 (h1 k)) := by rw [h.r.cell, gR_at h1 hk]
theorem SmS.want (h : SmS W pv n L h1 h2 w) (hk : k < 8) : w.cell? ⟨W.heap.size + 1, k, none⟩ = some (.int .i64 (h2 k)) := by rw [h.v.cell, gR_at h2 hk]
theorem SmS.rd {A : Option Addr} {c : Nat} (h : SmS W (.slice A n c) n L h1 h2 w) (hp : ∀ e ∈ L, ∃ op a b c, e = pI op a b c) : RdI w A n L :=
  ⟨h.len, Rd.of_own h.own, fun e he => by obtain ⟨op, a, b, c, rfl⟩ := hp e he; exact pI_at _ _ _ _ _⟩
end
end Go.Proofs.YtgojnhbmelnpnaaDoor.Pg
