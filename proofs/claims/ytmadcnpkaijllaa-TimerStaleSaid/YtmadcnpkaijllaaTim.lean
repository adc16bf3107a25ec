/- Timers in memory: a heap, and periods by numbers; how they carry. No condition. -/
import Derived.Test.YtmadcnpkaijllaaRem
import Derived.Test.YtmadcnpkaijllaaClk
namespace Go.Proofs.Ytmadcnpkaijllaa
open Go.RowKit
set_option linter.unusedVariables false
set_option maxRecDepth 100000

/-- Block b is a map that holds g x at each x (0: it is not there), no more than n of them. -/
def Pm (w : World) (b n : Nat) (g : Int → Int) : Prop :=
  ∃ D : DataW Unit, w.ownsMap Try.prog 3 (plainElem Try.prog 3) b (Maps.size D) D ∧ Maps.size D ≤ n ∧ ∀ x, D.atKey (kL x) (dL 0) = dL (g x)
section
variable {w w' : World} {b n m : Nat} {g : Int → Int} {x v : Int}
theorem Pm.lt (h : Pm w b n g) : b < w.heap.size := by obtain ⟨D, h, _⟩ := h; exact h.lt
theorem Pm.blk (h : Pm w b n g) : ∃ es clock, w.heap[b]? = some (.map es clock) := by obtain ⟨D, ⟨es, clock, h, _⟩, _⟩ := h; exact ⟨es, clock, h⟩
theorem Pm.keep (h : Pm w b n g) (e : w'.heap[b]? = w.heap[b]?) : Pm w' b n g := by
  obtain ⟨D, ⟨es, clock, h1, h2⟩, h3⟩ := h
  exact ⟨D, ⟨es, clock, by rw [e]; exact h1, h2⟩, h3⟩
theorem Pm.up (h : Pm w b n g) (k : n ≤ m) : Pm w b m g := by
  obtain ⟨D, h1, h2, h3⟩ := h
  exact ⟨D, h1, Nat.le_trans h2 k, h3⟩
theorem Pm.new (w : World) : Pm (w.alloc (.map #[] 0)) w.heap.size 0 (fun _ => 0) :=
  ⟨.map [], World.ownsMap_made w Try.prog 3 (plainElem Try.prog 3), Nat.le_refl _, fun x => Maps.atKey_of_not_has rfl _⟩
theorem Pm.get (h : Pm w b n g) (hx : Wf x) : (Instr.lookup 69 (.map (some b)) (.int .i64 x) false).run Try.prog w = .ok (.int .i64 (g x)) w := by
  obtain ⟨D, h1, h2, h3⟩ := h
  obtain ⟨c, hrun, hat, _⟩ := h1.lookup_int law Try.underlying69 Try.underlying3 (zeroI w) (keyI hx)
  rw [h3 x] at hat
  rw [dL_inj hat]; exact hrun
theorem Pm.store (h : Pm w b n g) (hx : Wf x) (hv : Wf v) (hn : n < maxLen) :
    ∃ w', (Instr.mapUpdate 69 (.map (some b)) (.int .i64 x) (.int .i64 v)).run Try.prog w = .ok () w' ∧ Trn w w' b ∧ Pm w' b (n + 1) (fput g x v) := by
  obtain ⟨D, h1, h2, h3⟩ := h
  obtain ⟨w', hrun, ho, ht⟩ := h1.store law Try.underlying69 (Nat.lt_of_le_of_lt h2 hn) (keyI hx) (elI hv)
  refine ⟨w', hrun, turned_block ht, D.put (kL x) (dL v), own_exact ho, ?_, fun y => ?_⟩
  · rw [Maps.size_put (h1.tidy law)]
    split <;> omega
  · by_cases e : y = x
    · subst e
      rw [Maps.atKey_put_same h1.isMap (kL_key _), fput_at]
    · rw [Maps.atKey_put_other (kL_ne e), fput_ne e, h3]
theorem Pm.drop (h : Pm w b n g) (hx : Wf x) (ty : TypeId) :
    ∃ w', (Builtin.delete_ #[69, 3] ty #[.map (some b), .int .i64 x]).run Try.prog w = .ok (.tuple #[]) w' ∧ Trn w w' b ∧ Pm w' b n (fput g x 0) := by
  obtain ⟨D, h1, h2, h3⟩ := h
  obtain ⟨w', hrun, ho, ht⟩ := h1.drop law Try.underlying69 (keyI hx) ty
  have hs := Maps.size_del (k := kL x) (h1.tidy law)
  refine ⟨w', hrun, turned_block ht, D.del (kL x), own_exact ho, ?_, fun y => ?_⟩
  · split at hs <;> omega
  · by_cases e : y = x
    · subst e
      rw [Maps.atKey_del_same, fput_at]
    · rw [Maps.atKey_del_other (kL_ne e), fput_ne e, h3]
end
section
variable {ops : Array Oper} {rest : List Oper} {op : Oper} {a : Act} {Q : Exit → Act → World → Prop} {x v : Int} {w : World} {b n : Nat} {g : Int → Int}
theorem wp_pdrop (hg : op.guard = none) (u y : Operand) (hop : op.op = Op.call { callee := Callee.builtin Builtin.delete, args := #[u, y], argTypes := #[69, 3] })
    (h : Pm w b n g) (hx : Wf x) (hm : a.eval u = .map (some b)) (hy : a.eval y = .int .i64 x)
    (hK : ∀ w', Trn w w' b → Pm w' b n (fput g x 0) → wpList Try.prog ops Q rest (a.put op.dst (.tuple #[])) w') : wpList Try.prog ops Q (op :: rest) a w := by
  refine wpList_plain hg fun K' hK' => ?_
  obtain ⟨w', hrun, r1, r2⟩ := h.drop hx op.type
  unfold Oper.wp
  simp [execOp, hop, resolve, invoke, builtin, hm, hy, hrun, Result.andThen]
  exact hK' _ _ (hK w' r1 r2)
theorem wp_pstore (hg : op.guard = none) (m y z : Operand) (hop : op.op = Op.mapUpdate 69 m y z)
    (h : Pm w b n g) (hx : Wf x) (hv : Wf v) (hn : n < maxLen) (hm : a.eval m = .map (some b)) (hy : a.eval y = .int .i64 x) (hz : a.eval z = .int .i64 v)
    (hK : ∀ w', Trn w w' b → Pm w' b (n + 1) (fput g x v) → wpList Try.prog ops Q rest (a.put op.dst undef) w') : wpList Try.prog ops Q (op :: rest) a w := by
  refine wpList_plain hg fun K' hK' => ?_
  obtain ⟨w', hrun, r1, r2⟩ := h.store hx hv hn
  unfold Oper.wp
  simp [execOp, hop, hm, hy, hz, hrun, Result.andThen]
  exact hK' _ _ (hK w' r1 r2)
end

/-- Block t is timers: its heap at o, that one's map at b, its slice at p; periods at c. -/
structure TT (B t : Nat) (vA vL : Value) (o b c : Nat) (p : Option Nat) (n N : Nat) (S : List It) (g : Int → Int) (w : World) : Prop where
  hg : HG B w o b p n S
  ht : w.heap[t]? = some (.cells #[vA, .pointer (some ⟨o, 0, none⟩), .map (some c), vL] 73 (0, 0))
  pm : Pm w c N g
  ok : Ok n S
  gt : B ≤ t
  gc : B ≤ c
  ne : c ≠ b
/-- Nothing but the heap's blocks and the periods' has turned. -/
structure TC (o b c : Nat) (p p' : Option Nat) (w w' : World) : Prop where
  os : w'.os = w.os
  tape : w'.tape = w.tape
  output : w'.output = w.output
  size : w.heap.size ≤ w'.heap.size
  block : ∀ k, k < w.heap.size → k ≠ o → k ≠ b → k ≠ c → p ≠ some k → w'.heap[k]? = w.heap[k]?
  new : p' = p ∨ ∀ k, p' = some k → w.heap.size ≤ k
theorem TC.trans {o b c : Nat} {p p' p'' : Option Nat} {u v w : World} (h : TC o b c p p' u v) (k : TC o b c p' p'' v w) : TC o b c p p'' u w := by
  have h0 := h.size
  refine ⟨k.os.trans h.os, k.tape.trans h.tape, k.output.trans h.output, Nat.le_trans h.size k.size, fun i h1 h2 h3 h5 h4 => (k.block i (by omega) h2 h3 h5 (fun e => ?_)).trans (h.block i h1 h2 h3 h5 h4), ?_⟩
  · rcases h.new with h5 | h5
    · exact h4 (h5.symm.trans e)
    · have := h5 i e; omega
  · rcases k.new with h6 | h6
    · subst h6; exact h.new
    · exact .inr fun i hi => by have := h6 i hi; omega
theorem TC.of_below {o b c : Nat} (p : Option Nat) {w w' : World} (h : Below w.heap.size w w') : TC o b c p p w w' := ⟨h.os, h.tape, h.output, h.size, fun k hk _ _ _ _ => h.block k hk, .inl rfl⟩
theorem TC.of_chg {o b : Nat} (c : Nat) {p p' : Option Nat} {w w' : World} (h : Chg o b p p' w w') : TC o b c p p' w w' := ⟨h.os, h.tape, h.output, h.size, fun k hk h1 h2 _ h3 => h.block k hk h1 h2 h3, h.new⟩
theorem TC.of_trn {o b c : Nat} (p : Option Nat) {w w' : World} (h : Trn w w' c) : TC o b c p p w w' := by
  obtain ⟨h1, h2, h3, h4, h5⟩ := h
  exact ⟨h1, h2, h3, by omega, fun k _ _ _ h6 _ => h5 k h6, .inl rfl⟩
/-- No row of another kind has turned. -/
def OX (w w' : World) : Prop := ∀ (k : Nat) (cs : Array Value) (t : TypeId) (fr : Nat × Nat), w.heap[k]? = some (.cells cs t fr) → t ≠ 120 → t ≠ 106 → w'.heap[k]? = some (.cells cs t fr)
theorem OX.refl (w : World) : OX w w := fun _ _ _ _ h _ _ => h
theorem OX.trans {u v w : World} (h : OX u v) (k : OX v w) : OX u w := fun i cs t fr h1 h2 h3 => k i cs t fr (h i cs t fr h1 h2 h3) h2 h3
theorem OX.of_below {w w' : World} (h : Below w.heap.size w w') : OX w w' := fun k cs t fr h1 _ _ => (h.block k (lt_of_blk h1)).trans h1
theorem OX.row {w w' : World} {B e s n c : Nat} {P : Option Addr} {xs : List Value} (h : OX w w') (r : w.ownsRow B e s (.slice P n c) n xs) (h1 : e ≠ 120) (h2 : e ≠ 106) : w'.ownsRow B e s (.slice P n c) n xs :=
  row_keep r fun k hk => by
    obtain ⟨cs, fr, ht⟩ := row_tag r hk
    rw [ht]; exact h k cs e fr ht h1 h2
/-- What a call answers, and what the timers have come to be: with their blocks .. -/
def XC (B t : Nat) (vA vL : Value) (o b c : Nat) (p : Option Nat) (n N : Nat) (S : List It) (g : Int → Int) (v : Value) (w : World) (e : Ending) (w' : World) : Prop :=
  e = .returned v ∧ ∃ p', TT B t vA vL o b c p' n N S g w' ∧ TC o b c p p' w w'
/-- .. and without. -/
def TN (B t : Nat) (vA vL : Value) (o b c n : Nat) (S : List It) (g : Int → Int) (w : World) : Prop := ∃ p N, N ≤ n ∧ TT B t vA vL o b c p n N S g w
def XR (B t : Nat) (vA vL : Value) (o b c n : Nat) (S : List It) (g : Int → Int) (v : Value) (w : World) (e : Ending) (w' : World) : Prop :=
  e = .returned v ∧ TN B t vA vL o b c n S g w' ∧ Below B w w' ∧ OX w w'
section
variable {B t o b c n n' N N' : Nat} {vA vL : Value} {p p' : Option Nat} {S S' : List It} {g g' : Int → Int} {w w' : World} {e : Ending} {v : Value}
theorem TT.c0 (h : TT B t vA vL o b c p n N S g w) : w.cell? ⟨t, 1, none⟩ = some (.pointer (some ⟨o, 0, none⟩)) := by rw [cell_of_row w t 1 _ _ _ h.ht]; rfl
theorem TT.c1 (h : TT B t vA vL o b c p n N S g w) : w.cell? ⟨t, 2, none⟩ = some (.map (some c)) := by rw [cell_of_row w t 2 _ _ _ h.ht]; rfl
theorem TT.lt (h : TT B t vA vL o b c p n N S g w) : t < w.heap.size := lt_of_blk h.ht
theorem TT.hB (h : TT B t vA vL o b c p n N S g w) : B ≤ w.heap.size := by have := h.lt; have := h.gt; omega
theorem TT.later (h : TT B t vA vL o b c p n N S g w) (hb : Below w.heap.size w w') : TT B t vA vL o b c p n N S g w' :=
  ⟨h.hg.later hb, (hb.block _ h.lt).trans h.ht, h.pm.keep (hb.block _ h.pm.lt), h.ok, h.gt, h.gc, h.ne⟩
/-- The timers' own block, and the periods', are none of the heap's. -/
theorem TT.apart (h : TT B t vA vL o b c p n N S g w) : (t ≠ o ∧ t ≠ b ∧ p ≠ some t) ∧ c ≠ o ∧ p ≠ some c ∧ t ≠ c := by
  obtain ⟨es, cl, hc⟩ := h.pm.blk
  refine ⟨⟨?_, ?_, ?_⟩, ?_, ?_, ?_⟩
  · rintro rfl
    obtain ⟨cs', fr', h4⟩ := h.hg.to
    have h5 := h.ht
    rw [h4] at h5; injection h5 with h5; injection h5 with _ h5 _; cases h5
  · rintro rfl
    obtain ⟨es, cl, h4⟩ := h.hg.tb
    have h5 := h.ht
    rw [h4] at h5; cases h5
  · intro hk
    obtain ⟨cs', fr', h4⟩ := h.hg.tp hk
    have h5 := h.ht
    rw [h4] at h5; injection h5 with h5; injection h5 with _ h5 _; cases h5
  · rintro rfl
    obtain ⟨cs', fr', h4⟩ := h.hg.to
    rw [h4] at hc; cases hc
  · intro hk
    obtain ⟨cs', fr', h4⟩ := h.hg.tp hk
    rw [h4] at hc; cases hc
  · rintro rfl
    have h5 := h.ht
    rw [hc] at h5; cases h5
theorem TT.go (h : TT B t vA vL o b c p n N S g w) (ok : Ok n' S') (cr : ChR B o b p n' S' v w e w') : XC B t vA vL o b c p n' N S' g v w e w' := by
  obtain ⟨h1, p', h2, h3⟩ := cr
  obtain ⟨⟨a1, a2, a3⟩, a4, a5, _⟩ := h.apart
  exact ⟨h1, p', ⟨h2, (h3.block t h.lt a1 a2 a3).trans h.ht, h.pm.keep (h3.block c h.pm.lt a4 h.ne a5), ok, h.gt, h.gc, h.ne⟩, TC.of_chg c h3⟩
theorem TT.mapped (h : TT B t vA vL o b c p n N S g w) (ht : Trn w w' c) (pm : Pm w' c N' g') : TT B t vA vL o b c p n N' S g' w' ∧ TC o b c p p w w' := by
  obtain ⟨⟨a1, a2, a3⟩, a4, a5, a6⟩ := h.apart
  have k := ht.2.2.2.2
  exact ⟨⟨h.hg.keep (k o a4.symm) (k b h.ne.symm) (fun j hj => k j fun e => a5 (by rw [← e]; exact hj)), (k t a6).trans h.ht, pm, h.ok, h.gt, h.gc, h.ne⟩, TC.of_trn p ht⟩
theorem TT.low (h : TT B t vA vL o b c p n N S g w) (hc : TC o b c p p' w w') : Below B w w' := by
  have hB := h.hB
  have hgc := h.gc
  obtain ⟨P, cc, m, f, e0, h1, _⟩ := h.hg
  have := h1.go
  have := h1.gb
  refine ⟨hc.os, hc.tape, hc.output, hc.size, fun k hk => hc.block k (by omega) (by omega) (by omega) (by omega) fun e => ?_⟩
  have := (row_lt h1.own (e0.trans e)).1
  omega
theorem TT.ox (h : TT B t vA vL o b c p n N S g w) (hc : TC o b c p p' w w') : OX w w' := fun k cs ty fr h1 h2 h3 => by
  rw [hc.block k (lt_of_blk h1) ?_ ?_ ?_ ?_]; exact h1
  · rintro rfl
    obtain ⟨cs', fr', h4⟩ := h.hg.to
    rw [h4] at h1; injection h1 with h1; injection h1 with _ h1 _; exact h2 h1.symm
  · rintro rfl
    obtain ⟨es, cl, h4⟩ := h.hg.tb
    rw [h4] at h1; cases h1
  · rintro rfl
    obtain ⟨es, cl, h4⟩ := h.pm.blk
    rw [h4] at h1; cases h1
  · intro hk
    obtain ⟨cs', fr', h4⟩ := h.hg.tp hk
    rw [h4] at h1; injection h1 with h1; injection h1 with _ h1 _; exact h3 h1.symm
theorem TT.xr (h : TT B t vA vL o b c p n N S g w) (hN : N' ≤ n') (x : XC B t vA vL o b c p n' N' S' g' v w e w') : XR B t vA vL o b c n' S' g' v w e w' := by
  obtain ⟨h1, p', h2, h3⟩ := x
  exact ⟨h1, ⟨p', N', hN, h2⟩, h.low h3, h.ox h3⟩
theorem TN.later (h : TN B t vA vL o b c n S g w) (hb : Below w.heap.size w w') : TN B t vA vL o b c n S g w' := by
  obtain ⟨p, N, hN, h⟩ := h
  exact ⟨p, N, hN, h.later hb⟩
theorem TN.hB (h : TN B t vA vL o b c n S g w) : B ≤ w.heap.size := by obtain ⟨p, N, hN, h⟩ := h; exact h.hB
theorem TN.ok (h : TN B t vA vL o b c n S g w) : Ok n S := by obtain ⟨p, N, hN, h⟩ := h; exact h.ok
theorem TN.same (h : TN B t vA vL o b c n S g w) (hr : e = .returned v ∧ Below w.heap.size w w') : XR B t vA vL o b c n S g v w e w' :=
  ⟨hr.1, h.later hr.2, hr.2.mono h.hB, OX.of_below hr.2⟩
/-- A store into a row of another kind. -/
theorem TT.cell (h : TT B t vA vL o b c p n N S g w) {s ty j : Nat} {cs : Array Value} {fr : Nat × Nat} (ht : w.heap[s]? = some (.cells cs ty fr)) (h1 : ty ≠ 120) (h2 : ty ≠ 106) (h3 : ty ≠ 73) (v : Value) : TT B t vA vL o b c p n N S g (w.setCell ⟨s, j, none⟩ v) := by
  have key : ∀ k, k ≠ s → (w.setCell ⟨s, j, none⟩ v).heap[k]? = w.heap[k]? := fun k hk => Below.heap_setCell _ _ _ _ (by exact hk)
  refine ⟨h.hg.keep (key o ?_) (key b ?_) (fun k hk => key k ?_), (key t ?_).trans h.ht, h.pm.keep (key c ?_), h.ok, h.gt, h.gc, h.ne⟩
  · rintro rfl
    obtain ⟨cs', fr', h4⟩ := h.hg.to
    rw [ht] at h4; injection h4 with h4; injection h4 with _ h4 _; exact h1 h4
  · rintro rfl
    obtain ⟨es, cl, h4⟩ := h.hg.tb
    rw [ht] at h4; cases h4
  · rintro rfl
    obtain ⟨cs', fr', h4⟩ := h.hg.tp hk
    rw [ht] at h4; injection h4 with h4; injection h4 with _ h4 _; exact h2 h4
  · rintro rfl
    have h4 := h.ht
    rw [ht] at h4; injection h4 with h4; injection h4 with _ h4 _; exact h3 h4
  · rintro rfl
    obtain ⟨es, cl, h4⟩ := h.pm.blk
    rw [ht] at h4; cases h4
theorem TN.cell (h : TN B t vA vL o b c n S g w) {s ty j : Nat} {cs : Array Value} {fr : Nat × Nat} (ht : w.heap[s]? = some (.cells cs ty fr)) (h1 : ty ≠ 120) (h2 : ty ≠ 106) (h3 : ty ≠ 73) (v : Value) : TN B t vA vL o b c n S g (w.setCell ⟨s, j, none⟩ v) := by
  obtain ⟨p, N, hN, h⟩ := h
  exact ⟨p, N, hN, h.cell ht h1 h2 h3 v⟩
end
end Go.Proofs.Ytmadcnpkaijllaa
