/- Channels beside a row of cases and a row of numbers, all of a law's own. Conditions: each theorem's own premises. -/
import Derived.Test.YtmcacmbllpphiaaGs
namespace Go.Proofs.Ytmcacmbllpphiaa
open Go.RowKit
set_option linter.unusedVariables false

structure RQ (W : World) (B : List Nat) (S : List CS) (v : Value) (l : List Ca) (u : Value) (r : List Int) (w : World) : Prop where
  pc : ∃ F, PC W B S [] [] F w ∧ ∀ b, u.ownBlock = some b → ¬ F b
  row : w.ownsRow W.heap.size 65 3 v l.length (caF B l)
  ints : w.ownsRow W.heap.size 3 1 u r.length (iV r)
section
variable {W w w' : World} {B B' : List Nat} {S S' : List CS} {v v' u u' : Value} {l l' : List Ca} {r r' : List Int} {c : Nat} {s : CS}
theorem RQ.start (W : World) : RQ W [] [] (.slice none 0 0) [] (.slice none 0 0) [] W := ⟨⟨_, PC.nil W, fun b h => by cases h⟩, World.ownsRow_nil _ _ _ _, World.ownsRow_nil _ _ _ _⟩
theorem RQ.zs (h : RQ W B S v l u r w) : ZS W B S w := by obtain ⟨F, h, _⟩ := h.pc; exact ⟨F, h⟩
theorem RQ.bel (h : RQ W B S v l u r w) : Below W.heap.size W w := h.zs.bel
theorem RQ.size (h : RQ W B S v l u r w) : W.heap.size ≤ w.heap.size := h.bel.size
theorem RQ.later (h : RQ W B S v l u r w) (hb : Below w.heap.size w w') : RQ W B S v l u r w' := by
  obtain ⟨⟨F, h1, h2⟩, h3, h4⟩ := h
  exact ⟨⟨F, h1.later hb, h2⟩, own_kept h3 fun b e => hb.block b (h3.lt b e).2, own_kept h4 fun b e => hb.block b (h4.lt b e).2⟩
theorem RQ.at (h : RQ W B S v l u r w) : ∃ F, PC W B S [] [] F w ∧ ∀ S' w', PN W B S' [] [] F w w' → RQ W B S' v l u r w' ∧ Ko w w' := by
  obtain ⟨⟨F, h1, h2⟩, h3, h4⟩ := h
  refine ⟨F, h1, fun S' w' k => ?_⟩
  have hz := (PN.zs h1 k).2
  obtain ⟨F2, k1, k2, k3⟩ := k
  refine ⟨⟨⟨F2, k1, fun b e hf => ?_⟩, own_kept h3 fun b e => ?_, own_kept h4 fun b e => k3.2 b (h4.lt b e).2 (h2 b e) (by simp)⟩, hz⟩
  · rcases k2 b hf with h9 | h9
    · exact h2 b e h9
    · have := (h4.lt b e).2; omega
  · obtain ⟨cs, h8⟩ := own_tg h3 e
    exact (hz.2 _ _ _ _ h8 o65).trans h8.symm
theorem RQ.add (h : RQ W B S v l u r w) (m : Mk c s w w') (hp : ∀ x ∈ l, ptr (B ++ [c]) x = ptr B x) : RQ W (B ++ [c]) (S ++ [s]) v l u r w' := by
  obtain ⟨⟨F, h1, h2⟩, h3, h4⟩ := h
  obtain ⟨F', k1, k2, hb⟩ := h1.add m
  refine ⟨⟨F', k1, fun b e hf => ?_⟩, ?_, own_kept h4 fun b e => hb.block b (h4.lt b e).2⟩
  · rcases k2 b hf with h9 | h9
    · exact h2 b e h9
    · have := (h4.lt b e).2; omega
  · have e : caF (B ++ [c]) l = caF B l := by
      unfold caF
      simp only [List.flatMap]
      congr 1
      exact List.map_congr_left fun x hx => by simp only [caV, hp x hx]
    rw [e]
    exact own_kept h3 fun b e => hb.block b (h3.lt b e).2
/-- The row of cases has grown. -/
theorem RQ.growV (h : RQ W B S v l u r w) (hg : w.grownBy w' v.ownBlock) (row : w'.ownsRow W.heap.size 65 3 v' l'.length (caF B l')) : RQ W B S v' l' u r w' := by
  obtain ⟨⟨F, h1, h2⟩, h3, h4⟩ := h
  have hne : ∀ b, F b → v.ownBlock ≠ some b := fun b hf e => by
    obtain ⟨cs, h8⟩ := own_tg h3 e
    exact not_isc h8 (by decide) (h1.isc hf)
  obtain ⟨G, g1, g2, g3, g4⟩ := h1.ch
  refine ⟨⟨F, ⟨below_app h1.bel (Nat.le_refl _) h1.bel.size h3 hg, h1.low, ⟨G, fun i c s e1 e2 => ?_, g2, g3, g4⟩, h1.eb, rfl, fun i m t h => by simp at h, List.nodup_nil⟩, h2⟩, row, own_kept h4 fun b e => hg.block b (h4.lt b e).2 fun e2 => ?_⟩
  · have hd := g1 i c s e1 e2
    exact hd.keep fun b hb => hg.block b (hd.lt hb) fun e => hne b (g2 i b hb).1 e.symm
  · obtain ⟨cs, h8⟩ := own_tg h3 e2.symm
    obtain ⟨ds, h9⟩ := own_tg h4 e
    exact tag_ne h8 h9 (by decide) rfl
/-- The row of numbers has grown, or turned. -/
theorem RQ.growU (h : RQ W B S v l u r w) (hg : w.grownBy w' u.ownBlock) (ints : w'.ownsRow W.heap.size 3 1 u' r'.length (iV r')) (ho : ∀ b, u'.ownBlock = some b → u.ownBlock = some b ∨ b = w.heap.size) : RQ W B S v l u' r' w' := by
  obtain ⟨⟨F, h1, h2⟩, h3, h4⟩ := h
  have hne : ∀ b, F b → u.ownBlock ≠ some b := fun b hf e => h2 b e hf
  obtain ⟨G, g1, g2, g3, g4⟩ := h1.ch
  refine ⟨⟨F, ⟨below_app h1.bel (Nat.le_refl _) h1.bel.size h4 hg, h1.low, ⟨G, fun i c s e1 e2 => ?_, g2, g3, g4⟩, h1.eb, rfl, fun i m t h => by simp at h, List.nodup_nil⟩, fun b e hf => ?_⟩, own_kept h3 fun b e => hg.block b (h3.lt b e).2 fun e2 => ?_, ints⟩
  · have hd := g1 i c s e1 e2
    exact hd.keep fun b hb => hg.block b (hd.lt hb) fun e => hne b (g2 i b hb).1 e.symm
  · rcases ho b e with h9 | h9
    · exact h2 b h9 hf
    · have := h1.lt hf; omega
  · obtain ⟨cs, h8⟩ := own_tg h3 e
    obtain ⟨ds, h9⟩ := own_tg h4 e2.symm
    exact tag_ne h8 h9 (by decide) rfl
theorem RQ.rd (h : RQ W B S v l u r w) : ∃ A cap, v = .slice A l.length cap ∧ RdX 65 B w A l.length l := RdX.of_own rfl h.row
/-- Anew: no channels, no cases; the numbers stay. -/
theorem RQ.anew (h : RQ W B S v l u r w) : RQ W [] [] (.slice none 0 0) [] u r w :=
  ⟨⟨fun _ => False, ⟨h.bel, fun _ h => h.elim, ⟨fun _ _ => False, fun i c s h => by simp at h, fun _ _ h => h.elim, fun _ h => h.elim, fun _ _ _ h => h.elim⟩, rfl, rfl, fun i m t h => by simp at h, List.nodup_nil⟩, fun _ _ h => h.elim⟩, World.ownsRow_nil _ _ _ _, h.ints⟩

theorem rq_new (h : RQ W B S v l u r w) (n : Nat) (hn : n ≤ 64) (hp : ∀ c, ∀ x ∈ l, ptr (B ++ [c]) x = ptr B x) : Calls Try.prog 22 #[.int .i64 n] w fun e w' => ∃ c, e = .returned (.tuple #[.pointer (some ⟨c, 0, none⟩), .int .i64 0]) ∧ RQ W (B ++ [c]) (S ++ [⟨0, false, n, [], [], []⟩]) v l u r w' ∧ Ko w w' := by
  refine (new_yes n w hn).mono ?_
  rintro e w' ⟨c, rfl, m⟩
  exact ⟨c, rfl, h.add m (hp c), Ko.of_below m.bel⟩
variable {ws : List Wk} {d : Bool} {n i : Nat} {s' : CS}
theorem rq_send (x : Int) (h : RQ W B S v l u r w) (hB : B[i]? = some c) (hi : S[i]? = some s) (hk : s.kd = 0) (hc : s.cl = false) (hn : s.rs.length ≤ 1000000) (hg : gv s x = (s', ws, d)) (hl : ws.length = n) :
    Calls Try.prog 23 #[.pointer (some ⟨c, 0, none⟩), .int .i64 x] w fun e w' => ∃ A cap, e = .returned (.tuple #[.bool d, .slice A n cap, .int .i64 0]) ∧ RQ W B (S.set i s') v l u r w' ∧ Ko w w' := by
  subst hl
  obtain ⟨F, hp, bk⟩ := h.at
  obtain ⟨Fi, hch, bk2⟩ := hp.chan hB hi
  refine (send_any x hch hk hc hn).mono ?_
  rw [hg]
  rintro e w' ⟨A, cap, rfl, hr, g⟩
  exact ⟨A, cap, rfl, bk _ _ (bk2 _ _ g)⟩
variable {A : Option Addr} {m : Nat} {re : Re} {code : Int}
theorem rq_do {cap : Nat} (df : Bool) (draw task : Int) (hT : Wf task) (h : RQ W B S v l u r w) (hb : BN 100 S) (hl : RdX 65 B w A n l) (hn : n ≤ 1000) (hg : doS S l df draw task = (S', re, ws, code)) (hm : ws.length = m) :
    Calls Try.prog 16 #[.slice A n cap, .bool df, .int .i64 draw, .int .i64 task] w fun e w' => ∃ A cap, e = .returned (.tuple #[reG re, .slice A m cap, .int .i64 code]) ∧ RQ W B S' v l u r w' ∧ Ko w w' := by
  subst hm
  obtain ⟨F, hp, bk⟩ := h.at
  refine (Do_any df draw task hT hp hb hl hn).mono ?_
  rw [hg]
  rintro e w' ⟨A, cap, rfl, hr, g⟩
  exact ⟨A, cap, rfl, bk _ _ g⟩
end
end Go.Proofs.Ytmcacmbllpphiaa
