/- The document's own contexts in memory: one block, a tree, a row of nodes, two rows of numbers, a channel for each; what carries them. No condition.
The document's own contexts: their cells; what a store, an append, a call of the tree or the timers leaves of them. No condition.
What in, at, Err, Until, Done, Len of the document's contexts answer. Conditions: each theorem's own premises.
A cancellation, kid by kid: plain mathematics of what falls. No condition but those that each names.
A fall in memory: what has been told, what is left, and what each step makes of it. No condition but those that each names.
A fall, kid by kid: what is known ahead of each kid, and behind it. No condition but those that each names. -/
import Derived.Test.YtdpapnfjpefhkaaGreatCwk
import Derived.Test.YtdpapnfjpefhkaaGreatTDetm
import Derived.Test.YtdpapnfjpefhkaaGreatRssm
import Derived.Test.YtdpapnfjpefhkaaGreatCMem
namespace Go.Proofs.YtdpapnfjpefhkaaGreat
open Go.RowKit Tr
set_option linter.unusedVariables false
set_option maxRecDepth 100000
def T103 (w : World) (b : Nat) : Prop := ∃ cs, w.heap[b]? = some (.cells cs 103 (0, 0))
def RH (w : World) (c : Nat) (s : Ch.CS) : Prop := s.l = [] ∧ s.ss = [] ∧ Ch.MD w (T103 w) c s
section
variable {W w w' w'' wx w1 : World} {c k n cc : Nat} {s s' : Ch.CS} {ok : Nat → Prop} {a : Option Addr} {xs : List Value}
theorem Ro.tagged (h : Ch.Ro w ok a n cc 3 xs) (hs : w.heap.size ≤ w'.heap.size) (k : ∀ (b : Nat) (cs : Array Value), w.heap[b]? = some (.cells cs 103 (0, 0)) → w'.heap[b]? = some (.cells cs 103 (0, 0))) : Ch.Ro w' (T103 w') a n cc 3 xs :=
 ⟨h.1, h.2.1, h.2.2.1, fun h0 => by
  obtain ⟨b, off, e, hl, ho, ⟨cs, ty, t1, t2⟩, hc⟩ := h.2.2.2 h0
  rw [if_neg (by decide)] at t2
  subst t2
  exact ⟨b, off, e, by omega, ⟨cs, k b cs t1⟩, ⟨cs, 103, k b cs t1, by rw [if_neg (by decide)]⟩, fun j u hu => (cell_blk ((k b cs t1).trans t1.symm) _).trans (hc j u hu)⟩⟩
theorem Ro.none (h : Ch.Ro w ok a 0 cc n xs) (ok' : Nat → Prop) (w' : World) : Ch.Ro w' ok' a 0 cc n xs := ⟨h.1, h.2.1, h.2.2.1, fun h0 => absurd h0 (by omega)⟩
theorem RH.make (h1 : s.l = []) (h2 : s.ss = []) (x : Ch.MD w ok c s) (hs : w.heap.size ≤ w'.heap.size) (hc : w'.heap[c]? = w.heap[c]?) (k : ∀ (b : Nat) (cs : Array Value), w.heap[b]? = some (.cells cs 103 (0, 0)) → w'.heap[b]? = some (.cells cs 103 (0, 0))) : RH w' c s := by
 obtain ⟨b, q, r, x⟩ := x
 refine ⟨h1, h2, b, q, r, hc.trans x.hb, ?_, ?_, Ro.tagged x.rr hs k, ?_⟩
 · have := x.rb; rw [h1] at this ⊢; exact Ro.none this _ _
 · have := x.rq; rw [h2] at this ⊢; exact Ro.none this _ _
 · rintro ⟨cs, e⟩
   rw [hc, x.hb] at e; cases e
theorem RH.keep (h : RH w c s) (hs : w.heap.size ≤ w'.heap.size) (hc : w'.heap[c]? = w.heap[c]?) (k : ∀ (b : Nat) (cs : Array Value), w.heap[b]? = some (.cells cs 103 (0, 0)) → w'.heap[b]? = some (.cells cs 103 (0, 0))) : RH w' c s := RH.make h.1 h.2.1 h.2.2 hs hc k
theorem RH.blk (h : RH w c s) : ∃ cs, w.heap[c]? = some (.cells cs 114 (0, 0)) := by obtain ⟨_, _, b, q, r, x⟩ := h; exact ⟨_, x.hb⟩
theorem RH.of_mo (h : Ch.Mo ok c s w w') (h1 : s.l = []) (h2 : s.ss = []) : RH w' c s := RH.make h1 h2 h.1 (Nat.le_refl _) rfl fun b cs e => e
theorem RH.later (h : RH w c s) (b : Below w.heap.size w w') : RH w' c s := h.keep b.size (b.block _ (by obtain ⟨cs, e⟩ := h.blk; exact lt_of_blk e)) fun k cs e => (b.block k (lt_of_blk e)).trans e
theorem RH.cl (h : RH w c s) : w.cell? ⟨c, 3, none⟩ = some (.bool s.cl) := by obtain ⟨_, _, b, q, r, x⟩ := h; exact x.c3
end
structure Nd where
 af : Bool
 no : Nat
 pg : Int
 gn : Bool
 pl : Bool
 er : Int
 cs : Int
 wh : Int
 has : Bool
 own : Bool
 tm : Int
 ch : Option Nat
def nE (n : Nd) : List Value := [.bool n.af, .int .i64 n.no, .int .i64 n.pg, .bool n.gn, .bool n.pl, .int .i64 n.er, .int .i64 n.cs, .int .i64 n.wh, .bool n.has, .bool n.own, .int .i64 n.tm, .pointer (cp n.ch)]
theorem nE_len (n : Nd) : (nE n).length = 12 := rfl
theorem nE_one (n : Nd) : ∀ u ∈ nE n, u.oneCell' = true := by intro u hu; simp [nE] at hu; rcases hu with rfl | rfl | rfl | rfl | rfl | rfl | rfl | rfl | rfl | rfl | rfl | rfl <;> rfl
def ndC (i : Nat) (x : Cx) : Nd := ⟨false, i, 0, false, x.ch.isNone, x.er, x.cs, x.wh, x.has, x.own, x.lp, x.ch⟩
def ndA (j : Nat) (pg : Int) (l : Bool) : Nd := ⟨true, j, pg, !l, false, 0, 0, 0, false, false, -1, none⟩
structure NR (T : TS) (C : List Cx) (A : List Af) (N : List Nd) : Prop where
 len : N.length = T.length
 c : ∀ (i : Nat) (x : Cx), C[i]? = some x → N[x.nd]? = some (ndC i x)
 a : ∀ (j : Nat) (a : Af), A[j]? = some a → ∃ q l, T[a.nd]? = some (q, l) ∧ N[a.nd]? = some (ndA j a.pg l)
structure Lr where
 PN : Option Addr
 cN : Nat
 PX : Option Addr
 cX : Nat
 PY : Option Addr
 cY : Nat
 Q : Option Addr
 cQ : Nat
def rV (mo : Nat) (n x y : Value) : Nat → Value
 | 0 => .pointer (some ⟨mo, 0, none⟩)
 | 2 => n
 | 3 => x
 | 4 => y
 | _ => .pointer none
def xV (C : List Cx) : List Value := C.map fun x => .int .i64 (x.nd : Int)
def yV (A : List Af) : List Value := A.map fun a => .int .i64 (a.nd : Int)
structure RM (W : World) (m mo : Nat) (T : TS) (N : List Nd) (C : List Cx) (A : List Af) (o : Lr) (w : World) : Prop where
 bel : Below W.heap.size W w
 tr : Tr.MX (rV mo (.slice o.PN N.length o.cN) (.slice o.PX C.length o.cX) (.slice o.PY A.length o.cY)) w m o.Q o.cQ T
 rn : w.ownsRow 0 155 12 (.slice o.PN N.length o.cN) N.length (N.flatMap nE)
 rx : w.ownsRow 0 3 1 (.slice o.PX C.length o.cX) C.length (xV C)
 ry : w.ownsRow 0 3 1 (.slice o.PY A.length o.cY) A.length (yV A)
 lm : W.heap.size ≤ m
 lo : ∀ k, blk o.Q = some k ∨ blk o.PN = some k ∨ blk o.PX = some k ∨ blk o.PY = some k → W.heap.size ≤ k
 xy : ∀ k, blk o.PX = some k → blk o.PY ≠ some k
 ch : ∀ (i : Nat) (x : Cx) (c : Nat), C[i]? = some x → x.ch = some c → W.heap.size ≤ c ∧ RH w c (chS x)
 dj : ∀ (i j : Nat) (x y : Cx) (c : Nat), C[i]? = some x → C[j]? = some y → x.ch = some c → y.ch = some c → i = j
def oR (m : Nat) (o : Lr) (C : List Cx) (k : Nat) : Prop := k = m ∨ blk o.Q = some k ∨ blk o.PN = some k ∨ blk o.PX = some k ∨ blk o.PY = some k ∨ ∃ (i : Nat) (x : Cx), C[i]? = some x ∧ x.ch = some k
def TgR (ty : TypeId) : Prop := ty = 152 ∨ ty = 212 ∨ ty = 155 ∨ ty = 3 ∨ ty = 114
section
variable {W w w' wx w1 : World} {m mo g cap k i : Nat} {T T' : TS} {N : List Nd} {C : List Cx} {A : List Af} {o : Lr}
theorem RM.tag (h : RM W m mo T N C A o w) (hk : oR m o C k) : Tg TgR w k := by
 rcases hk with rfl | hk | hk | hk | hk | ⟨i, x, h1, h2⟩
 · exact ⟨_, _, _, h.tr.hm, .inl rfl⟩
 · exact (tag_row h.tr.own hk).imp fun ty e => by subst e; simp [TgR]
 · exact (tag_row h.rn hk).imp fun ty e => by subst e; simp [TgR]
 · exact (tag_row h.rx hk).imp fun ty e => by subst e; simp [TgR]
 · exact (tag_row h.ry hk).imp fun ty e => by subst e; simp [TgR]
 · obtain ⟨cs, e⟩ := (h.ch i x k h1 h2).2.blk
   exact ⟨_, _, _, e, by simp [TgR]⟩
theorem RM.low (h : RM W m mo T N C A o w) (hk : oR m o C k) : W.heap.size ≤ k := by
 rcases hk with rfl | hk | hk | hk | hk | ⟨i, x, h1, h2⟩
 · exact h.lm
 · exact h.lo k (.inl hk)
 · exact h.lo k (.inr (.inl hk))
 · exact h.lo k (.inr (.inr (.inl hk)))
 · exact h.lo k (.inr (.inr (.inr hk)))
 · exact (h.ch i x k h1 h2).1
theorem RM.lt (h : RM W m mo T N C A o w) (hk : oR m o C k) : k < w.heap.size := (h.tag hk).lt
theorem RM.keep (h : RM W m mo T N C A o w) (hs : w.heap.size ≤ w'.heap.size) (hb : ∀ k, oR m o C k → w'.heap[k]? = w.heap[k]?) (k : ∀ (b : Nat) (cs : Array Value), w.heap[b]? = some (.cells cs 103 (0, 0)) → w'.heap[b]? = some (.cells cs 103 (0, 0))) (b : Below W.heap.size W w') : RM W m mo T N C A o w' :=
 ⟨b, h.tr.keep (hb m (.inl rfl)) fun k hk => hb k (.inr (.inl hk)), row_keep h.rn fun k hk => hb k (.inr (.inr (.inl hk))), row_keep h.rx fun k hk => hb k (.inr (.inr (.inr (.inl hk)))), row_keep h.ry fun k hk => hb k (.inr (.inr (.inr (.inr (.inl hk))))), h.lm, h.lo, h.xy,
  fun i x c h1 h2 => ⟨(h.ch i x c h1 h2).1, (h.ch i x c h1 h2).2.keep hs (hb c (.inr (.inr (.inr (.inr (.inr ⟨i, x, h1, h2⟩)))))) k⟩, h.dj⟩
theorem RM.later (h : RM W m mo T N C A o w) (b : Below w.heap.size w w') : RM W m mo T N C A o w' :=
 h.keep b.size (fun k hk => b.block k (h.lt hk)) (fun j cs e => (b.block j (lt_of_blk e)).trans e) (h.bel.trans (b.mono h.bel.size))
end
def Rm (O : Nat → Prop) (w w' : World) : Prop := w.heap.size ≤ w'.heap.size ∧ ∀ (k : Nat) (o : Obj), w.heap[k]? = some o → ¬ O k → (∀ cs fr, o ≠ .cells cs 68 fr ∧ o ≠ .cells cs 215 fr ∧ o ≠ .cells cs 178 fr) → w'.heap[k]? = some o
def RC (W : World) (m mo : Nat) (s : St) (O : Nat → Prop) (w : World) : Prop := (∃ N o, RM W m mo s.T N s.C s.A o w ∧ NR s.T s.C s.A N ∧ ∀ k, O k ↔ oR m o s.C k) ∧ RS W mo s.E 0 s.n s.S z0 w
def RG (W : World) (m mo : Nat) (s : St) (O : Nat → Prop) (w w' : World) : Prop := ∃ O', RC W m mo s O' w' ∧ (∀ k, O' k → O k ∨ w.heap.size ≤ k) ∧ Rm O w w'
theorem tgr_no {ty : TypeId} (h : TgR ty) : ty ≠ 68 ∧ ty ≠ 215 ∧ ty ≠ 178 ∧ ty ≠ 103 := by rcases h with h | h | h | h | h <;> subst h <;> decide
section
variable {W w w' w'' : World} {m mo k : Nat} {s s' : St} {O O' : Nat → Prop} {T T' : TS} {N N' : List Nd} {C C' : List Cx} {A A' : List Af} {o o' : Lr}
theorem Rm.refl (O : Nat → Prop) (w : World) : Rm O w w := ⟨Nat.le_refl _, fun _ _ h _ _ => h⟩
theorem Rm.of_below (h : Below w.heap.size w w') : Rm O w w' := ⟨h.size, fun k o e _ _ => (h.block k (lt_of_blk e)).trans e⟩
theorem Rm.of_tn (h : Tn O w w') : Rm O w w' := ⟨h.size, fun k o e hn _ => (h.block k (lt_of_blk e) hn).trans e⟩
theorem Rm.of_rx (h : Go.Proofs.YtdpapnfjpefhkaaGreat.RX w w') : Rm O w w' := ⟨h.1, fun k o e _ hn => h.2 k o e hn⟩
theorem Rm.comp (h : Rm O w w') (g : Rm O' w' w'') (hs : ∀ k, O' k → O k ∨ w.heap.size ≤ k) : Rm O w w'' :=
 ⟨Nat.le_trans h.1 g.1, fun k o e hn ho => g.2 k o (h.2 k o e hn ho) (fun h1 => by
  rcases hs k h1 with h2 | h2
  · exact hn h2
  · have := lt_of_blk e; omega) ho⟩
theorem Rm.cells (h : Rm O w w') {k : Nat} {cs : Array Value} {ty : TypeId} {fr : Nat × Nat} (e : w.heap[k]? = some (.cells cs ty fr)) (hn : ¬ O k) (ht : ty ≠ 68 ∧ ty ≠ 215 ∧ ty ≠ 178) : w'.heap[k]? = some (.cells cs ty fr) :=
 h.2 k _ e hn fun cs' fr' => ⟨fun e => by injection e with _ e _; exact ht.1 e, fun e => by injection e with _ e _; exact ht.2.1 e, fun e => by injection e with _ e _; exact ht.2.2 e⟩
theorem Rm.tg {P : TypeId → Prop} (h : Rm O w w') (g : Tg P w k) (hn : ¬ O k) (ht : ∀ ty, P ty → ty ≠ 68 ∧ ty ≠ 215 ∧ ty ≠ 178) : w'.heap[k]? = w.heap[k]? := by
 obtain ⟨cs, ty, fr, e, hp⟩ := g
 rw [e]; exact h.cells e hn (ht ty hp)
theorem RC.tag (h : RC W m mo s O w) (hk : O k) : Tg TgR w k := by obtain ⟨⟨N, o, y, _, e⟩, _⟩ := h; exact y.tag ((e k).1 hk)
theorem RC.lt (h : RC W m mo s O w) (hk : O k) : k < w.heap.size := (h.tag hk).lt
theorem RC.bel (h : RC W m mo s O w) : Below W.heap.size W w := by obtain ⟨⟨N, o, y, _, e⟩, _⟩ := h; exact y.bel
theorem RC.later (h : RC W m mo s O w) (b : Below w.heap.size w w') : RC W m mo s O w' := by
 obtain ⟨⟨N, o, y, r, e⟩, t⟩ := h
 exact ⟨⟨N, o, y.later b, r, e⟩, t.later b⟩
theorem RG.comp (hs : ∀ k, O' k → O k ∨ w.heap.size ≤ k) (f : Rm O w w') (g : RG W m mo s O' w' w'') : RG W m mo s O w w'' := by
 obtain ⟨O2, h, h2, f2⟩ := g
 refine ⟨O2, h, fun k hk => ?_, f.comp f2 hs⟩
 rcases h2 k hk with h3 | h3
 · exact hs k h3
 · exact .inr (Nat.le_trans f.1 h3)
theorem RG.from (b : Below w.heap.size w w') (g : RG W m mo s O w' w'') : RG W m mo s O w w'' := RG.comp (fun k hk => .inl hk) (Rm.of_below b) g
theorem RG.then (g : RG W m mo s O w w') (b : Below w'.heap.size w' w'') : RG W m mo s O w w'' := by
 obtain ⟨O', h, hs, f⟩ := g
 exact ⟨O', h.later b, hs, f.comp (Rm.of_below (O := O) b) fun k hk => .inl hk⟩
theorem RS.tn {E : List On} {n : Nat} {S : List It} (h : RS W mo E 0 n S z0 w) (ht : ∀ k, O k → Tg TgR w k) (f : Tn O w w') : RS W mo E 0 n S z0 w' := by
 have key : ∀ (k : Nat) (cs : Array Value) (ty : TypeId) (fr : Nat × Nat), w.heap[k]? = some (.cells cs ty fr) → (ty = 68 ∨ ty = 215 ∨ ty = 178) → w'.heap[k]? = some (.cells cs ty fr) := fun k cs ty fr e h2 => (f.block k (lt_of_blk e) fun hk => by
  have := ht k hk
  refine this.not e fun h3 => ?_
  have h4 := tgr_no h3
  rcases h2 with h2 | h2 | h2
  · exact h4.1 h2
  · exact h4.2.1 h2
  · exact h4.2.2.1 h2).trans e
 obtain ⟨p, P, c, h1, h2⟩ := h
 refine ⟨p, P, c, h1.rf fun k cs ty fr e h2 => key k cs ty fr e (by rcases h2 with h2 | h2 <;> simp [h2]), row_keep h2 fun k hk => ?_⟩
 obtain ⟨cs, fr, e⟩ := row_tag h2 hk
 rw [e]; exact key k cs 178 fr e (by simp)
theorem RM.byX (h : RM W m mo T N C A o w) (f : Go.Proofs.YtdpapnfjpefhkaaGreat.RX w w') (b : Below W.heap.size W w') : RM W m mo T N C A o w' :=
 h.keep f.1 (fun k hk => by
  obtain ⟨cs, ty, fr, e, hp⟩ := h.tag hk
  have := tgr_no hp
  rw [e]; exact f.at e ⟨this.1, this.2.1, this.2.2.1⟩) (fun j cs e => f.at e (by decide)) b
end
end Go.Proofs.YtdpapnfjpefhkaaGreat
namespace Go.Proofs.YtdpapnfjpefhkaaGreat
open Go.RowKit Tr
set_option linter.unusedVariables false
set_option maxRecDepth 100000
abbrev pM' (m : Nat) : Value := .pointer (some ⟨m, 0, none⟩)
section
variable {W w w' w'' wx w1 : World} {m mo g cap k i j : Nat} {T T' : TS} {N : List Nd} {C : List Cx} {A : List Af} {o : Lr} {n : Nd} {x : Cx} {a : Af}
theorem RM.top (h : RM W m mo T N C A o w) : (w.cell? ⟨m, 0, none⟩ = some (.pointer (some ⟨mo, 0, none⟩)) ∧ w.cell? ⟨m, 1, none⟩ = some (.slice o.Q T.length o.cQ) ∧ w.cell? ⟨m, 2, none⟩ = some (.slice o.PN N.length o.cN) ∧ w.cell? ⟨m, 3, none⟩ = some (.slice o.PX C.length o.cX) ∧ w.cell? ⟨m, 4, none⟩ = some (.slice o.PY A.length o.cY)) ∧ ∀ j, w.frozen? ⟨m, j, none⟩ = false := by
 have hb := h.tr.hm
 refine ⟨⟨?_, ?_, ?_, ?_, ?_⟩, fun j => frozen_of_row w m j _ _ hb⟩
 · rw [cell_of_row w m 0 _ _ _ hb]; rfl
 · rw [cell_of_row w m 1 _ _ _ hb]; rfl
 · rw [cell_of_row w m 2 _ _ _ hb]; rfl
 · rw [cell_of_row w m 3 _ _ _ hb]; rfl
 · rw [cell_of_row w m 4 _ _ _ hb]; rfl
theorem RM.nd (h : RM W m mo T N C A o w) (hn : N[k]? = some n) : ∃ q, o.PN = some ⟨q, 0, none⟩ ∧ q < w.heap.size ∧ (∀ j, j < 12 → w.cell? ⟨q, k * 12 + j, none⟩ = (nE n)[j]?) ∧ ∀ j, w.frozen? ⟨q, j, none⟩ = false := by
 have hk := (List.getElem?_eq_some_iff.1 hn).1
 have ho := h.rn
 obtain ⟨q, hP, _⟩ := row_form ho (by omega)
 rw [hP] at ho
 refine ⟨q, hP, (row_lt ho (k := q) rfl).2, fun j hj => ?_, fun j => ?_⟩
 · rw [ho.cellAt (k * 12 + j) (by omega)]
   exact flat_at nE 12 nE_len N k n hn j hj
 · obtain ⟨_, h5 | ⟨g', cap', cur, e5, _, e6, _⟩⟩ := ho
   · exact absurd h5.1 (by simp)
   · injection e5 with e5 _ _; injection e5 with e5; injection e5 with e5; subst e5
     exact frozen_of_row w q j _ _ e6
theorem RM.cx (h : RM W m mo T N C A o w) (hx : C[i]? = some x) : ∃ q, o.PX = some ⟨q, 0, none⟩ ∧ w.cell? ⟨q, i, none⟩ = some (.int .i64 (x.nd : Int)) := by
 have hi := (List.getElem?_eq_some_iff.1 hx).1
 have ho := h.rx
 obtain ⟨q, hP, _⟩ := row_form ho (by omega)
 rw [hP] at ho
 refine ⟨q, hP, ?_⟩
 have e2 := ho.cellAt i (by omega)
 rw [e2]; simp [xV, hx]
theorem RM.ax (h : RM W m mo T N C A o w) (hx : A[i]? = some a) : ∃ q, o.PY = some ⟨q, 0, none⟩ ∧ w.cell? ⟨q, i, none⟩ = some (.int .i64 (a.nd : Int)) := by
 have hi := (List.getElem?_eq_some_iff.1 hx).1
 have ho := h.ry
 obtain ⟨q, hP, _⟩ := row_form ho (by omega)
 rw [hP] at ho
 refine ⟨q, hP, ?_⟩
 have e2 := ho.cellAt i (by omega)
 rw [e2]; simp [yV, hx]
theorem RM.tm (h : RM W m mo T N C A o w) : Tg (· = 152) w m := ⟨_, _, _, h.tr.hm, rfl⟩
theorem RM.tn' (h : RM W m mo T N C A o w) (hk : blk o.PN = some k) : Tg (· = 155) w k := tag_row h.rn hk
theorem RM.tx (h : RM W m mo T N C A o w) (hk : blk o.PX = some k) : Tg (· = 3) w k := tag_row h.rx hk
theorem RM.ty (h : RM W m mo T N C A o w) (hk : blk o.PY = some k) : Tg (· = 3) w k := tag_row h.ry hk
theorem RM.tq (h : RM W m mo T N C A o w) (hk : blk o.Q = some k) : Tg (· = 212) w k := tag_row h.tr.own hk
theorem RM.tc (h : RM W m mo T N C A o w) (h1 : C[i]? = some x) (h2 : x.ch = some k) : Tg (· = 114) w k := by
 obtain ⟨cs, e⟩ := (h.ch i x k h1 h2).2.blk
 exact ⟨_, _, _, e, rfl⟩
theorem RM.node {q j : Nat} {u : Value} {n' : Nd} (h : RM W m mo T N C A o w) (hn : N[k]? = some n) (hP : o.PN = some ⟨q, 0, none⟩) (hj : j < 12) (he : (nE n).set j u = nE n') :
  RM W m mo T (N.set k n') C A o (w.setCell ⟨q, k * 12 + j, none⟩ u) ∧ Tn (oR m o C) w (w.setCell ⟨q, k * 12 + j, none⟩ u) := by
 have hq : blk o.PN = some q := by rw [hP]; rfl
 have key : ∀ b, b ≠ q → (w.setCell ⟨q, k * 12 + j, none⟩ u).heap[b]? = w.heap[b]? := fun b hb => Below.heap_setCell _ _ _ _ (by exact hb)
 have t1 := h.tn' hq
 have nb : ∀ {P : TypeId → Prop} {b : Nat}, Tg P w b → (∀ ty, P ty → ty ≠ 155) → (w.setCell ⟨q, k * 12 + j, none⟩ u).heap[b]? = w.heap[b]? := fun {P b} hb hp => key b (by rintro rfl; exact hb.two t1 hp)
 have hT : Tn (oR m o C) w (w.setCell ⟨q, k * 12 + j, none⟩ u) := Tn.set (Tn.refl _ w) (.inl (.inr (.inr (.inl hq)))) _
 have hb : Below W.heap.size W (w.setCell ⟨q, k * 12 + j, none⟩ u) := h.bel.trans (hT.below h.bel.size fun b hb => h.low hb)
 have ho := h.rn
 rw [hP] at ho
 refine ⟨⟨hb, ?_, ?_, row_keep h.rx fun b hb => nb (h.tx hb) (by rintro ty rfl; decide), row_keep h.ry fun b hb => nb (h.ty hb) (by rintro ty rfl; decide), h.lm, h.lo, h.xy, fun i x c h1 h2 => ⟨(h.ch i x c h1 h2).1, (h.ch i x c h1 h2).2.keep hT.size (nb (h.tc h1 h2) (by rintro ty rfl; decide)) fun b cs e => (nb (P := (· = 103)) ⟨_, _, _, e, rfl⟩ (by rintro ty rfl; decide)).trans e⟩, h.dj⟩, hT⟩
 · rw [List.length_set]
   exact h.tr.keep (nb h.tm (by rintro ty rfl; decide)) fun b hb => nb (h.tq hb) (by rintro ty rfl; decide)
 · have := (ho.stored (k * 12 + j) u).1
   rw [flat_set nE 12 nE_len _ n' N k n hn j hj he.symm] at this
   rw [List.length_set, hP]
   exact this
theorem RM.tree (h : RM W m mo T N C A o w) (g : Tr.MGo (rV mo (.slice o.PN N.length o.cN) (.slice o.PX C.length o.cX) (.slice o.PY A.length o.cY)) m o.Q T' w w') :
  ∃ o' : Lr, RM W m mo T' N C A o' w' ∧ (∀ k, oR m o' C k → oR m o C k ∨ w.heap.size ≤ k) ∧ Tn (oR m o C) w w' ∧ o'.PN = o.PN ∧ o'.PX = o.PX ∧ o'.PY = o.PY := by
 obtain ⟨Q', c', x, tn, hq⟩ := g
 have hT : Tn (oR m o C) w w' := tn.mono fun b hb => .inl (by
  rcases hb with hb | hb
  · exact .inl hb
  · exact .inr (.inl hb))
 have hb : Below W.heap.size W w' := h.bel.trans (hT.below h.bel.size fun b hb => h.low hb)
 have nb : ∀ {P : TypeId → Prop} {b : Nat}, Tg P w b → (∀ ty, P ty → ty ≠ 152 ∧ ty ≠ 212) → w'.heap[b]? = w.heap[b]? := fun {P b} hb hp => tn.block b hb.lt fun e => by
  rcases e with rfl | e
  · exact hb.two h.tm fun ty a => (hp ty a).1
  · exact hb.two (h.tq e) fun ty a => (hp ty a).2
 refine ⟨{ o with Q := Q', cQ := c' }, ⟨hb, x, row_keep h.rn fun b hb => nb (h.tn' hb) (by rintro ty rfl; decide), row_keep h.rx fun b hb => nb (h.tx hb) (by rintro ty rfl; decide), row_keep h.ry fun b hb => nb (h.ty hb) (by rintro ty rfl; decide), h.lm, fun k hk => ?_, h.xy, fun i x c h1 h2 => ⟨(h.ch i x c h1 h2).1, (h.ch i x c h1 h2).2.keep hT.size (nb (h.tc h1 h2) (by rintro ty rfl; decide)) fun b cs e => (nb (P := (· = 103)) ⟨_, _, _, e, rfl⟩ (by rintro ty rfl; decide)).trans e⟩, h.dj⟩, fun k hk => ?_, hT, rfl, rfl, rfl⟩
 · rcases hk with hk | hk
   · rcases hq k hk with e | e
     · exact h.lo k (.inl e)
     · have := h.bel.size; omega
   · exact h.lo k (.inr hk)
 · rcases hk with hk | hk | hk
   · exact .inl (.inl hk)
   · rcases hq k hk with e | e
     · exact .inl (.inr (.inl e))
     · exact .inr e
   · exact .inl (.inr (.inr hk))
theorem RM.chan {c : Nat} {y : Cx} (h : RM W m mo T N C A o w) (hx : C[i]? = some x) (hc : x.ch = some c) (hy : y.nd = x.nd ∧ y.ch = x.ch) (tn : Tn (fun k => k = c) w w') (r : RH w' c (chS y)) :
  RM W m mo T N (C.set i y) A o w' ∧ (∀ k, oR m o (C.set i y) k ↔ oR m o C k) ∧ Tn (oR m o C) w w' := by
 have hi := (List.getElem?_eq_some_iff.1 hx).1
 have hT : Tn (oR m o C) w w' := tn.mono fun b hb => .inl (by subst hb; exact .inr (.inr (.inr (.inr (.inr ⟨i, x, hx, hc⟩)))))
 have hb : Below W.heap.size W w' := h.bel.trans (hT.below h.bel.size fun b hb => h.low hb)
 have nb : ∀ {P : TypeId → Prop} {b : Nat}, Tg P w b → (∀ ty, P ty → ty ≠ 114) → w'.heap[b]? = w.heap[b]? := fun {P b} hb hp => tn.block b hb.lt (by rintro rfl; exact hb.two (h.tc hx hc) hp)
 have ex : xV (C.set i y) = xV C := by
  unfold xV
  apply List.ext_getElem?
  intro j
  rw [List.getElem?_map, List.getElem?_map, List.getElem?_set]
  by_cases e : i = j
  · subst e; rw [if_pos rfl, if_pos hi, hx]; simp [hy.1]
  · rw [if_neg e]
 have cs : ∀ (j : Nat) (z : Cx), (C.set i y)[j]? = some z → (j = i ∧ z = y) ∨ (j ≠ i ∧ C[j]? = some z) := fun j z hz => set_at hz
 refine ⟨⟨hb, ?_, row_keep h.rn fun b hb => nb (h.tn' hb) (by rintro ty rfl; decide), ?_, row_keep h.ry fun b hb => nb (h.ty hb) (by rintro ty rfl; decide), h.lm, h.lo, h.xy, fun j z d h1 h2 => ?_, fun j1 j2 z1 z2 d h1 h2 h3 h4 => ?_⟩, fun k => ?_, hT⟩
 · rw [List.length_set]
   exact h.tr.keep (nb h.tm (by rintro ty rfl; decide)) fun b hb => nb (h.tq hb) (by rintro ty rfl; decide)
 · rw [List.length_set, ex]
   exact row_keep h.rx fun b hb => nb (h.tx hb) (by rintro ty rfl; decide)
 · rcases cs j z h1 with ⟨rfl, rfl⟩ | ⟨hne, h1⟩
   · rw [hy.2, hc] at h2; injection h2 with h2; subst h2
     exact ⟨(h.ch j x c hx hc).1, r⟩
   · refine ⟨(h.ch j z d h1 h2).1, (h.ch j z d h1 h2).2.keep hT.size (tn.block d (by obtain ⟨cs, e⟩ := (h.ch j z d h1 h2).2.blk; exact lt_of_blk e) (by rintro rfl; exact hne (h.dj j i z x d h1 hx h2 hc))) fun b cs e => (nb (P := (· = 103)) ⟨_, _, _, e, rfl⟩ (by rintro ty rfl; decide)).trans e⟩
 · have f : ∀ (j : Nat) (z : Cx), (C.set i y)[j]? = some z → z.ch = some d → ∃ z', C[j]? = some z' ∧ z'.ch = some d := fun j z g1 g2 => by
    rcases cs j z g1 with ⟨rfl, rfl⟩ | ⟨_, g1⟩
    · exact ⟨x, hx, by rw [← hy.2]; exact g2⟩
    · exact ⟨z, g1, g2⟩
   obtain ⟨a1, b1, b2⟩ := f j1 z1 h1 h3
   obtain ⟨a2, b3, b4⟩ := f j2 z2 h2 h4
   exact h.dj j1 j2 a1 a2 d b1 b3 b2 b4
 · unfold oR
   have : (∃ (j : Nat) (z : Cx), (C.set i y)[j]? = some z ∧ z.ch = some k) ↔ ∃ (j : Nat) (z : Cx), C[j]? = some z ∧ z.ch = some k := by
    constructor
    · rintro ⟨j, z, h1, h2⟩
      rcases cs j z h1 with ⟨rfl, rfl⟩ | ⟨_, h1⟩
      · exact ⟨j, x, hx, by rw [← hy.2]; exact h2⟩
      · exact ⟨j, z, h1, h2⟩
    · rintro ⟨j, z, h1, h2⟩
      by_cases e : i = j
      · subst e
        rw [hx] at h1; cases h1
        exact ⟨i, y, by rw [List.getElem?_set_self hi], by rw [hy.2]; exact h2⟩
      · exact ⟨j, z, by rw [List.getElem?_set_ne e]; exact h1, h2⟩
   rw [this]
end
end Go.Proofs.YtdpapnfjpefhkaaGreat
namespace Go.Proofs.YtdpapnfjpefhkaaGreat
open Go.RowKit Tr
set_option linter.unusedVariables false
set_option maxRecDepth 100000
section
variable {W w w' w'' wx w1 : World} {m mo g cap k i j q : Nat} {T T' : TS} {N : List Nd} {C : List Cx} {A : List Af} {o : Lr} {n : Nd} {x : Cx} {a : Af} {s : St} {O : Nat → Prop}
theorem rcin_any (h : RM W m mo T N C A o w) (k : Int) : Calls Tryz.prog 56 #[pM' m, .int .i64 k] w fun e w' => e = .returned (.bool (decide (0 ≤ k ∧ k < (C.length : Int)))) ∧ w = w' := by
 obtain ⟨⟨-, -, -, t3, -⟩, -⟩ := h.top
 clear h
 by_cases h0 : k < 0
 · rw [decide_eq_false (by omega)]
   go_enter Tryz.func56, Tryz.ntmps56
   go_wp2_with fail
   go_ret
   exact ⟨rfl, rfl⟩
 · have h0' : 0 ≤ k := by omega
   by_cases h1 : k < (C.length : Int)
   · rw [decide_eq_true (by omega)]
     go_enter Tryz.func56, Tryz.ntmps56
     go_wp2_with fail
     go_ret
     exact ⟨rfl, rfl⟩
   · rw [decide_eq_false (by omega)]
     go_enter Tryz.func56, Tryz.ntmps56
     go_wp2_with fail
     go_ret
     exact ⟨rfl, rfl⟩
theorem rlen_any (h : RM W m mo T N C A o w) : Calls Tryz.prog 38 #[pM' m] w fun e w' => e = .returned (.int .i64 (C.length : Int)) ∧ w = w' := by
 obtain ⟨⟨-, -, -, t3, -⟩, -⟩ := h.top
 clear h
 go_enter Tryz.func38, Tryz.ntmps38
 go_wp2_with fail
 go_ret
 exact ⟨rfl, rfl⟩
theorem rat_at (h : RM W m mo T N C A o w) (hx : C[i]? = some x) (hn : x.nd < N.length) (hP : o.PN = some ⟨q, 0, none⟩) : Calls Tryz.prog 57 #[pM' m, .int .i64 (i : Int)] w fun e w' => e = .returned (.pointer (some ⟨q, x.nd * 12, none⟩)) ∧ ∃ nq, w' = w.drewN nq := by
 obtain ⟨⟨-, -, t2, t3, -⟩, -⟩ := h.top
 obtain ⟨q2, hX, c0⟩ := h.cx hx
 rw [hP] at t2
 rw [hX] at t3
 have hi := (List.getElem?_eq_some_iff.1 hx).1
 have b1 : (i : Int) < (C.length : Int) := by omega
 have b2 : (0 : Int) ≤ (i : Int) := by omega
 have b3 : (x.nd : Int) < (N.length : Int) := by omega
 have b4 : (0 : Int) ≤ (x.nd : Int) := by omega
 clear h hx hX hP
 generalize x.nd = d at *
 generalize C.length = lc at *
 generalize N.length = ln at *
 go_enter Tryz.func57, Tryz.ntmps57
 go_wp2_with fail
 go_quiet (fail)
 go_wp2_with fail
 go_ret
 exact ⟨rfl, _, rfl⟩
theorem RC.at (h : RC W m mo s O w) (hx : s.C[i]? = some x) : ∃ q, (∀ nq, Calls Tryz.prog 57 #[pM' m, .int .i64 (i : Int)] (w.drewN nq) fun e w' => e = .returned (.pointer (some ⟨q, x.nd * 12, none⟩)) ∧ ∃ k, w' = (w.drewN nq).drewN k) ∧ (∀ j, j < 12 → w.cell? ⟨q, x.nd * 12 + j, none⟩ = (nE (ndC i x))[j]?) ∧ ∀ j, w.frozen? ⟨q, j, none⟩ = false := by
 obtain ⟨⟨N, o, y, r, e⟩, -⟩ := h
 have hN := r.c i x hx
 obtain ⟨q, hP, hq, hc, hf⟩ := y.nd hN
 exact ⟨q, fun nq => rat_at (y.later (below_drewN w nq)) hx (List.getElem?_eq_some_iff.1 hN).1 hP, hc, hf⟩
theorem cA_cases (s : St) (k : Int) : (∃ (i : Nat) (x : Cx), k = (i : Int) ∧ s.C[i]? = some x ∧ cA s k = (x, 0)) ∨ ((k < 0 ∨ (s.C.length : Int) ≤ k) ∧ cA s k = (zC, 4)) := by
 by_cases h0 : k < 0
 · exact .inr ⟨.inl h0, by unfold cA; rw [if_pos h0]⟩
 · obtain ⟨i, rfl⟩ := Int.eq_ofNat_of_zero_le (show 0 ≤ k by omega)
   by_cases h1 : i < s.C.length
   · obtain ⟨x, hx⟩ : ∃ x, s.C[i]? = some x := ⟨_, List.getElem?_eq_getElem h1⟩
     exact .inl ⟨i, x, rfl, hx, cA_at hx⟩
   · refine .inr ⟨.inr (by omega), ?_⟩
     unfold cA
     rw [if_neg h0, Int.toNat_natCast, List.getElem?_eq_none (by omega)]
set_option maxHeartbeats 4000000 in
theorem rerr_any (h : RC W m mo s O w) (k : Int) : Calls Tryz.prog 39 #[pM' m, .int .i64 k] w fun e w' => e = .returned (.tuple #[.int .i64 (cA s k).1.er, .int .i64 (cA s k).1.cs, .int .i64 (cA s k).2]) ∧ ∃ nq, w' = w.drewN nq := by
 have HI : Hid (Calls Tryz.prog 56 #[pM' m, .int .i64 k] w fun e w' => e = .returned (.bool (decide (0 ≤ k ∧ k < (s.C.length : Int)))) ∧ w = w') := by
  obtain ⟨⟨N, o, y, r, e⟩, -⟩ := h
  exact rcin_any y k
 rcases cA_cases s k with ⟨i, x, rfl, hx, ea⟩ | ⟨hk, ea⟩
 · rw [ea]
   obtain ⟨q, hA, hc, -⟩ := h.at hx
   have c5 := hc 5 (by decide)
   have c6 := hc 6 (by decide)
   have HA := Lib.hid hA
   have hi := (List.getElem?_eq_some_iff.1 hx).1
   rw [decide_eq_true (by omega)] at HI
   simp only [nE, ndC, List.getElem?_cons_succ, List.getElem?_cons_zero] at c5 c6
   clear h hx ea hA hc
   go_enter Tryz.func39, Tryz.ntmps39
   go_wp2_with fail
   refine HI.out.mono ?_
   rintro e w' ⟨rfl, rfl⟩
   go_wp2_with fail
   go_quiet (first | (go_at_call 57; exact Calls.quiet_of (HA.out _)))
   go_wp2_with fail
   go_ret3
   exact ⟨rfl, _, rfl⟩
 · rw [ea]
   rw [decide_eq_false (by omega)] at HI
   clear h ea
   go_enter Tryz.func39, Tryz.ntmps39
   go_wp2_with fail
   refine HI.out.mono ?_
   rintro e w' ⟨rfl, rfl⟩
   go_wp2_with fail
   go_ret3
   exact ⟨rfl, 0, rfl⟩
set_option maxHeartbeats 4000000 in
theorem runtil_any (h : RC W m mo s O w) (k : Int) : Calls Tryz.prog 40 #[pM' m, .int .i64 k] w fun e w' => e = .returned (.tuple #[.int .i64 (cA s k).1.wh, .bool (cA s k).1.has, .int .i64 (cA s k).2]) ∧ ∃ nq, w' = w.drewN nq := by
 have HI : Hid (Calls Tryz.prog 56 #[pM' m, .int .i64 k] w fun e w' => e = .returned (.bool (decide (0 ≤ k ∧ k < (s.C.length : Int)))) ∧ w = w') := by
  obtain ⟨⟨N, o, y, r, e⟩, -⟩ := h
  exact rcin_any y k
 rcases cA_cases s k with ⟨i, x, rfl, hx, ea⟩ | ⟨hk, ea⟩
 · rw [ea]
   obtain ⟨q, hA, hc, -⟩ := h.at hx
   have c5 := hc 7 (by decide)
   have c6 := hc 8 (by decide)
   have HA := Lib.hid hA
   have hi := (List.getElem?_eq_some_iff.1 hx).1
   rw [decide_eq_true (by omega)] at HI
   simp only [nE, ndC, List.getElem?_cons_succ, List.getElem?_cons_zero] at c5 c6
   clear h hx ea hA hc
   go_enter Tryz.func40, Tryz.ntmps40
   go_wp2_with fail
   refine HI.out.mono ?_
   rintro e w' ⟨rfl, rfl⟩
   go_wp2_with fail
   go_quiet (first | (go_at_call 57; exact Calls.quiet_of (HA.out _)))
   go_wp2_with fail
   go_ret3
   exact ⟨rfl, _, rfl⟩
 · rw [ea]
   rw [decide_eq_false (by omega)] at HI
   clear h ea
   go_enter Tryz.func40, Tryz.ntmps40
   go_wp2_with fail
   refine HI.out.mono ?_
   rintro e w' ⟨rfl, rfl⟩
   go_wp2_with fail
   go_ret3
   exact ⟨rfl, 0, rfl⟩
theorem rdone_any (h : RC W m mo s O w) (k : Int) : Calls Tryz.prog 35 #[pM' m, .int .i64 k] w fun e w' => e = .returned (.tuple #[.pointer (cp (cA s k).1.ch), .int .i64 (cA s k).2]) ∧ ∃ nq, w' = w.drewN nq := by
 have HI : Hid (Calls Tryz.prog 56 #[pM' m, .int .i64 k] w fun e w' => e = .returned (.bool (decide (0 ≤ k ∧ k < (s.C.length : Int)))) ∧ w = w') := by
  obtain ⟨⟨N, o, y, r, e⟩, -⟩ := h
  exact rcin_any y k
 rcases cA_cases s k with ⟨i, x, rfl, hx, ea⟩ | ⟨hk, ea⟩
 · rw [ea]
   obtain ⟨q, hA, hc, -⟩ := h.at hx
   have c5 := hc 11 (by decide)
   have HA := Lib.hid (hA 0)
   have hi := (List.getElem?_eq_some_iff.1 hx).1
   rw [decide_eq_true (by omega)] at HI
   simp only [nE, ndC, List.getElem?_cons_succ, List.getElem?_cons_zero] at c5
   clear h hx ea hA hc
   go_enter Tryz.func35, Tryz.ntmps35
   go_wp2_with fail
   refine HI.out.mono ?_
   rintro e w' ⟨rfl, rfl⟩
   go_wp2_with fail
   refine HA.out.mono ?_
   rintro e w' ⟨rfl, nq, rfl⟩
   go_wp2_with fail
   go_ret2
   exact ⟨rfl, nq, rfl⟩
 · rw [ea]
   rw [decide_eq_false (by omega)] at HI
   clear h ea
   go_enter Tryz.func35, Tryz.ntmps35
   go_wp2_with fail
   refine HI.out.mono ?_
   rintro e w' ⟨rfl, rfl⟩
   go_wp2_with fail
   go_ret2
   exact ⟨rfl, 0, rfl⟩
end
end Go.Proofs.YtdpapnfjpefhkaaGreat
namespace Go.Proofs.YtdpapnfjpefhkaaGreat
open Go.RowKit Tr
set_option linter.unusedVariables false
set_option maxRecDepth 100000
def ctT (s : St) (k : Nat) : St := { s with T := Tr.cut s.T k }
def hit (er cs : Int) (s : St) (k : Nat) : St := { cst er cs s k with T := s.T }
section
variable {er cs : Int} {s : St} {k j : Nat}
theorem cut_comm (T : TS) (a b : Nat) : Tr.cut (Tr.cut T a) b = Tr.cut (Tr.cut T b) a := by
 apply List.ext_getElem?
 intro x
 rw [cut_at, cut_at, cut_at, cut_at]
 by_cases e1 : x = b
 · by_cases e2 : x = a
   · simp only [if_pos e1, if_pos e2]
   · simp only [if_pos e1, if_neg e2]
 · by_cases e2 : x = a
   · simp only [if_neg e1, if_pos e2]
   · simp only [if_neg e1, if_neg e2]
theorem cst_T (er cs : Int) (s : St) (k : Nat) : (cst er cs s k).T = Tr.cut s.T k := by unfold cst; split <;> (try split) <;> rfl
theorem cst_hit (er cs : Int) (s : St) (k : Nat) : cst er cs s k = ctT (hit er cs s k) k := by
 unfold ctT hit
 rw [← cst_T er cs s k]
theorem cst_ct (er cs : Int) (s : St) (k j : Nat) : cst er cs (ctT s k) j = ctT (cst er cs s j) k := by
 unfold ctT cst
 dsimp only
 split
 · rename_i i h
   split
   · rename_i x hx
     simp only [cut_comm s.T k j]
   · rename_i hx
     simp only [cut_comm s.T k j]
 · simp only [cut_comm s.T k j]
theorem cfold_ct (er cs : Int) : ∀ (r : List Nat) (s : St) (k : Nat), cfold er cs r (ctT s k) = (ctT (cfold er cs r s).1 k, (cfold er cs r s).2.1, (cfold er cs r s).2.2)
 | [], s, k => rfl
 | a :: r, s, k => by
  unfold cfold
  rw [cst_ct, cfold_ct er cs r (cst er cs s a) k]
  rfl
theorem cfold_hit (er cs : Int) (r : List Nat) (s : St) (k : Nat) : cfold er cs (k :: r) s = (ctT (cfold er cs r (hit er cs s k)).1 k, clp s k ++ (cfold er cs r (hit er cs s k)).2.1, cmp s k ++ (cfold er cs r (hit er cs s k)).2.2) := by
 show ((cfold er cs r (cst er cs s k)).1, clp s k ++ (cfold er cs r (cst er cs s k)).2.1, cmp s k ++ (cfold er cs r (cst er cs s k)).2.2) = _
 rw [cst_hit, cfold_ct]
theorem cfold_app (er cs : Int) : ∀ (a b : List Nat) (s : St), cfold er cs (a ++ b) s = ((cfold er cs b (cfold er cs a s).1).1, (cfold er cs a s).2.1 ++ (cfold er cs b (cfold er cs a s).1).2.1, (cfold er cs a s).2.2 ++ (cfold er cs b (cfold er cs a s).1).2.2)
 | [], b, s => rfl
 | k :: a, b, s => by
  show ((cfold er cs (a ++ b) (cst er cs s k)).1, clp s k ++ (cfold er cs (a ++ b) (cst er cs s k)).2.1, cmp s k ++ (cfold er cs (a ++ b) (cst er cs s k)).2.2) = _
  rw [cfold_app er cs a b]
  show _ = (_, (clp s k ++ _) ++ _, (cmp s k ++ _) ++ _)
  rw [List.append_assoc, List.append_assoc]
  rfl
theorem cfold_T (er cs : Int) : ∀ (ws : List Nat) (s : St) (x : Nat), (cfold er cs ws s).1.T[x]? = s.T[x]?.map fun y => (y.1, y.2 && !decide (x ∈ ws))
 | [], s, x => by
  show s.T[x]? = _
  cases s.T[x]? <;> simp
 | k :: r, s, x => by
  show (cfold er cs r (cst er cs s k)).1.T[x]? = _
  rw [cfold_T er cs r, cst_T, cut_at]
  by_cases e : x = k
  · rw [if_pos e]
    cases s.T[x]? with
    | none => rfl
    | some y => simp [e]
  · rw [if_neg e]
    cases s.T[x]? with
    | none => rfl
    | some y => simp [e]
theorem cfold_len (er cs : Int) : ∀ (ws : List Nat) (s : St), (cfold er cs ws s).1.T.length = s.T.length ∧ (cfold er cs ws s).1.K = s.K ∧ (cfold er cs ws s).1.A = s.A ∧ (cfold er cs ws s).1.C.length = s.C.length
 | [], s => ⟨rfl, rfl, rfl, rfl⟩
 | k :: r, s => by
  obtain ⟨e1, e2, e3, e4, e5, e6⟩ := cst_len (er := er) (cs := cs) s k
  obtain ⟨a1, a2, a3, a4⟩ := cfold_len er cs r (cst er cs s k)
  exact ⟨a1.trans e6, a2.trans e4, a3.trans e5, a4.trans e1⟩
theorem walk_off {T T' : TS} (D : Nat → Bool) (hT : ∀ x, T'[x]? = T[x]?.map fun y => (y.1, y.2 && !D x)) : ∀ n j, T.length - j < n → (∀ x ∈ Tr.walk T j, D x = false) → Tr.walk T' j = Tr.walk T j := by
 intro n
 induction n with
 | zero => intro j hj; omega
 | succ n ih =>
  intro j hj hD
  have hk : kids T' j = kids T j := by
   refine rising_eq _ _ (kids_rise _ _) (kids_rise _ _) fun x => ?_
   rw [mem_kids, mem_kids, hT]
   constructor
   · rintro ⟨h1, h2⟩
     cases e : T[x]? with
     | none => rw [e] at h1; cases h1
     | some y =>
      rw [e] at h1
      simp at h1
      refine ⟨?_, h2⟩
      rw [show y = ((j : Int), true) from Prod.ext h1.1 h1.2.1]
   · rintro ⟨h1, h2⟩
     have hx : x ∈ Tr.walk T j := walk_kid (mem_kids.2 ⟨h1, h2⟩) (walk_head _ _)
     refine ⟨?_, h2⟩
     rw [h1, hD x hx]; rfl
  rw [walk_eq T' j, walk_eq T j, hk]
  congr 1
  refine flatMap_same fun x hx => ?_
  have := kids_lt hx
  exact ih x (by omega) fun y hy => hD y (walk_kid hx hy)
end
structure GdR (s : St) (k : Nat) : Prop where
 lt : k < s.T.length
 ex : ∃ z, s.K[k]? = some z ∧ (z.af = true → ∃ a, s.A[z.id]? = some a ∧ a.nd = k ∧ ∃ q, s.T[k]? = some (q, true)) ∧ (z.af = false → ∃ x c, s.C[z.id]? = some x ∧ x.nd = k ∧ x.ch = some c ∧ x.er = 0 ∧ x.cl = false ∧ x.rs.length ≤ 1000)
section
variable {er cs : Int} {s : St} {k j : Nat}
theorem hit_af {i : Nat} (h : s.K[k]? = some ⟨true, i⟩) : hit er cs s k = s := by unfold hit; rw [cst_af h]
theorem hit_cx {i : Nat} {x : Cx} (h : s.K[k]? = some ⟨false, i⟩) (hx : s.C[i]? = some x) : hit er cs s k = { s with C := s.C.set i (ended x er cs), S := del x.lp s.S } := by unfold hit; rw [cst_cx h hx]
theorem GdR.next (h : GdR s j) (g : GdR s k) (hne : j ≠ k) : GdR (hit er cs s k) j ∧ GdR (cst er cs s k) j := by
 obtain ⟨hl, z, h1, h2, h3⟩ := h
 obtain ⟨_, ⟨za, zi⟩, g1, g2, g3⟩ := g
 have key : GdR (hit er cs s k) j := by
  cases za with
  | true => rw [hit_af g1]; exact ⟨hl, z, h1, h2, h3⟩
  | false =>
   obtain ⟨y, d, y1, y2, y3⟩ := g3 rfl
   rw [hit_cx g1 y1]
   refine ⟨hl, z, h1, h2, fun e => ?_⟩
   obtain ⟨x, c, x1, x2, x3⟩ := h3 e
   refine ⟨x, c, ?_, x2, x3⟩
   show (s.C.set zi _)[z.id]? = some x
   rw [List.getElem?_set_ne]
   · exact x1
   · intro e
     have e : zi = z.id := e
     rw [← e] at x1
     have y1 : s.C[zi]? = some y := y1
     rw [y1] at x1; cases x1
     exact hne (x2.symm.trans y2)
 refine ⟨key, ?_⟩
 rw [cst_hit]
 obtain ⟨kl, z', k1, k2, k3⟩ := key
 refine ⟨by show j < (Tr.cut _ k).length; rw [Tr.cut_len]; exact kl, z', k1, fun e => ?_, k3⟩
 obtain ⟨a, a1, a2, q, a3⟩ := k2 e
 refine ⟨a, a1, a2, q, ?_⟩
 show (Tr.cut _ k)[j]? = _
 rw [cut_at, if_neg hne]; exact a3
theorem GdR.fold : ∀ (ws : List Nat) (s : St), GdR s j → (∀ k ∈ ws, GdR s k) → ws.Nodup → j ∉ ws → GdR (cfold er cs ws s).1 j
 | [], s, h, _, _, _ => h
 | k :: r, s, h, hg, hn, hj => by
  obtain ⟨n1, n2⟩ := List.nodup_cons.1 hn
  have gk := hg k (by simp)
  exact GdR.fold r (cst er cs s k) (h.next gk (fun e => hj (by simp [e]))).2 (fun a ha => ((hg a (by simp [ha])).next gk (fun e => n1 (e ▸ ha))).2) n2 fun h9 => hj (by simp [h9])
end
structure RI (s : St) : Prop where
 wf : WF s.T
 tl : s.T.length ≤ 1000
 ck : ∀ (i : Nat) (x : Cx), s.C[i]? = some x → s.K[x.nd]? = some ⟨false, i⟩
 ak : ∀ (i : Nat) (a : Af), s.A[i]? = some a → s.K[a.nd]? = some ⟨true, i⟩
 ok : Ok s.n s.S
 sl : s.S.length ≤ 999
 el : s.E.length ≤ 1000
 sp : ∀ z ∈ s.S, 0 ≤ z.id ∧ z.id < (s.E.length : Int)
 en : ∀ x ∈ s.E, x.ch = none ∧ x.kd = 4
 pk : ∀ (j q : Nat), s.T[j]? = some ((q : Int), true) → ∃ i, s.K[q]? = some ⟨false, i⟩
section
variable {er cs : Int} {s : St} {k j : Nat}
theorem RI.ct (h : RI s) (k : Nat) : RI (ctT s k) := ⟨h.wf.cut k, by show (Tr.cut s.T k).length ≤ 1000; rw [Tr.cut_len]; exact h.tl, h.ck, h.ak, h.ok, h.sl, h.el, h.sp, h.en, fun j q hj => by
 have hj : (Tr.cut s.T k)[j]? = some ((q : Int), true) := hj
 rw [cut_at] at hj
 by_cases e : j = k
 · rw [if_pos e] at hj
   cases e2 : s.T[j]? with
   | none => rw [e2] at hj; cases hj
   | some y => rw [e2] at hj; simp at hj
 · rw [if_neg e] at hj; exact h.pk j q hj⟩
theorem RI.hit (h : RI s) (k : Nat) : RI (hit er cs s k) := by
 have key : ∀ (i : Nat) (x : Cx), s.K[k]? = some ⟨false, i⟩ → s.C[i]? = some x → RI { s with C := s.C.set i (ended x er cs), S := del x.lp s.S } := fun i x h1 h2 => by
  refine ⟨h.wf, h.tl, fun j y hy => ?_, h.ak, Ok.del h.ok x.lp, Nat.le_trans (List.length_filter_le _ _) h.sl, h.el, fun z hz => h.sp z (List.mem_filter.1 hz).1, h.en, h.pk⟩
  rcases set_at hy with ⟨rfl, rfl⟩ | ⟨_, hy⟩
  · exact h.ck _ x h2
  · exact h.ck j y hy
 unfold Go.Proofs.YtdpapnfjpefhkaaGreat.hit cst
 split
 · rename_i i h1
   split
   · rename_i x h2
     exact key i x h1 h2
   · exact ⟨h.wf, h.tl, h.ck, h.ak, h.ok, h.sl, h.el, h.sp, h.en, h.pk⟩
 · exact ⟨h.wf, h.tl, h.ck, h.ak, h.ok, h.sl, h.el, h.sp, h.en, h.pk⟩
theorem RI.cst (h : RI s) (k : Nat) : RI (cst er cs s k) := by rw [cst_hit]; exact (h.hit k).ct k
theorem RI.fold : ∀ (ws : List Nat) (s : St), RI s → RI (cfold er cs ws s).1
 | [], s, h => h
 | k :: r, s, h => RI.fold r (Go.Proofs.YtdpapnfjpefhkaaGreat.cst er cs s k) (h.cst k)
end
section
variable {T : TS} {C : List Cx} {A : List Af} {N : List Nd} {K : List Kd} {i j k : Nat} {x y : Cx} {a : Af}
theorem NR.setC (h : NR T C A N) (ck : ∀ (i : Nat) (x : Cx), C[i]? = some x → K[x.nd]? = some ⟨false, i⟩) (ak : ∀ (i : Nat) (a : Af), A[i]? = some a → K[a.nd]? = some ⟨true, i⟩) (hx : C[i]? = some x) (hy : y.nd = x.nd) : NR T (C.set i y) A (N.set x.nd (ndC i y)) := by
 have hN := (List.getElem?_eq_some_iff.1 (h.c i x hx)).1
 refine ⟨by rw [List.length_set]; exact h.len, fun j z hz => ?_, fun j a ha => ?_⟩
 · rcases set_at hz with ⟨rfl, rfl⟩ | ⟨hne, hz⟩
   · rw [hy, List.getElem?_set_self hN]
   · rw [List.getElem?_set_ne]
     · exact h.c j z hz
     · intro e
       have e1 := ck j z hz
       rw [← e, ck i x hx] at e1
       injection e1 with e1; injection e1 with _ e1
       exact hne e1.symm
 · obtain ⟨q, l, h1, h2⟩ := h.a j a ha
   refine ⟨q, l, h1, ?_⟩
   rw [List.getElem?_set_ne]
   · exact h2
   · intro e
     have e1 := ak j a ha
     rw [← e, ck i x hx] at e1
     injection e1 with e1; injection e1 with e1 _; cases e1
theorem NR.cutA {q : Int} {l : Bool} (h : NR T C A N) (ck : ∀ (i : Nat) (x : Cx), C[i]? = some x → K[x.nd]? = some ⟨false, i⟩) (ak : ∀ (i : Nat) (a : Af), A[i]? = some a → K[a.nd]? = some ⟨true, i⟩) (ha : A[j]? = some a) (hT : T[a.nd]? = some (q, l)) : NR (Tr.cut T a.nd) C A (N.set a.nd (ndA j a.pg false)) := by
 obtain ⟨q', l', h1, h2⟩ := h.a j a ha
 have hN := (List.getElem?_eq_some_iff.1 h2).1
 refine ⟨by rw [Tr.cut_len, List.length_set]; exact h.len, fun i x hx => ?_, fun i b hb => ?_⟩
 · rw [List.getElem?_set_ne]
   · exact h.c i x hx
   · intro e
     have e1 := ak j a ha
     rw [e, ck i x hx] at e1
     injection e1 with e1; injection e1 with e1 _; cases e1
 · by_cases e : b.nd = a.nd
   · have e1 := ak i b hb
     rw [e, ak j a ha] at e1
     injection e1 with e1; injection e1 with _ e1
     subst e1
     rw [ha] at hb; cases hb
     exact ⟨q, false, by rw [cut_at, if_pos rfl, hT]; rfl, by rw [List.getElem?_set_self hN]⟩
   · obtain ⟨q2, l2, h3, h4⟩ := h.a i b hb
     exact ⟨q2, l2, by rw [cut_at, if_neg e]; exact h3, by rw [List.getElem?_set_ne (Ne.symm e)]; exact h4⟩
end
end Go.Proofs.YtdpapnfjpefhkaaGreat
namespace Go.Proofs.YtdpapnfjpefhkaaGreat
open Go.RowKit Tr
set_option linter.unusedVariables false
set_option maxRecDepth 100000
def LRt (ty : TypeId) (B : Nat) (w : World) (P : Option Addr) (c : Nat) (er cs : Int) (l : List Lap) : Prop :=
 ∃ L : List Lp, L.map (fun x => (x.id, x.wk)) = l ∧ (∀ x ∈ L, x.er = er ∧ x.cs = cs ∧ x.n = x.wk.length ∧ Ch.RdK w x.A x.n x.wk) ∧ w.ownsRow B ty 4 (.slice P L.length c) L.length (L.flatMap lE)
def SRt (ty : TypeId) (B : Nat) (w : World) (P : Option Addr) (c : Nat) (m : List Mp) : Prop := w.ownsRow B ty 2 (.slice P m.length c) m.length (m.flatMap mE)
def Tl (ty : TypeId) : Prop := ty = 160 ∨ ty = 164
def RbO (B : Nat) (O : Nat → Prop) (w1 : World) (k : Nat) : Prop := O k ∨ (B ≤ k ∧ Tg Tl w1 k)
structure FL (W : World) (m mo B : Nat) (pn : Option Addr × Option Addr × Option Addr) (w1 : World) (O : Nat → Prop) (s : St) (N : List Nd) (er cs : Int) (l : List Lap) (P1 : Option Addr) (c1 : Nat) (st : List Mp) (P2 : Option Addr) (c2 : Nat) (w : World) : Prop where
 rm : ∃ o, RM W m mo s.T N s.C s.A o w ∧ (o.PN, o.PX, o.PY) = pn ∧ ∀ k, oR m o s.C k → O k ∨ w1.heap.size ≤ k
 tm : RS W mo s.E 0 s.n s.S z0 w
 fr : Rm (RbO B O w1) w1 w
 lr : LRt 160 B w P1 c1 er cs l
 sr : SRt 164 B w P2 c2 st
 hb : W.heap.size ≤ B ∧ B ≤ w1.heap.size
section
variable {W w w' w1 wx : World} {m mo B g cap c1 c2 c1' c2' k : Nat} {O O' : Nat → Prop} {s s' : St} {N N' : List Nd} {er cs : Int} {l l' : List Lap} {st st' : List Mp} {P1 P2 P1' P2' P : Option Addr} {pn : Option Addr × Option Addr × Option Addr} {o o' : Lr} {ty : TypeId}
theorem LRt.keep (h : LRt ty B w P c1 er cs l) (k : ∀ b, Tg (fun t => t = ty ∨ t = 208) w b → w'.heap[b]? = w.heap[b]?) : LRt ty B w' P c1 er cs l := by
 obtain ⟨L, h1, h2, h3⟩ := h
 refine ⟨L, h1, fun x hx => ⟨(h2 x hx).1, (h2 x hx).2.1, (h2 x hx).2.2.1, (h2 x hx).2.2.2.keep fun b cs e => ?_⟩, row_keep h3 fun b hb => k b ((tag_row h3 hb).imp fun t e => .inl e)⟩
 exact k b ⟨_, _, _, e, .inr rfl⟩
theorem LRt.later (h : LRt ty B w P c1 er cs l) (b : Below w.heap.size w w') : LRt ty B w' P c1 er cs l := h.keep fun k hk => b.block k hk.lt
theorem LRt.nil (ty : TypeId) (B : Nat) (w : World) (er cs : Int) : LRt ty B w none 0 er cs [] := ⟨[], rfl, fun x hx => by (cases hx), World.ownsRow_nil _ _ _ _⟩
theorem SRt.nil (ty : TypeId) (B : Nat) (w : World) : SRt ty B w none 0 [] := World.ownsRow_nil _ _ _ _
theorem RS.keepT {E : List On} {n : Nat} {S : List It} (h : RS W mo E 0 n S z0 w) (key : ∀ (k : Nat) (cs : Array Value) (ty : TypeId) (fr : Nat × Nat), w.heap[k]? = some (.cells cs ty fr) → (ty = 68 ∨ ty = 215 ∨ ty = 178) → w'.heap[k]? = some (.cells cs ty fr)) : RS W mo E 0 n S z0 w' := by
 obtain ⟨p, P, c, h1, h2⟩ := h
 refine ⟨p, P, c, h1.rf fun k cs ty fr e h2 => key k cs ty fr e (by rcases h2 with h2 | h2 <;> simp [h2]), row_keep h2 fun k hk => ?_⟩
 obtain ⟨cs, fr, e⟩ := row_tag h2 hk
 rw [e]; exact key k cs 178 fr e (by simp)
theorem FL.back (h : FL W m mo B pn w1 O s N er cs l P1 c1 st P2 c2 w) (hr : RM W m mo s.T N s.C s.A o w) (hO : ∀ k, oR m o s.C k → O k ∨ w1.heap.size ≤ k) {k : Nat} {ob : Obj} (e : w1.heap[k]? = some ob) (hn : ¬ RbO B O w1 k) (ht : ∀ cs fr, ob ≠ .cells cs 68 fr ∧ ob ≠ .cells cs 215 fr ∧ ob ≠ .cells cs 178 fr) :
  w.heap[k]? = some ob ∧ ¬ oR m o s.C k ∧ ¬ (B ≤ k ∧ Tg Tl w k) := by
 have e1 := h.fr.2 k ob e hn ht
 refine ⟨e1, fun hk => ?_, fun ⟨hB, cs, ty, fr, e2, hp⟩ => ?_⟩
 · rcases hO k hk with h1 | h1
   · exact hn (.inl h1)
   · have := lt_of_blk e; omega
 · refine hn (.inr ⟨hB, cs, ty, fr, ?_, hp⟩)
   rw [e1] at e2; rw [e, e2]
theorem FL.own (h : FL W m mo B pn w1 O s N er cs l P1 c1 st P2 c2 w) (hr : RM W m mo s.T N s.C s.A o w) (hO : ∀ k, oR m o s.C k → O k ∨ w1.heap.size ≤ k) (hr' : RM W m mo s'.T N' s'.C s'.A o' w') (hp : (o'.PN, o'.PX, o'.PY) = pn) (hs : ∀ k, oR m o' s'.C k → oR m o s.C k ∨ w.heap.size ≤ k) (tm : RS W mo s'.E 0 s'.n s'.S z0 w') (fr : Rm (oR m o s.C) w w') :
  FL W m mo B pn w1 O s' N' er cs l P1 c1 st P2 c2 w' := by
 have kp : ∀ b, Tg (fun t => t = 160 ∨ t = 164 ∨ t = 208) w b → w'.heap[b]? = w.heap[b]? := fun b hb => fr.tg hb (fun hk => hb.two (hr.tag hk) (by intro ty hp; rcases hp with rfl | rfl | rfl <;> simp [TgR])) (by intro ty hp; rcases hp with rfl | rfl | rfl <;> decide)
 refine ⟨⟨o', hr', hp, fun k hk => ?_⟩, tm, ⟨Nat.le_trans h.fr.1 fr.1, fun k ob e hn ht => ?_⟩, h.lr.keep fun b hb => kp b (hb.imp fun ty e => by rcases e with e | e <;> simp [e]), row_keep h.sr fun b hb => kp b ((tag_row h.sr hb).imp fun ty e => by simp [e]), h.hb⟩
 · rcases hs k hk with h1 | h1
   · exact hO k h1
   · exact .inr (Nat.le_trans h.fr.1 h1)
 · obtain ⟨e1, n1, _⟩ := h.back hr hO e hn ht
   exact fr.2 k ob e1 n1 ht
theorem FL.later (h : FL W m mo B pn w1 O s N er cs l P1 c1 st P2 c2 w) (b : Below w.heap.size w w') : FL W m mo B pn w1 O s N er cs l P1 c1 st P2 c2 w' := by
 obtain ⟨o, hr, hp, hO⟩ := h.rm
 exact h.own hr hO (hr.later b) hp (fun k hk => .inl hk) (h.tm.later b) (Rm.of_below b)
theorem FL.grown {T : Option Addr} (h : FL W m mo B pn w1 O s N er cs l P1 c1 st P2 c2 w) (tn : Tn (fun k => blk T = some k) w w') (ht : ∀ k, blk T = some k → B ≤ k ∧ Tg Tl w k) (lr : LRt 160 B w' P1' c1' er cs l') (sr : SRt 164 B w' P2' c2' st') :
  FL W m mo B pn w1 O s N er cs l' P1' c1' st' P2' c2' w' := by
 obtain ⟨o, hr, hp, hO⟩ := h.rm
 have nb : ∀ {P : TypeId → Prop} {b : Nat}, Tg P w b → (∀ ty, P ty → ¬ Tl ty) → w'.heap[b]? = w.heap[b]? := fun {P b} hb hp => tn.block b hb.lt fun e => hb.two (ht b e).2 hp
 have hb : Below W.heap.size W w' := hr.bel.trans (tn.below hr.bel.size fun k hk => Nat.le_trans h.hb.1 (ht k hk).1)
 refine ⟨⟨o, hr.keep tn.size (fun k hk => nb (hr.tag hk) (by intro ty hp; rcases hp with rfl | rfl | rfl | rfl | rfl <;> simp [Tl])) (fun b cs e => (nb (P := (· = 103)) ⟨_, _, _, e, rfl⟩ (by rintro ty rfl; simp [Tl])).trans e) hb, hp, hO⟩, h.tm.keepT fun k cs ty fr e h2 => (nb (P := (· = ty)) ⟨_, _, _, e, rfl⟩ (by rintro ty' rfl; rcases h2 with rfl | rfl | rfl <;> simp [Tl])).trans e, ⟨Nat.le_trans h.fr.1 tn.size, fun k ob e hn h3 => ?_⟩, lr, sr, h.hb⟩
 obtain ⟨e1, _, n2⟩ := h.back hr hO e hn h3
 exact (tn.block k (lt_of_blk e1) fun hk => n2 (ht k hk)).trans e1
theorem FL.addS {x : Mp} (h : FL W m mo B pn w1 O s N er cs l P1 c1 st P2 c2 w) (hx : Below w.heap.size w wx) (hg : wx.grownBy w' (Value.slice P2 st.length c2).ownBlock) (ho : w'.ownsRow B 164 2 (.slice (some ⟨g, 0, none⟩) (st.length + 1) cap) (st.length + 1) (st.flatMap mE ++ mE x)) :
  FL W m mo B pn w1 O s N er cs l P1 c1 (st ++ [x]) (some ⟨g, 0, none⟩) cap w' := by
 have tn : Tn (fun k => blk P2 = some k) w w' := Tn.grown hx (by rw [own_blk] at hg; exact hg)
 refine h.grown tn (fun k hk => ⟨(row_lt h.sr hk).1, (tag_row h.sr hk).imp fun ty e => .inr e⟩) (h.lr.keep fun b hb => tn.block b hb.lt fun e => hb.two (tag_row h.sr e) fun ty a b => by subst b; revert a; decide) ?_
 unfold SRt
 rw [List.flatMap_append, show ([x] : List Mp).flatMap mE = mE x from by simp, show (st ++ [x]).length = st.length + 1 from by simp]
 exact ho
theorem FL.addL {L : List Lp} {x : Lp} (h : FL W m mo B pn w1 O s N er cs l P1 c1 st P2 c2 w) (hm : L.map (fun x => (x.id, x.wk)) = l) (hL : ∀ x ∈ L, x.er = er ∧ x.cs = cs ∧ x.n = x.wk.length ∧ Ch.RdK w x.A x.n x.wk) (hr : w.ownsRow B 160 4 (.slice P1 L.length c1) L.length (L.flatMap lE))
  (hxe : x.er = er ∧ x.cs = cs ∧ x.n = x.wk.length) (hxk : Ch.RdK w x.A x.n x.wk) (hx : Below w.heap.size w wx) (hg : wx.grownBy w' (Value.slice P1 L.length c1).ownBlock) (ho : w'.ownsRow B 160 4 (.slice (some ⟨g, 0, none⟩) (L.length + 1) cap) (L.length + 1) (L.flatMap lE ++ lE x)) :
  FL W m mo B pn w1 O s N er cs (l ++ [(x.id, x.wk)]) (some ⟨g, 0, none⟩) cap st P2 c2 w' := by
 have tn : Tn (fun k => blk P1 = some k) w w' := Tn.grown hx (by rw [own_blk] at hg; exact hg)
 have nb : ∀ k ty, Tg (· = ty) w k → ty ≠ 160 → w'.heap[k]? = w.heap[k]? := fun k ty hk n => tn.block k hk.lt fun e => hk.two (tag_row hr e) fun a b c => n (b.symm.trans c)
 have kp : ∀ (A : Option Addr) (n : Nat) (k : List Ch.Wk), Ch.RdK w A n k → Ch.RdK w' A n k := fun A n k h => h.keep fun b cs e => nb b 208 ⟨_, _, _, e, rfl⟩ (by decide)
 refine h.grown tn (fun k hk => ⟨(row_lt hr hk).1, (tag_row hr hk).imp fun ty e => .inl e⟩) ⟨L ++ [x], by simp [hm], fun y hy => ?_, ?_⟩ (row_keep h.sr fun b hb => nb b 164 (tag_row h.sr hb) (by decide))
 · rcases List.mem_append.1 hy with h1 | h1
   · have := hL y h1
     exact ⟨this.1, this.2.1, this.2.2.1, kp _ _ _ this.2.2.2⟩
   · simp at h1; subst h1; exact ⟨hxe.1, hxe.2.1, hxe.2.2, kp _ _ _ hxk⟩
 · rw [List.flatMap_append, show ([x] : List Lp).flatMap lE = lE x from by simp, show (L ++ [x]).length = L.length + 1 from by simp]
   exact ho
theorem FL.within (h : FL W m mo B pn w1 O s N er cs l P1 c1 st P2 c2 w) (hr : RM W m mo s.T N s.C s.A o w) (hO : ∀ k, oR m o s.C k → O k ∨ w1.heap.size ≤ k) (h2 : FL W m mo B pn w (oR m o s.C) s' N' er cs l' P1' c1' st' P2' c2' w') : FL W m mo B pn w1 O s' N' er cs l' P1' c1' st' P2' c2' w' := by
 obtain ⟨o', hr', hp', hO'⟩ := h2.rm
 refine ⟨⟨o', hr', hp', fun k hk => ?_⟩, h2.tm, ⟨Nat.le_trans h.fr.1 h2.fr.1, fun k ob e hn ht => ?_⟩, h2.lr, h2.sr, h.hb⟩
 · rcases hO' k hk with h3 | h3
   · exact hO k h3
   · exact .inr (Nat.le_trans h.fr.1 h3)
 · obtain ⟨e1, n1, n2⟩ := h.back hr hO e hn ht
   exact h2.fr.2 k ob e1 (fun h9 => h9.elim n1 n2) ht
theorem FL.start (h : RM W m mo s.T N s.C s.A o w) (t : RS W mo s.E 0 s.n s.S z0 w) (lr : LRt 160 B w P1 c1 er cs l) (sr : SRt 164 B w P2 c2 st) (hb : W.heap.size ≤ B ∧ B ≤ w.heap.size) : FL W m mo B (o.PN, o.PX, o.PY) w (oR m o s.C) s N er cs l P1 c1 st P2 c2 w :=
 ⟨⟨o, h, rfl, fun k hk => .inl hk⟩, t, Rm.refl _ _, lr, sr, hb⟩
end
end Go.Proofs.YtdpapnfjpefhkaaGreat
namespace Go.Proofs.YtdpapnfjpefhkaaGreat
open Go.RowKit Tr
set_option linter.unusedVariables false
set_option maxRecDepth 100000
def FaP (W : World) (m mo B : Nat) (pn : Option Addr × Option Addr × Option Addr) (w1 : World) (O : Nat → Prop) (s' : St) (er cs : Int) (l : List Lap) (st : List Mp) (e : Ending) (w' : World) : Prop :=
 ∃ P1 n1 c1 P2 n2 c2 N', Hid (n1 = l.length ∧ n2 = st.length) ∧ e = .returned (.tuple #[.slice P1 n1 c1, .slice P2 n2 c2]) ∧ Hid (FL W m mo B pn w1 O s' N' er cs l P1 c1 st P2 c2 w' ∧ NR s'.T s'.C s'.A N')
def FallP (er cs : Int) (W : World) (m mo B n : Nat) : Prop := ∀ (k : Nat) (s : St) (N : List Nd) (o : Lr) (l : List Lap) (st : List Mp) (P1 P2 : Option Addr) (n1 c1 n2 c2 : Nat) (w : World), s.T.length - k < n → RI s → k < s.T.length → (∀ j ∈ Tr.walk s.T k, GdR s j) → RM W m mo s.T N s.C s.A o w → NR s.T s.C s.A N → RS W mo s.E 0 s.n s.S z0 w → LRt 160 B w P1 c1 er cs l → SRt 164 B w P2 c2 st → (W.heap.size ≤ B ∧ B ≤ w.heap.size) → n1 = l.length → n2 = st.length → l.length + (Tr.walk s.T k).length ≤ 100000 → st.length + (Tr.walk s.T k).length ≤ 100000 →
 Calls Tryz.prog 58 #[pM' m, .int .i64 (k : Int), .int .i64 er, .int .i64 cs, .slice P1 n1 c1, .slice P2 n2 c2] w (FaP W m mo B (o.PN, o.PX, o.PY) w (oR m o s.C) (cfold er cs (Tr.walk s.T k) s).1 er cs (l ++ (cfold er cs (Tr.walk s.T k) s).2.1) (st ++ (cfold er cs (Tr.walk s.T k) s).2.2))
theorem cfold_tells (er cs : Int) : ∀ (ws : List Nat) (s : St), (cfold er cs ws s).2.1.length ≤ ws.length ∧ (cfold er cs ws s).2.2.length ≤ ws.length
 | [], s => ⟨Nat.le_refl _, Nat.le_refl _⟩
 | k :: r, s => by
  obtain ⟨h1, h2⟩ := cfold_tells er cs r (cst er cs s k)
  have a1 : (clp s k).length ≤ 1 := by unfold clp; split <;> (try split) <;> simp
  have a2 : (cmp s k).length ≤ 1 := by unfold cmp; split <;> (try split) <;> simp
  constructor
  · show (clp s k ++ (cfold er cs r (cst er cs s k)).2.1).length ≤ _
    rw [List.length_append, List.length_cons]; omega
  · show (cmp s k ++ (cfold er cs r (cst er cs s k)).2.2).length ≤ _
    rw [List.length_append, List.length_cons]; omega
abbrev kf (s : St) (k j : Nat) : List Nat := ((kids s.T k).take j).flatMap (Tr.walk s.T)
theorem kf_next {s : St} {k j a : Nat} (ha : (kids s.T k)[j]? = some a) : kf s k (j + 1) = kf s k j ++ Tr.walk s.T a := by
 unfold kf
 rw [List.take_add_one, ha, List.flatMap_append]
 simp
theorem kf_len (s : St) (k j : Nat) : (kf s k j).length ≤ ((kids s.T k).flatMap (Tr.walk s.T)).length := by
 have h : (kids s.T k).flatMap (Tr.walk s.T) = kf s k j ++ ((kids s.T k).drop j).flatMap (Tr.walk s.T) := by
  unfold kf
  rw [← List.flatMap_append, List.take_append_drop]
 rw [h, List.length_append]; omega
theorem kf_mem {s : St} {k j x : Nat} (h : x ∈ kf s k j) : ∃ i a, i < j ∧ (kids s.T k)[i]? = some a ∧ x ∈ Tr.walk s.T a := by
 obtain ⟨a, h1, h2⟩ := List.mem_flatMap.1 h
 obtain ⟨i, hi⟩ := List.getElem?_of_mem h1
 have hl := (List.getElem?_eq_some_iff.1 hi).1
 rw [List.length_take] at hl
 rw [List.getElem?_take, if_pos (by omega)] at hi
 exact ⟨i, a, by omega, hi, h2⟩
theorem kf_apart {s : St} (wf : WF s.T) {k j a x : Nat} (ha : (kids s.T k)[j]? = some a) (h : x ∈ kf s k j) : x ∉ Tr.walk s.T a := fun hx => by
 obtain ⟨i, b, hi, hb, hxb⟩ := kf_mem h
 have hr := kids_rise s.T k
 rw [List.pairwise_iff_getElem] at hr
 obtain ⟨li, ei⟩ := List.getElem?_eq_some_iff.1 hb
 obtain ⟨lj, ej⟩ := List.getElem?_eq_some_iff.1 ha
 have := hr i j li lj hi
 rw [ei, ej] at this
 exact walk_apart wf (List.mem_of_getElem? hb) (List.mem_of_getElem? ha) this hxb hx
theorem kf_walk {s : St} {k j x : Nat} (h : x ∈ kf s k j) : x ∈ Tr.walk s.T k ∧ k < x := by
 obtain ⟨i, b, hi, hb, hxb⟩ := kf_mem h
 have hk := List.mem_of_getElem? hb
 have hl := kids_lt hk
 refine ⟨walk_kid hk hxb, ?_⟩
 rcases Nat.lt_or_ge k x with c | c
 · exact c
 · exfalso
   have : ∀ n i x, s.T.length - i < n → x ∈ Tr.walk s.T i → i ≤ x := by
    intro n
    induction n with
    | zero => intro i x hn; omega
    | succ n ih =>
     intro i x hn hx
     rcases walk_cases hx with rfl | ⟨j, hj, hx⟩
     · exact Nat.le_refl _
     · have := kids_lt hj
       have := ih j x (by omega) hx
       omega
   have := this _ b x (Nat.lt_succ_self _) hxb
   omega
theorem kf_once {s : St} (wf : WF s.T) {k j : Nat} (hk : k < s.T.length) : (kf s k j).Nodup := by
 have h := walk_once wf hk
 rw [walk_eq, List.nodup_cons] at h
 have e : (kids s.T k).flatMap (Tr.walk s.T) = kf s k j ++ ((kids s.T k).drop j).flatMap (Tr.walk s.T) := by
  unfold kf
  rw [← List.flatMap_append, List.take_append_drop]
 have h := h.2
 rw [e] at h
 exact h.sublist (List.sublist_append_left _ _)
structure FK (W : World) (m mo B : Nat) (pn : Option Addr × Option Addr × Option Addr) (w : World) (O' : Nat → Prop) (s : St) (k : Nat) (er cs : Int) (l : List Lap) (st : List Mp) (Pk : Option Addr) (ck : Nat) (j n1 c1 n2 c2 : Nat) (P1 P2 : Option Addr) (N' : List Nd) (wr : World) : Prop where
 fl : FL W m mo B pn w O' (cfold er cs (kf s k j) (hit er cs s k)).1 N' er cs (l ++ (cfold er cs (kf s k j) (hit er cs s k)).2.1) P1 c1 (st ++ (cfold er cs (kf s k j) (hit er cs s k)).2.2) P2 c2 wr
 nr : NR (cfold er cs (kf s k j) (hit er cs s k)).1.T (cfold er cs (kf s k j) (hit er cs s k)).1.C (cfold er cs (kf s k j) (hit er cs s k)).1.A N'
 kr : Rw 0 wr Pk ck (nz (kids s.T k))
 kb : ∀ b, blk Pk = some b → w.heap.size ≤ b
 px : ∀ b, blk pn.2.1 = some b ∨ blk pn.2.2 = some b → b < w.heap.size
 e1 : n1 = (l ++ (cfold er cs (kf s k j) (hit er cs s k)).2.1).length
 e2 : n2 = (st ++ (cfold er cs (kf s k j) (hit er cs s k)).2.2).length
section
variable {W w wr w' : World} {m mo B k j a n n1 c1 n2 c2 ck : Nat} {pn : Option Addr × Option Addr × Option Addr} {O' : Nat → Prop} {s : St} {er cs : Int} {l : List Lap} {st : List Mp} {Pk P1 P2 : Option Addr} {N' : List Nd}
theorem FK.next (h : FK W m mo B pn w O' s k er cs l st Pk ck j n1 c1 n2 c2 P1 P2 N' wr) (IH : FallP er cs W m mo B n) (hlt : s.T.length - k < n + 1) (hI : RI s) (hkT : k < s.T.length) (hg : ∀ j ∈ Tr.walk s.T k, GdR s j) (hl1 : l.length + (Tr.walk s.T k).length ≤ 100001) (hl2 : st.length + (Tr.walk s.T k).length ≤ 100001) (ha : (kids s.T k)[j]? = some a) :
  Calls Tryz.prog 58 #[pM' m, .int .i64 (a : Int), .int .i64 er, .int .i64 cs, .slice P1 n1 c1, .slice P2 n2 c2] wr fun e w' => ∃ P1' n1' c1' P2' n2' c2' N'', e = .returned (.tuple #[.slice P1' n1' c1', .slice P2' n2' c2']) ∧ Hid (FK W m mo B pn w O' s k er cs l st Pk ck (j + 1) n1' c1' n2' c2' P1' P2' N'' w') := by
 have hka := List.mem_of_getElem? ha
 have hkl := kids_lt hka
 have gk := hg k (walk_head _ _)
 have I1 : RI (hit er cs s k) := hI.hit k
 have g1 : ∀ x ∈ Tr.walk s.T k, x ≠ k → GdR (hit er cs s k) x := fun x hx hne => ((hg x hx).next gk hne).1
 obtain ⟨z, hz⟩ : ∃ z, cfold er cs (kf s k j) (hit er cs s k) = z := ⟨_, rfl⟩
 have hzT : ∀ x, z.1.T[x]? = s.T[x]?.map fun y => (y.1, y.2 && !decide (x ∈ kf s k j)) := fun x => by rw [← hz]; exact cfold_T er cs (kf s k j) (hit er cs s k) x
 have hzl : z.1.T.length = s.T.length := by rw [← hz]; exact (cfold_len er cs (kf s k j) (hit er cs s k)).1
 have I2 : RI z.1 := by rw [← hz]; exact RI.fold _ _ I1
 have hw : Tr.walk z.1.T a = Tr.walk s.T a := walk_off (fun x => decide (x ∈ kf s k j)) hzT _ a (Nat.lt_succ_self _) fun x hx => decide_eq_false fun h9 => kf_apart hI.wf ha h9 hx
 have g2 : ∀ x ∈ Tr.walk z.1.T a, GdR z.1 x := fun x hx => by
  rw [hw] at hx
  have hxk : k < x := by
   have := walk_ge hI.wf hkl.2 hx
   omega
  rw [← hz]
  exact GdR.fold _ _ (g1 x (walk_kid hka hx) (by omega)) (fun y hy => g1 y (kf_walk hy).1 (by have := (kf_walk hy).2; omega)) (kf_once hI.wf hkT) fun h9 => kf_apart hI.wf ha h9 hx
 have hkn := kf_next ha
 have hlen := kf_len s k (j + 1)
 have hwk : (Tr.walk s.T k).length = ((kids s.T k).flatMap (Tr.walk s.T)).length + 1 := by rw [walk_eq]; simp
 rw [hkn, List.length_append] at hlen
 obtain ⟨t1, t2⟩ := cfold_tells er cs (kf s k j) (hit er cs s k)
 have hfl := h.fl; have hnr := h.nr; have he1 := h.e1; have he2 := h.e2
 rw [hz] at hfl hnr he1 he2 t1 t2
 obtain ⟨o', r1, r2, r3⟩ := hfl.rm
 have hc := IH a z.1 N' o' (l ++ z.2.1) (st ++ z.2.2) P1 P2 n1 c1 n2 c2 wr (by omega) I2 (by omega) g2 r1 hnr hfl.tm hfl.lr hfl.sr ⟨hfl.hb.1, Nat.le_trans hfl.hb.2 hfl.fr.1⟩ he1 he2 (by rw [hw, List.length_append]; omega) (by rw [hw, List.length_append]; omega)
 rw [hw, r2] at hc
 refine hc.mono ?_
 rintro e w' ⟨P1', n1', c1', P2', n2', c2', N'', h1, rfl, h2⟩
 have hca := cfold_app er cs (kf s k j) (Tr.walk s.T a) (hit er cs s k)
 rw [hz] at hca
 refine ⟨P1', n1', c1', P2', n2', c2', N'', rfl, ?_⟩
 have hfl2 := hfl.within r1 r3 h2.out.1
 have hkr : Rw 0 w' Pk ck (nz (kids s.T k)) := row_keep h.kr fun b hb => by
  have tb := tag_row h.kr hb
  refine h2.out.1.fr.tg tb (fun h9 => ?_) (by rintro ty rfl; decide)
  rcases h9 with h9 | ⟨_, h9⟩
  · rcases h9 with rfl | h9 | h9 | h9 | h9 | ⟨i, x, q1, q2⟩
    · exact tb.two r1.tm (by rintro ty rfl; decide)
    · exact tb.two (r1.tq h9) (by rintro ty rfl; decide)
    · exact tb.two (r1.tn' h9) (by rintro ty rfl; decide)
    · have := h.px b (.inl (by rw [← r2]; exact h9))
      have := h.kb b hb
      omega
    · have := h.px b (.inr (by rw [← r2]; exact h9))
      have := h.kb b hb
      omega
    · exact tb.two (r1.tc q1 q2) (by rintro ty rfl; decide)
  · exact tb.two h9 (by rintro ty rfl; simp [Tl])
 refine ⟨?_, ?_, hkr, h.kb, h.px, ?_, ?_⟩
 · rw [hkn, hca]
   rw [← List.append_assoc, ← List.append_assoc]
   exact hfl2
 · rw [hkn, hca]; exact h2.out.2
 · rw [hkn, hca, ← List.append_assoc]; exact h1.out.1
 · rw [hkn, hca, ← List.append_assoc]; exact h1.out.2
theorem NR.cutN {T : TS} {C : List Cx} {A : List Af} {N : List Nd} (h : NR T C A N) (hne : ∀ (j : Nat) (a : Af), A[j]? = some a → a.nd ≠ k) : NR (Tr.cut T k) C A N := by
 refine ⟨by rw [Tr.cut_len]; exact h.len, h.c, fun j a ha => ?_⟩
 obtain ⟨q, l, h1, h2⟩ := h.a j a ha
 exact ⟨q, l, by rw [cut_at, if_neg (hne j a ha)]; exact h1, h2⟩
theorem FK.all {L : List Lap} (h : FK W m mo B pn w O' s k er cs L st Pk ck j n1 c1 n2 c2 P1 P2 N' wr) (hj : (kids s.T k).length ≤ j) : cfold er cs (kf s k j) (hit er cs s k) = cfold er cs ((kids s.T k).flatMap (Tr.walk s.T)) (hit er cs s k) := by
 unfold kf
 rw [List.take_of_length_le hj]
end
end Go.Proofs.YtdpapnfjpefhkaaGreat
