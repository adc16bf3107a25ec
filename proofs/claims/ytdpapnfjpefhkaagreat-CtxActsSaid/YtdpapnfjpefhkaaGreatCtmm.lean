/- Contexts in memory: the set's block, its tree, its three rows, its channels; what carries them. No condition.
Contexts in memory: one more, one that has turned; the timers beside them. No condition.
Contexts in memory: their cells; one that has turned; the timers beside them; all of it in one predicate. No condition.
What the reading calls of package ctx answer. Conditions: each theorem's own premises.
What hang and add of package ctx do. Conditions: each theorem's own premises. -/
import Derived.Test.YtdpapnfjpefhkaaGreatTDetm
import Derived.Test.YtdpapnfjpefhkaaGreatStmm
import Derived.Test.YtdpapnfjpefhkaaGreatCAllm
import Derived.Test.YtdpapnfjpefhkaaGreatTMemm
namespace Go.Proofs.YtdpapnfjpefhkaaGreat
open Go.RowKit Tr
set_option linter.unusedVariables false
set_option maxRecDepth 100000
structure Kd where
 af : Bool
 id : Nat
def kE (k : Kd) : List Value := [.bool k.af, .int .i64 k.id]
theorem kE_len (k : Kd) : (kE k).length = 2 := rfl
structure Cx where
 nd : Nat
 ch : Option Nat
 cl : Bool
 rs : List Ch.Wt
 er : Int
 cs : Int
 wh : Int
 has : Bool
 own : Bool
 lp : Int
def cE (x : Cx) : List Value := [.int .i64 x.nd, .pointer (cp x.ch), .int .i64 x.er, .int .i64 x.cs, .int .i64 x.wh, .bool x.has, .bool x.own, .int .i64 x.lp]
theorem cE_len (x : Cx) : (cE x).length = 8 := rfl
structure Af where
 nd : Nat
 pg : Int
def aE (a : Af) : List Value := [.int .i64 a.nd, .int .i64 a.pg]
theorem aE_len (a : Af) : (aE a).length = 2 := rfl
def chS (x : Cx) : Ch.CS := ⟨2, x.cl, 0, [], [], x.rs⟩
def vS (p : Option Nat) (k c a : Value) : Nat → Value
 | 0 => .pointer (cp p)
 | 2 => k
 | 3 => c
 | 4 => a
 | _ => .pointer none
structure Lo where
 PK : Option Addr
 cK : Nat
 PC : Option Addr
 cC : Nat
 PA : Option Addr
 cA : Nat
def TgT (ty : TypeId) : Prop := ty = 125 ∨ ty = 198 ∨ ty = 3
def TgO (ty : TypeId) : Prop := ty = 125 ∨ ty = 198 ∨ ty = 3 ∨ ty = 135 ∨ ty = 117 ∨ ty = 137 ∨ ty = 185 ∨ ty = 237 ∨ ty = 221
def Tg (P : TypeId → Prop) (w : World) (k : Nat) : Prop := ∃ cs ty fr, w.heap[k]? = some (.cells cs ty fr) ∧ P ty
theorem Tg.not {P : TypeId → Prop} {w : World} {k : Nat} (h : Tg P w k) {cs : Array Value} {ty : TypeId} {fr : Nat × Nat} (e : w.heap[k]? = some (.cells cs ty fr)) (hn : ¬ P ty) : False := by
 obtain ⟨cs', ty', fr', e', hp⟩ := h
 rw [e] at e'; injection e' with e'; injection e' with _ e' _; subst e'; exact hn hp
theorem Tg.imp {P Q : TypeId → Prop} {w : World} {k : Nat} (h : Tg P w k) (i : ∀ ty, P ty → Q ty) : Tg Q w k := by
 obtain ⟨cs, ty, fr, e, hp⟩ := h; exact ⟨cs, ty, fr, e, i ty hp⟩
theorem Tg.at {P : TypeId → Prop} {w w' : World} {k : Nat} (h : Tg P w k) (e : w'.heap[k]? = w.heap[k]?) : Tg P w' k := by
 obtain ⟨cs, ty, fr, e', hp⟩ := h; exact ⟨cs, ty, fr, e.trans e', hp⟩
theorem Tg.lt {P : TypeId → Prop} {w : World} {k : Nat} (h : Tg P w k) : k < w.heap.size := by obtain ⟨cs, ty, fr, e, _⟩ := h; exact lt_of_blk e
theorem Tg.two {P Q : TypeId → Prop} {w : World} {k : Nat} (h : Tg P w k) (g : Tg Q w k) (hn : ∀ ty, P ty → ¬ Q ty) : False := by
 obtain ⟨cs, ty, fr, e, hp⟩ := h; exact g.not e (hn ty hp)
theorem tn_ch {F : Nat → Prop} {w w' : World} (h : Ch.Tn F w w') : Tn F w w' := ⟨h.os, h.tape, h.output, h.size, h.block⟩
theorem tag_row {w : World} {B e s n c : Nat} {P : Option Addr} {xs : List Value} (h : w.ownsRow B e s (.slice P n c) n xs) {k : Nat} (hk : blk P = some k) : Tg (· = e) w k := by
 obtain ⟨cs, fr, h1⟩ := row_tag h hk
 exact ⟨cs, e, fr, h1, rfl⟩
section
variable {F : Nat → Prop} {S : TS} {w w' : World} {t : Nat} {V : Nat → Value} {p : Option Nat} {a b c u : Value}
theorem Tr.TR.tagged (h : TR F 0 V S w t) : TR (fun k => F k ∧ Tg TgT w k) 0 V S w t := by
 obtain ⟨wf, le, P, cc, D, x, o⟩ := h
 exact ⟨wf, le, P, cc, D, ⟨x.ht, x.own, x.kid, x.apart, x.gt, ⟨x.ft, _, _, _, x.ht, .inl rfl⟩, fun k hk => ⟨x.fP k hk, (tag_row x.own hk).imp fun ty e => .inr (.inl e)⟩, fun i d k hd hk => ⟨x.fk i d k hd hk, (tag_row (x.kid i d hd) hk).imp fun ty e => .inr (.inr e)⟩⟩, o⟩
theorem Tr.TR.setK (h : TR F 0 (vS p a b c) S w t) (u : Value) : TR F 0 (vS p u b c) S (w.setCell ⟨t, 2, none⟩ u) t := by
 obtain ⟨wf, le, P, cc, D, x, o⟩ := h
 have key : ∀ k, k ≠ t → (w.setCell ⟨t, 2, none⟩ u).heap[k]? = w.heap[k]? := fun k hk => Below.heap_setCell _ _ _ _ (by exact hk)
 exact ⟨wf, le, P, cc, D, ⟨heap_setCell_same w t 2 _ _ u x.ht, row_keep x.own fun k hk => key k (by rintro rfl; exact x.neP hk), fun i d hd => row_keep (x.kid i d hd) fun k hk => key k (by rintro rfl; exact x.neK hd hk), x.apart, x.gt, x.ft, x.fP, x.fk⟩, o⟩
theorem Tr.TR.setC (h : TR F 0 (vS p a b c) S w t) (u : Value) : TR F 0 (vS p a u c) S (w.setCell ⟨t, 3, none⟩ u) t := by
 obtain ⟨wf, le, P, cc, D, x, o⟩ := h
 have key : ∀ k, k ≠ t → (w.setCell ⟨t, 3, none⟩ u).heap[k]? = w.heap[k]? := fun k hk => Below.heap_setCell _ _ _ _ (by exact hk)
 exact ⟨wf, le, P, cc, D, ⟨heap_setCell_same w t 3 _ _ u x.ht, row_keep x.own fun k hk => key k (by rintro rfl; exact x.neP hk), fun i d hd => row_keep (x.kid i d hd) fun k hk => key k (by rintro rfl; exact x.neK hd hk), x.apart, x.gt, x.ft, x.fP, x.fk⟩, o⟩
theorem Tr.TR.setA (h : TR F 0 (vS p a b c) S w t) (u : Value) : TR F 0 (vS p a b u) S (w.setCell ⟨t, 4, none⟩ u) t := by
 obtain ⟨wf, le, P, cc, D, x, o⟩ := h
 have key : ∀ k, k ≠ t → (w.setCell ⟨t, 4, none⟩ u).heap[k]? = w.heap[k]? := fun k hk => Below.heap_setCell _ _ _ _ (by exact hk)
 exact ⟨wf, le, P, cc, D, ⟨heap_setCell_same w t 4 _ _ u x.ht, row_keep x.own fun k hk => key k (by rintro rfl; exact x.neP hk), fun i d hd => row_keep (x.kid i d hd) fun k hk => key k (by rintro rfl; exact x.neK hd hk), x.apart, x.gt, x.ft, x.fP, x.fk⟩, o⟩
theorem Tr.TR.blk (h : TR F 0 V S w t) : ∃ P c, w.heap[t]? = some (.cells #[V 0, .slice P S.length c, V 2, V 3, V 4] 125 (0, 0)) := by
 obtain ⟨wf, le, P, cc, D, x, o⟩ := h
 have := x.ht
 rw [o.1] at this
 exact ⟨P, cc, this⟩
end
structure CY (W : World) (t : Nat) (p : Option Nat) (T : TS) (K : List Kd) (C : List Cx) (A : List Af) (F : Nat → Prop) (G : Nat → Nat → Prop) (o : Lo) (w : World) : Prop where
 bel : Below W.heap.size W w
 tr : TR F 0 (vS p (.slice o.PK K.length o.cK) (.slice o.PC C.length o.cC) (.slice o.PA A.length o.cA)) T w t
 rk : w.ownsRow 0 135 2 (.slice o.PK K.length o.cK) K.length (K.flatMap kE)
 rc : w.ownsRow 0 117 8 (.slice o.PC C.length o.cC) C.length (C.flatMap cE)
 ra : w.ownsRow 0 137 2 (.slice o.PA A.length o.cA) A.length (A.flatMap aE)
 lk : ∀ k, blk o.PK = some k → W.heap.size ≤ k
 lc : ∀ k, blk o.PC = some k → W.heap.size ≤ k
 la : ∀ k, blk o.PA = some k → W.heap.size ≤ k
 ch : ∀ i x c, C[i]? = some x → x.ch = some c → Ch.CH w (G i) c (chS x)
 fF : ∀ k, F k → W.heap.size ≤ k ∧ Tg TgT w k
 fG : ∀ i k, G i k → W.heap.size ≤ k ∧ ∃ x c, C[i]? = some x ∧ x.ch = some c
 gg : ∀ i j k, G i k → G j k → i = j
 fg : ∀ i k, F k → ¬ G i k
def ow (F : Nat → Prop) (G : Nat → Nat → Prop) (o : Lo) (k : Nat) : Prop := F k ∨ blk o.PK = some k ∨ blk o.PC = some k ∨ blk o.PA = some k ∨ ∃ i, G i k
theorem ow.f {F : Nat → Prop} {G : Nat → Nat → Prop} {o : Lo} {k : Nat} (h : F k) : ow F G o k := .inl h
theorem ow.k {F : Nat → Prop} {G : Nat → Nat → Prop} {o : Lo} {k : Nat} (h : blk o.PK = some k) : ow F G o k := .inr (.inl h)
theorem ow.c {F : Nat → Prop} {G : Nat → Nat → Prop} {o : Lo} {k : Nat} (h : blk o.PC = some k) : ow F G o k := .inr (.inr (.inl h))
theorem ow.a {F : Nat → Prop} {G : Nat → Nat → Prop} {o : Lo} {k : Nat} (h : blk o.PA = some k) : ow F G o k := .inr (.inr (.inr (.inl h)))
theorem ow.g {F : Nat → Prop} {G : Nat → Nat → Prop} {o : Lo} {k i : Nat} (h : G i k) : ow F G o k := .inr (.inr (.inr (.inr ⟨i, h⟩)))
section
variable {W w w' wx w1 : World} {t g cap : Nat} {p : Option Nat} {T T' : TS} {K : List Kd} {C : List Cx} {A : List Af} {F : Nat → Prop} {G : Nat → Nat → Prop} {o : Lo} {k : Nat}
theorem CY.tagG (h : CY W t p T K C A F G o w) {i : Nat} (hk : G i k) : Tg (fun ty => ty = 185 ∨ ty = 237 ∨ ty = 3 ∨ ty = 221) w k := by
 obtain ⟨_, x, c, h1, h2⟩ := h.fG i k hk
 obtain ⟨cs, ty, e1, e2⟩ := (h.ch i x c h1 h2).tag hk
 exact ⟨cs, ty, _, e1, e2⟩
theorem CY.tag (h : CY W t p T K C A F G o w) (hk : ow F G o k) : Tg TgO w k := by
 rcases hk with hk | hk | hk | hk | ⟨i, hk⟩
 · exact (h.fF k hk).2.imp fun ty e => by rcases e with e | e | e <;> simp [TgO, e]
 · exact (tag_row h.rk hk).imp fun ty e => by simp [TgO, e]
 · exact (tag_row h.rc hk).imp fun ty e => by simp [TgO, e]
 · exact (tag_row h.ra hk).imp fun ty e => by simp [TgO, e]
 · exact (h.tagG hk).imp fun ty e => by rcases e with e | e | e | e <;> simp [TgO, e]
theorem CY.low (h : CY W t p T K C A F G o w) (hk : ow F G o k) : W.heap.size ≤ k := by
 rcases hk with hk | hk | hk | hk | ⟨i, hk⟩
 · exact (h.fF k hk).1
 · exact h.lk k hk
 · exact h.lc k hk
 · exact h.la k hk
 · exact (h.fG i k hk).1
theorem CY.keep (h : CY W t p T K C A F G o w) (hb : ∀ k, ow F G o k → w'.heap[k]? = w.heap[k]?) (b : Below W.heap.size W w') : CY W t p T K C A F G o w' :=
 ⟨b, h.tr.keep fun k _ hf => hb k (.f hf), row_keep h.rk fun k hk => hb k (.k hk), row_keep h.rc fun k hk => hb k (.c hk), row_keep h.ra fun k hk => hb k (.a hk), h.lk, h.lc, h.la,
  fun i x c h1 h2 => (h.ch i x c h1 h2).keep fun k hk => hb k (.g hk), fun k hk => ⟨(h.fF k hk).1, (h.fF k hk).2.at (hb k (.f hk))⟩, h.fG, h.gg, h.fg⟩
theorem CY.lt (h : CY W t p T K C A F G o w) (hk : ow F G o k) : k < w.heap.size := (h.tag hk).lt
theorem CY.later (h : CY W t p T K C A F G o w) (b : Below w.heap.size w w') : CY W t p T K C A F G o w' := h.keep (fun k hk => b.block k (h.lt hk)) (h.bel.trans (b.mono h.bel.size))
theorem CY.ft (h : CY W t p T K C A F G o w) : F t := h.tr.ft
theorem CY.tnb (h : CY W t p T K C A F G o w) (x : Tn (ow F G o) w w') : Below W.heap.size W w' := h.bel.trans (x.below h.bel.size fun b hb => h.low hb)
theorem CY.tree (h : CY W t p T K C A F G o w) (g : Tr.Go F 0 (vS p (.slice o.PK K.length o.cK) (.slice o.PC C.length o.cC) (.slice o.PA A.length o.cA)) t T' w w') :
  ∃ F' : Nat → Prop, CY W t p T' K C A F' G o w' ∧ (∀ k, F' k → F k ∨ w.heap.size ≤ k) ∧ Tn F w w' := by
 obtain ⟨g1, tn⟩ := g
 have x : Tn (ow F G o) w w' := tn.mono fun b hb => .inl (.f hb)
 have nf : ∀ k, (Tg (fun ty => ¬ TgT ty) w k) → ¬ F k := fun k h1 hf => h1.two (h.fF k hf).2 fun ty a b => a b
 have hs := h.bel.size
 refine ⟨_, ⟨h.tnb x, g1.tagged, row_keep h.rk fun k hk => ?_, row_keep h.rc fun k hk => ?_, row_keep h.ra fun k hk => ?_, h.lk, h.lc, h.la, fun i x c h1 h2 => (h.ch i x c h1 h2).keep fun k hk => ?_, fun k hk => ⟨?_, hk.2⟩, h.fG, h.gg, fun i k hk hg => ?_⟩, fun k hk => hk.1, tn⟩
 · exact tn.block k (row_lt h.rk hk).2 (nf k ((tag_row h.rk hk).imp fun ty e => by subst e; simp [TgT]))
 · exact tn.block k (row_lt h.rc hk).2 (nf k ((tag_row h.rc hk).imp fun ty e => by subst e; simp [TgT]))
 · exact tn.block k (row_lt h.ra hk).2 (nf k ((tag_row h.ra hk).imp fun ty e => by subst e; simp [TgT]))
 · exact tn.block k (h.lt (.g hk)) fun hf => h.fg i k hf hk
 · rcases hk.1 with hk | hk
   · exact (h.fF k hk).1
   · omega
 · rcases hk.1 with hf | hf
   · exact h.fg i k hf hg
   · have := h.lt (.g (o := o) (F := F) hg); omega
end
end Go.Proofs.YtdpapnfjpefhkaaGreat
namespace Go.Proofs.YtdpapnfjpefhkaaGreat
open Go.RowKit Tr
set_option linter.unusedVariables false
set_option maxRecDepth 100000
section
variable {W w w' wx w1 : World} {t g cap : Nat} {p : Option Nat} {T T' : TS} {K : List Kd} {C : List Cx} {A : List Af} {F : Nat → Prop} {G : Nat → Nat → Prop} {o : Lo} {k : Nat}
theorem blk_some {b k : Nat} (h : blk (some ⟨b, 0, none⟩) = some k) : b = k := by simpa [blk] using h
structure NC (W : World) (O : Nat → Prop) (Gc : Nat → Prop) (w : World) (x : Cx) : Prop where
 cc : ∀ {c}, x.ch = some c → Ch.CH w Gc c (chS x)
 no : ∀ {k}, Gc k → W.heap.size ≤ k ∧ ¬ O k
 has : ∀ {k}, Gc k → ∃ c, x.ch = some c
theorem NC.lt {O Gc : Nat → Prop} {x : Cx} (h : NC W O Gc w x) (hk : Gc k) : k < w.heap.size := by
 obtain ⟨c, e⟩ := h.has hk
 exact (h.cc e).lt hk
theorem NC.none {O : Nat → Prop} {x : Cx} (hx : x.ch = none) : NC W O (fun _ => False) w x := ⟨fun h => (by rw [hx] at h; cases h), fun h => h.elim, fun h => h.elim⟩
def gN (G : Nat → Nat → Prop) (n : Nat) (Gc : Nat → Prop) (i : Nat) : Nat → Prop := if i = n then Gc else G i
theorem CY.midK (h : CY W t p T K C A F G o w) (hx : Below w.heap.size w wx) (hg : wx.grownBy w1 (Value.slice o.PK K.length o.cK).ownBlock) :
  Tn (fun k => blk o.PK = some k) w w1 ∧ w1.heap[t]? = w.heap[t]? ∧ w1.cell? ⟨t, 2, none⟩ = some (.slice o.PK K.length o.cK) ∧ w1.frozen? ⟨t, 2, none⟩ = false := by
 have T1 : Tn (fun k => blk o.PK = some k) w w1 := Tn.grown hx (by rw [own_blk] at hg; exact hg)
 obtain ⟨P, c, hb⟩ := h.tr.blk
 have e : w1.heap[t]? = w.heap[t]? := T1.block t (lt_of_blk hb) fun e => (tag_row h.rk e).not hb (by decide)
 have hb1 := e.trans hb
 exact ⟨T1, e, by rw [cell_of_row w1 t 2 _ _ _ hb1]; rfl, frozen_of_row w1 t 2 _ _ hb1⟩
theorem CY.addK (h : CY W t p T K C A F G o w) (x : Kd) (hx : Below w.heap.size w wx) (hg : wx.grownBy w1 (Value.slice o.PK K.length o.cK).ownBlock)
  (ho : w1.ownsRow 0 135 2 (.slice (some ⟨g, 0, none⟩) (K.length + 1) cap) (K.length + 1) (K.flatMap kE ++ kE x)) (hat : (Value.slice o.PK K.length o.cK).ownBlock = some g ∨ w.heap.size ≤ g) :
  CY W t p T (K ++ [x]) C A F G { o with PK := some ⟨g, 0, none⟩, cK := cap } (w1.setCell ⟨t, 2, none⟩ (.slice (some ⟨g, 0, none⟩) (K.length + 1) cap)) ∧
   Tn (ow F G o) w (w1.setCell ⟨t, 2, none⟩ (.slice (some ⟨g, 0, none⟩) (K.length + 1) cap)) := by
 obtain ⟨T1, e1, -, -⟩ := h.midK hx hg
 rw [own_blk] at hat
 obtain ⟨P, c, hb⟩ := h.tr.blk
 have hs := h.bel.size
 have key : ∀ k, k ≠ t → (w1.setCell ⟨t, 2, none⟩ (.slice (some ⟨g, 0, none⟩) (K.length + 1) cap)).heap[k]? = w1.heap[k]? := fun k hk => Below.heap_setCell _ _ _ _ (by exact hk)
 have T2 : Tn (ow F G o) w (w1.setCell ⟨t, 2, none⟩ (.slice (some ⟨g, 0, none⟩) (K.length + 1) cap)) := (T1.mono fun b hb => .inl (.k hb)).set (.inl (.f h.ft)) _
 have nb : ∀ k ty, Tg (· = ty) w k → ty ≠ 135 → ty ≠ 125 → (w1.setCell ⟨t, 2, none⟩ (.slice (some ⟨g, 0, none⟩) (K.length + 1) cap)).heap[k]? = w.heap[k]? := by
  intro k ty hk n1 n2
  rw [key k ?_]
  · exact T1.block k hk.lt fun e => hk.two (tag_row h.rk e) fun ty' a b => n1 (a.symm.trans b)
  · rintro rfl; exact hk.not hb (fun e => n2 e.symm)
 have nF : ∀ k, F k → w1.heap[k]? = w.heap[k]? := fun k hf => T1.block k (h.fF k hf).2.lt fun e => (h.fF k hf).2.two (tag_row h.rk e) fun ty a b => by subst b; revert a; unfold TgT; decide
 have tg : Tg (· = 135) w1 g := tag_row ho rfl
 have gt : g ≠ t := by rintro rfl; exact tg.not (e1.trans hb) (by decide)
 have el : (K ++ [x]).length = K.length + 1 := by simp
 have hgg : ∀ i k, G i k → (w1.setCell ⟨t, 2, none⟩ (.slice (some ⟨g, 0, none⟩) (K.length + 1) cap)).heap[k]? = w.heap[k]? := by
  intro i k hk
  rw [key k ?_]
  · exact T1.block k (h.lt (.g (o := o) (F := F) hk)) fun e => (h.tagG hk).two (tag_row h.rk e) fun ty a b => by subst b; revert a; decide
  · rintro rfl; exact h.fg i k h.ft hk
 refine ⟨⟨h.tnb T2, ?_, ?_, ?_, ?_, ?_, ?_, ?_, fun i x c h1 h2 => (h.ch i x c h1 h2).keep fun k hk => hgg i k hk, fun k hf => ⟨(h.fF k hf).1, ?_⟩, h.fG, h.gg, h.fg⟩, T2⟩
 · rw [el]; exact (h.tr.keep fun k _ hf => nF k hf).setK _
 · rw [el, List.flatMap_append, show ([x] : List Kd).flatMap kE = kE x from by simp]
   exact row_keep ho fun k hk => key k (by rw [← blk_some hk]; exact gt)
 · exact row_keep h.rc fun k hk => nb k _ (tag_row h.rc hk) (by decide) (by decide)
 · exact row_keep h.ra fun k hk => nb k _ (tag_row h.ra hk) (by decide) (by decide)
 · intro k hk
   rw [← blk_some hk]
   rcases hat with e | e
   · exact h.lk g e
   · omega
 · exact h.lc
 · exact h.la
 · by_cases e : k = t
   · subst e
     exact ⟨_, _, _, heap_setCell_same w1 k 2 _ _ _ (e1.trans hb), .inl rfl⟩
   · exact (h.fF k hf).2.at ((key k e).trans (nF k hf))
theorem CY.midC (h : CY W t p T K C A F G o w) (hx : Below w.heap.size w wx) (hg : wx.grownBy w1 (Value.slice o.PC C.length o.cC).ownBlock) :
  Tn (fun k => blk o.PC = some k) w w1 ∧ w1.heap[t]? = w.heap[t]? ∧ w1.cell? ⟨t, 3, none⟩ = some (.slice o.PC C.length o.cC) ∧ w1.frozen? ⟨t, 3, none⟩ = false := by
 have T1 : Tn (fun k => blk o.PC = some k) w w1 := Tn.grown hx (by rw [own_blk] at hg; exact hg)
 obtain ⟨P, c, hb⟩ := h.tr.blk
 have e : w1.heap[t]? = w.heap[t]? := T1.block t (lt_of_blk hb) fun e => (tag_row h.rc e).not hb (by decide)
 have hb1 := e.trans hb
 exact ⟨T1, e, by rw [cell_of_row w1 t 3 _ _ _ hb1]; rfl, frozen_of_row w1 t 3 _ _ hb1⟩
theorem CY.addC (h : CY W t p T K C A F G o w) (x : Cx) (hx : Below w.heap.size w wx) (hg : wx.grownBy w1 (Value.slice o.PC C.length o.cC).ownBlock)
  (ho : w1.ownsRow 0 117 8 (.slice (some ⟨g, 0, none⟩) (C.length + 1) cap) (C.length + 1) (C.flatMap cE ++ cE x)) (hat : (Value.slice o.PC C.length o.cC).ownBlock = some g ∨ w.heap.size ≤ g) {Gc : Nat → Prop} (hc : NC W (ow F G o) Gc w x) :
  CY W t p T K (C ++ [x]) A F (gN G C.length Gc) { o with PC := some ⟨g, 0, none⟩, cC := cap } (w1.setCell ⟨t, 3, none⟩ (.slice (some ⟨g, 0, none⟩) (C.length + 1) cap)) ∧
   Tn (ow F G o) w (w1.setCell ⟨t, 3, none⟩ (.slice (some ⟨g, 0, none⟩) (C.length + 1) cap)) := by
 obtain ⟨T1, e1, -, -⟩ := h.midC hx hg
 rw [own_blk] at hat
 obtain ⟨P, c, hb⟩ := h.tr.blk
 have hs := h.bel.size
 have key : ∀ k, k ≠ t → (w1.setCell ⟨t, 3, none⟩ (.slice (some ⟨g, 0, none⟩) (C.length + 1) cap)).heap[k]? = w1.heap[k]? := fun k hk => Below.heap_setCell _ _ _ _ (by exact hk)
 have T2 : Tn (ow F G o) w (w1.setCell ⟨t, 3, none⟩ (.slice (some ⟨g, 0, none⟩) (C.length + 1) cap)) := (T1.mono fun b hb => .inl (.c hb)).set (.inl (.f h.ft)) _
 have nb : ∀ k ty, Tg (· = ty) w k → ty ≠ 117 → ty ≠ 125 → (w1.setCell ⟨t, 3, none⟩ (.slice (some ⟨g, 0, none⟩) (C.length + 1) cap)).heap[k]? = w.heap[k]? := by
  intro k ty hk n1 n2
  rw [key k ?_]
  · exact T1.block k hk.lt fun e => hk.two (tag_row h.rc e) fun ty' a b => n1 (a.symm.trans b)
  · rintro rfl; exact hk.not hb (fun e => n2 e.symm)
 have nF : ∀ k, F k → w1.heap[k]? = w.heap[k]? := fun k hf => T1.block k (h.fF k hf).2.lt fun e => (h.fF k hf).2.two (tag_row h.rc e) fun ty a b => by subst b; revert a; unfold TgT; decide
 have tg : Tg (· = 117) w1 g := tag_row ho rfl
 have gt : g ≠ t := by rintro rfl; exact tg.not (e1.trans hb) (by decide)
 have el : (C ++ [x]).length = C.length + 1 := by simp
 have hgg : ∀ i k, G i k → (w1.setCell ⟨t, 3, none⟩ (.slice (some ⟨g, 0, none⟩) (C.length + 1) cap)).heap[k]? = w.heap[k]? := by
  intro i k hk
  rw [key k ?_]
  · exact T1.block k (h.lt (.g (o := o) (F := F) hk)) fun e => (h.tagG hk).two (tag_row h.rc e) fun ty a b => by subst b; revert a; decide
  · rintro rfl; exact h.fg i k h.ft hk
 have hgc : ∀ k, Gc k → (w1.setCell ⟨t, 3, none⟩ (.slice (some ⟨g, 0, none⟩) (C.length + 1) cap)).heap[k]? = w.heap[k]? := by
  intro k hk
  rw [key k ?_]
  · exact T1.block k (hc.lt hk) fun e => (hc.no hk).2 (.c e)
  · rintro rfl; exact (hc.no hk).2 (.f h.ft)
 have gl : ∀ i k, G i k → i < C.length := fun i k hk => by obtain ⟨_, y, c, e, _⟩ := h.fG i k hk; exact (List.getElem?_eq_some_iff.1 e).1
 refine ⟨⟨h.tnb T2, ?_, ?_, ?_, ?_, ?_, ?_, ?_, ?_, fun k hf => ⟨(h.fF k hf).1, ?_⟩, ?_, ?_, ?_⟩, T2⟩
 · rw [el]; exact (h.tr.keep fun k _ hf => nF k hf).setC _
 · exact row_keep h.rk fun k hk => nb k _ (tag_row h.rk hk) (by decide) (by decide)
 · rw [el, List.flatMap_append, show ([x] : List Cx).flatMap cE = cE x from by simp]
   exact row_keep ho fun k hk => key k (by rw [← blk_some hk]; exact gt)
 · exact row_keep h.ra fun k hk => nb k _ (tag_row h.ra hk) (by decide) (by decide)
 · exact h.lk
 · intro k hk
   rw [← blk_some hk]
   rcases hat with e | e
   · exact h.lc g e
   · omega
 · exact h.la
 · intro i y c h1 h2
   unfold gN
   by_cases e : i = C.length
   · subst e
     rw [List.getElem?_append_right (Nat.le_refl _), Nat.sub_self] at h1
     simp at h1; subst h1
     simp only [if_true]
     exact (hc.cc h2).keep fun k hk => hgc k hk
   · have hi := (List.getElem?_eq_some_iff.1 h1).1
     rw [el] at hi
     rw [List.getElem?_append_left (by omega)] at h1
     simp only [if_neg e]
     exact (h.ch i y c h1 h2).keep fun k hk => hgg i k hk
 · by_cases e : k = t
   · subst e
     exact ⟨_, _, _, heap_setCell_same w1 k 3 _ _ _ (e1.trans hb), .inl rfl⟩
   · exact (h.fF k hf).2.at ((key k e).trans (nF k hf))
 · intro i k hk
   unfold gN at hk
   by_cases e : i = C.length
   · simp only [if_pos e] at hk
     obtain ⟨c, h1⟩ := hc.has hk
     exact ⟨(hc.no hk).1, x, c, by rw [e]; simp, h1⟩
   · simp only [if_neg e] at hk
     obtain ⟨h1, y, c, h2, h3⟩ := h.fG i k hk
     exact ⟨h1, y, c, by rw [List.getElem?_append_left (gl i k hk)]; exact h2, h3⟩
 · intro i j k hi hj
   unfold gN at hi hj
   by_cases e : i = C.length
   · by_cases e2 : j = C.length
     · rw [e, e2]
     · simp only [if_pos e] at hi; simp only [if_neg e2] at hj
       exact absurd (.g hj) (hc.no hi).2
   · by_cases e2 : j = C.length
     · simp only [if_neg e] at hi; simp only [if_pos e2] at hj
       exact absurd (.g hi) (hc.no hj).2
     · simp only [if_neg e] at hi; simp only [if_neg e2] at hj
       exact h.gg i j k hi hj
 · intro i k hf hk
   unfold gN at hk
   by_cases e : i = C.length
   · simp only [if_pos e] at hk; exact (hc.no hk).2 (.f hf)
   · simp only [if_neg e] at hk; exact h.fg i k hf hk
theorem CY.midA (h : CY W t p T K C A F G o w) (hx : Below w.heap.size w wx) (hg : wx.grownBy w1 (Value.slice o.PA A.length o.cA).ownBlock) :
  Tn (fun k => blk o.PA = some k) w w1 ∧ w1.heap[t]? = w.heap[t]? ∧ w1.cell? ⟨t, 4, none⟩ = some (.slice o.PA A.length o.cA) ∧ w1.frozen? ⟨t, 4, none⟩ = false := by
 have T1 : Tn (fun k => blk o.PA = some k) w w1 := Tn.grown hx (by rw [own_blk] at hg; exact hg)
 obtain ⟨P, c, hb⟩ := h.tr.blk
 have e : w1.heap[t]? = w.heap[t]? := T1.block t (lt_of_blk hb) fun e => (tag_row h.ra e).not hb (by decide)
 have hb1 := e.trans hb
 exact ⟨T1, e, by rw [cell_of_row w1 t 4 _ _ _ hb1]; rfl, frozen_of_row w1 t 4 _ _ hb1⟩
theorem CY.addA (h : CY W t p T K C A F G o w) (x : Af) (hx : Below w.heap.size w wx) (hg : wx.grownBy w1 (Value.slice o.PA A.length o.cA).ownBlock)
  (ho : w1.ownsRow 0 137 2 (.slice (some ⟨g, 0, none⟩) (A.length + 1) cap) (A.length + 1) (A.flatMap aE ++ aE x)) (hat : (Value.slice o.PA A.length o.cA).ownBlock = some g ∨ w.heap.size ≤ g) :
  CY W t p T K C (A ++ [x]) F G { o with PA := some ⟨g, 0, none⟩, cA := cap } (w1.setCell ⟨t, 4, none⟩ (.slice (some ⟨g, 0, none⟩) (A.length + 1) cap)) ∧
   Tn (ow F G o) w (w1.setCell ⟨t, 4, none⟩ (.slice (some ⟨g, 0, none⟩) (A.length + 1) cap)) := by
 obtain ⟨T1, e1, -, -⟩ := h.midA hx hg
 rw [own_blk] at hat
 obtain ⟨P, c, hb⟩ := h.tr.blk
 have hs := h.bel.size
 have key : ∀ k, k ≠ t → (w1.setCell ⟨t, 4, none⟩ (.slice (some ⟨g, 0, none⟩) (A.length + 1) cap)).heap[k]? = w1.heap[k]? := fun k hk => Below.heap_setCell _ _ _ _ (by exact hk)
 have T2 : Tn (ow F G o) w (w1.setCell ⟨t, 4, none⟩ (.slice (some ⟨g, 0, none⟩) (A.length + 1) cap)) := (T1.mono fun b hb => .inl (.a hb)).set (.inl (.f h.ft)) _
 have nb : ∀ k ty, Tg (· = ty) w k → ty ≠ 137 → ty ≠ 125 → (w1.setCell ⟨t, 4, none⟩ (.slice (some ⟨g, 0, none⟩) (A.length + 1) cap)).heap[k]? = w.heap[k]? := by
  intro k ty hk n1 n2
  rw [key k ?_]
  · exact T1.block k hk.lt fun e => hk.two (tag_row h.ra e) fun ty' a b => n1 (a.symm.trans b)
  · rintro rfl; exact hk.not hb (fun e => n2 e.symm)
 have nF : ∀ k, F k → w1.heap[k]? = w.heap[k]? := fun k hf => T1.block k (h.fF k hf).2.lt fun e => (h.fF k hf).2.two (tag_row h.ra e) fun ty a b => by subst b; revert a; unfold TgT; decide
 have tg : Tg (· = 137) w1 g := tag_row ho rfl
 have gt : g ≠ t := by rintro rfl; exact tg.not (e1.trans hb) (by decide)
 have el : (A ++ [x]).length = A.length + 1 := by simp
 have hgg : ∀ i k, G i k → (w1.setCell ⟨t, 4, none⟩ (.slice (some ⟨g, 0, none⟩) (A.length + 1) cap)).heap[k]? = w.heap[k]? := by
  intro i k hk
  rw [key k ?_]
  · exact T1.block k (h.lt (.g (o := o) (F := F) hk)) fun e => (h.tagG hk).two (tag_row h.ra e) fun ty a b => by subst b; revert a; decide
  · rintro rfl; exact h.fg i k h.ft hk
 refine ⟨⟨h.tnb T2, ?_, ?_, ?_, ?_, ?_, ?_, ?_, fun i x c h1 h2 => (h.ch i x c h1 h2).keep fun k hk => hgg i k hk, fun k hf => ⟨(h.fF k hf).1, ?_⟩, h.fG, h.gg, h.fg⟩, T2⟩
 · rw [el]; exact (h.tr.keep fun k _ hf => nF k hf).setA _
 · exact row_keep h.rk fun k hk => nb k _ (tag_row h.rk hk) (by decide) (by decide)
 · exact row_keep h.rc fun k hk => nb k _ (tag_row h.rc hk) (by decide) (by decide)
 · rw [el, List.flatMap_append, show ([x] : List Af).flatMap aE = aE x from by simp]
   exact row_keep ho fun k hk => key k (by rw [← blk_some hk]; exact gt)
 · exact h.lk
 · exact h.lc
 · intro k hk
   rw [← blk_some hk]
   rcases hat with e | e
   · exact h.la g e
   · omega
 · by_cases e : k = t
   · subst e
     exact ⟨_, _, _, heap_setCell_same w1 k 4 _ _ _ (e1.trans hb), .inl rfl⟩
   · exact (h.fF k hf).2.at ((key k e).trans (nF k hf))
end
end Go.Proofs.YtdpapnfjpefhkaaGreat
namespace Go.Proofs.YtdpapnfjpefhkaaGreat
open Go.RowKit Tr
set_option linter.unusedVariables false
set_option maxRecDepth 100000
theorem flat_same {α : Type} (f : α → List Value) (y : α) : ∀ (l : List α) (i : Nat) (x : α), l[i]? = some x → f y = f x → (l.set i y).flatMap f = l.flatMap f
 | [], i, x, h, _ => by simp at h
 | a :: l, 0, x, h, e => by simp at h; subst h; simp [e]
 | a :: l, i + 1, x, h, e => by
  rw [List.set_cons_succ, List.flatMap_cons, List.flatMap_cons, flat_same f y l i x (by simpa using h) e]
section
variable {W w w' wx w1 : World} {t g cap i n : Nat} {p : Option Nat} {T T' : TS} {K : List Kd} {C : List Cx} {A : List Af} {F : Nat → Prop} {G : Nat → Nat → Prop} {o : Lo} {k : Nat} {x y : Cx}
theorem CY.cells (h : CY W t p T K C A F G o w) : w.cell? ⟨t, 0, none⟩ = some (.pointer (cp p)) ∧ w.cell? ⟨t, 2, none⟩ = some (.slice o.PK K.length o.cK) ∧ w.cell? ⟨t, 3, none⟩ = some (.slice o.PC C.length o.cC) ∧ w.cell? ⟨t, 4, none⟩ = some (.slice o.PA A.length o.cA) ∧ ∀ j, w.frozen? ⟨t, j, none⟩ = false := by
 obtain ⟨P, c, hb⟩ := h.tr.blk
 refine ⟨by rw [cell_of_row w t 0 _ _ _ hb]; rfl, by rw [cell_of_row w t 2 _ _ _ hb]; rfl, by rw [cell_of_row w t 3 _ _ _ hb]; rfl, by rw [cell_of_row w t 4 _ _ _ hb]; rfl, fun j => frozen_of_row w t j _ _ hb⟩
theorem CY.cx (h : CY W t p T K C A F G o w) (hx : C[i]? = some x) : ∃ q, o.PC = some ⟨q, 0, none⟩ ∧ q < w.heap.size ∧
  (w.cell? ⟨q, i * 8, none⟩ = some (.int .i64 x.nd) ∧ w.cell? ⟨q, i * 8 + 1, none⟩ = some (.pointer (cp x.ch)) ∧ w.cell? ⟨q, i * 8 + 2, none⟩ = some (.int .i64 x.er) ∧ w.cell? ⟨q, i * 8 + 3, none⟩ = some (.int .i64 x.cs) ∧ w.cell? ⟨q, i * 8 + 4, none⟩ = some (.int .i64 x.wh) ∧ w.cell? ⟨q, i * 8 + 5, none⟩ = some (.bool x.has) ∧ w.cell? ⟨q, i * 8 + 6, none⟩ = some (.bool x.own) ∧ w.cell? ⟨q, i * 8 + 7, none⟩ = some (.int .i64 x.lp)) ∧ ∀ j, w.frozen? ⟨q, j, none⟩ = false := by
 have hi := (List.getElem?_eq_some_iff.1 hx).1
 obtain ⟨q, hP, _⟩ := row_form h.rc (by omega)
 have rc := h.rc
 rw [hP] at rc
 have hc : ∀ j, j < 8 → w.cell? ⟨q, i * 8 + j, none⟩ = (cE x)[j]? := fun j hj => by
  rw [rc.cellAt (i * 8 + j) (by omega)]
  exact flat_at cE 8 cE_len C i x hx j hj
 exact ⟨q, hP, (row_lt rc rfl).2, ⟨hc 0 (by omega), hc 1 (by omega), hc 2 (by omega), hc 3 (by omega), hc 4 (by omega), hc 5 (by omega), hc 6 (by omega), hc 7 (by omega)⟩, fun j => rc.frozenAt j⟩
theorem CY.kx (h : CY W t p T K C A F G o w) {z : Kd} (hx : K[i]? = some z) : ∃ q, o.PK = some ⟨q, 0, none⟩ ∧ q < w.heap.size ∧
  (w.cell? ⟨q, i * 2, none⟩ = some (.bool z.af) ∧ w.cell? ⟨q, i * 2 + 1, none⟩ = some (.int .i64 z.id)) := by
 have hi := (List.getElem?_eq_some_iff.1 hx).1
 obtain ⟨q, hP, _⟩ := row_form h.rk (by omega)
 have rc := h.rk
 rw [hP] at rc
 have hc : ∀ j, j < 2 → w.cell? ⟨q, i * 2 + j, none⟩ = (kE z)[j]? := fun j hj => by
  rw [rc.cellAt (i * 2 + j) (by omega)]
  exact flat_at kE 2 kE_len K i z hx j hj
 exact ⟨q, hP, (row_lt rc rfl).2, hc 0 (by omega), hc 1 (by omega)⟩
theorem CY.ax (h : CY W t p T K C A F G o w) {z : Af} (hx : A[i]? = some z) : ∃ q, o.PA = some ⟨q, 0, none⟩ ∧ q < w.heap.size ∧
  (w.cell? ⟨q, i * 2, none⟩ = some (.int .i64 z.nd) ∧ w.cell? ⟨q, i * 2 + 1, none⟩ = some (.int .i64 z.pg)) := by
 have hi := (List.getElem?_eq_some_iff.1 hx).1
 obtain ⟨q, hP, _⟩ := row_form h.ra (by omega)
 have rc := h.ra
 rw [hP] at rc
 have hc : ∀ j, j < 2 → w.cell? ⟨q, i * 2 + j, none⟩ = (aE z)[j]? := fun j hj => by
  rw [rc.cellAt (i * 2 + j) (by omega)]
  exact flat_at aE 2 aE_len A i z hx j hj
 exact ⟨q, hP, (row_lt rc rfl).2, hc 0 (by omega), hc 1 (by omega)⟩
theorem CY.setx (h : CY W t p T K C A F G o w) (hx : C[i]? = some x) {q : Nat} (hP : o.PC = some ⟨q, 0, none⟩) (j : Nat) (hj : j < 8) (v : Value) (hc : y.ch = x.ch) (hs : chS y = chS x) (he : cE y = (cE x).set j v) :
  CY W t p T K (C.set i y) A F G o (w.setCell ⟨q, i * 8 + j, none⟩ v) ∧ Tn (ow F G o) w (w.setCell ⟨q, i * 8 + j, none⟩ v) := by
 have hl := (List.getElem?_eq_some_iff.1 hx).1
 have key : ∀ k, k ≠ q → (w.setCell ⟨q, i * 8 + j, none⟩ v).heap[k]? = w.heap[k]? := fun k hk => Below.heap_setCell _ _ _ _ (by exact hk)
 have hq : blk o.PC = some q := by rw [hP]; rfl
 have T2 : Tn (ow F G o) w (w.setCell ⟨q, i * 8 + j, none⟩ v) := (Tn.refl _ w).set (.inl (.c hq)) _
 have tg := tag_row h.rc hq
 have nq : ∀ k ty, Tg (· = ty) w k → ty ≠ 117 → (w.setCell ⟨q, i * 8 + j, none⟩ v).heap[k]? = w.heap[k]? := fun k ty hk n => key k (by rintro rfl; exact hk.two tg fun a b c => n (b.symm.trans c))
 have nF : ∀ k, F k → (w.setCell ⟨q, i * 8 + j, none⟩ v).heap[k]? = w.heap[k]? := fun k hf => key k (by rintro rfl; exact (h.fF k hf).2.two tg fun ty a b => by subst b; revert a; unfold TgT; decide)
 have nG : ∀ i' k, G i' k → (w.setCell ⟨q, i * 8 + j, none⟩ v).heap[k]? = w.heap[k]? := fun i' k hk => key k (by rintro rfl; exact (h.tagG hk).two tg fun ty a b => by subst b; revert a; decide)
 have hat : ∀ (i' : Nat) (z : Cx), (C.set i y)[i']? = some z → ∃ z', C[i']? = some z' ∧ z.ch = z'.ch ∧ chS z = chS z' := by
  intro i' z hz
  rcases set_at hz with ⟨rfl, rfl⟩ | ⟨hn, hz⟩
  · exact ⟨x, hx, hc, hs⟩
  · exact ⟨z, hz, rfl, rfl⟩
 have hta : ∀ (i' : Nat) (z : Cx), C[i']? = some z → ∃ z', (C.set i y)[i']? = some z' ∧ z'.ch = z.ch := by
  intro i' z hz
  by_cases e : i' = i
  · subst e; rw [hx] at hz; cases hz
    exact ⟨y, by rw [List.getElem?_set_self hl], hc⟩
  · exact ⟨z, by rw [List.getElem?_set_ne (fun e9 => e e9.symm)]; exact hz, rfl⟩
 refine ⟨⟨h.tnb T2, ?_, row_keep h.rk fun k hk => nq k _ (tag_row h.rk hk) (by decide), ?_, row_keep h.ra fun k hk => nq k _ (tag_row h.ra hk) (by decide), h.lk, h.lc, h.la, fun i' z c h1 h2 => ?_, fun k hf => ⟨(h.fF k hf).1, (h.fF k hf).2.at (nF k hf)⟩, fun i' k hk => ?_, h.gg, h.fg⟩, T2⟩
 · rw [List.length_set]; exact h.tr.keep fun k _ hf => nF k hf
 · have rc := h.rc
   rw [hP] at rc
   have := (rc.stored (i * 8 + j) v).1
   rw [flat_set cE 8 cE_len v y C i x hx j hj he] at this
   rw [List.length_set, hP]; exact this
 · obtain ⟨z', e1, e2, e3⟩ := hat i' z h1
   rw [e3]
   exact (h.ch i' z' c e1 (e2.symm.trans h2)).keep fun k hk => nG i' k hk
 · obtain ⟨h1, z, c, h2, h3⟩ := h.fG i' k hk
   obtain ⟨z', e1, e2⟩ := hta i' z h2
   exact ⟨h1, z', c, e1, e2.trans h3⟩
theorem CY.chan {c : Nat} (h : CY W t p T K C A F G o w) (hx : C[i]? = some x) (hc : x.ch = some c) (he : cE y = cE x) (hy : y.ch = x.ch) (g : Ch.Go (G i) c (chS y) w w') :
  ∃ G', CY W t p T K (C.set i y) A F G' o w' ∧ (∀ i k, G' i k → G i k ∨ w.heap.size ≤ k) ∧ Tn (ow F G o) w w' := by
 have hl := (List.getElem?_eq_some_iff.1 hx).1
 obtain ⟨F', hch, hsub, tn⟩ := g
 have T2 : Tn (ow F G o) w w' := (tn_ch tn).mono fun b hb => .inl (.g hb)
 have nG : ∀ k, k < w.heap.size → ¬ G i k → w'.heap[k]? = w.heap[k]? := fun k hk hn => tn.block k hk hn
 have nq : ∀ k ty, Tg (· = ty) w k → ty ≠ 185 ∧ ty ≠ 237 ∧ ty ≠ 3 ∧ ty ≠ 221 → w'.heap[k]? = w.heap[k]? := fun k ty hk n => nG k hk.lt fun hg => hk.two (h.tagG hg) fun a b c => by
  subst b; rcases c with c | c | c | c
  · exact n.1 c
  · exact n.2.1 c
  · exact n.2.2.1 c
  · exact n.2.2.2 c
 have hW := h.bel.size
 refine ⟨fun j => if j = i then F' else G j, ⟨h.tnb T2, ?_, row_keep h.rk fun k hk => nq k _ (tag_row h.rk hk) (by decide), ?_, row_keep h.ra fun k hk => nq k _ (tag_row h.ra hk) (by decide), h.lk, h.lc, h.la, fun i' z c' h1 h2 => ?_, fun k hf => ⟨(h.fF k hf).1, (h.fF k hf).2.at (nG k (h.fF k hf).2.lt (h.fg i k hf))⟩, fun i' k hk => ?_, fun a b k ha hb => ?_, fun i' k hf hk => ?_⟩, fun i' k hk => ?_, T2⟩
 · rw [List.length_set]; exact h.tr.keep fun k hk hf => nG k hk (h.fg i k hf)
 · rw [List.length_set, flat_same cE y C i x hx he]
   exact row_keep h.rc fun k hk => nq k _ (tag_row h.rc hk) (by decide)
 · rcases set_at h1 with ⟨rfl, rfl⟩ | ⟨hn, h1⟩
   · simp only [if_true]
     rw [hy, hc] at h2; cases h2
     exact hch
   · simp only [if_neg hn]
     exact (h.ch i' z c' h1 h2).keep fun k hk => nG k (h.lt (.g (o := o) (F := F) hk)) fun hg => hn (h.gg _ _ _ hk hg)
 · by_cases e : i' = i
   · subst e
     simp only [if_true] at hk
     refine ⟨?_, y, c, by rw [List.getElem?_set_self hl], hy.trans hc⟩
     rcases hsub k hk with h1 | h1
     · exact (h.fG _ k h1).1
     · omega
   · simp only [if_neg e] at hk
     obtain ⟨h1, z, c', h2, h3⟩ := h.fG i' k hk
     exact ⟨h1, z, c', by rw [List.getElem?_set_ne (fun e9 => e e9.symm)]; exact h2, h3⟩
 · have key : ∀ a, a ≠ i → G a k → F' k → False := fun a e h1 h2 => by
    rcases hsub k h2 with h3 | h3
    · exact e (h.gg _ _ _ h1 h3)
    · have := h.lt (.g (o := o) (F := F) h1); omega
   by_cases e : a = i
   · by_cases e2 : b = i
     · rw [e, e2]
     · simp only [if_pos e] at ha; simp only [if_neg e2] at hb
       exact (key b e2 hb ha).elim
   · by_cases e2 : b = i
     · simp only [if_neg e] at ha; simp only [if_pos e2] at hb
       exact (key a e ha hb).elim
     · simp only [if_neg e] at ha; simp only [if_neg e2] at hb
       exact h.gg _ _ _ ha hb
 · by_cases e : i' = i
   · simp only [if_pos e] at hk
     rcases hsub k hk with h1 | h1
     · exact h.fg _ k hf h1
     · have := (h.fF k hf).2.lt; omega
   · simp only [if_neg e] at hk; exact h.fg _ k hf hk
 · by_cases e : i' = i
   · subst e; simp only [if_true] at hk; exact hsub k hk
   · simp only [if_neg e] at hk; exact .inl hk
end
def IsTm (w : World) (j : Nat) : Prop := Tg (fun ty => ¬ OthZ ty) w j ∨ ∃ es cl, w.heap[j]? = some (.map es cl)
theorem SS.tm {W w w' : World} {t m n : Nat} {E : List On} {S : List It} {g : Int → Int} (h : SS W t E m n S g [] w) (hb : Below W.heap.size W w') (k : ∀ j, j < w.heap.size → IsTm w j → w'.heap[j]? = w.heap[j]?) : SS W t E m n S g [] w' := by
 obtain ⟨h0, P, c, h1, h2⟩ := h
 refine ⟨⟨hb, fun _ _ => False, fun i c s h => by simp at h, fun _ _ h => h.elim, fun _ _ _ h => h.elim⟩, P, c, h1.keep fun j hj hi => k j hj ?_, row_keep h2 fun j hj => k j (row_lt h2 hj).2 ?_⟩
 · rcases hi with ⟨cs, ty, fr, e, e2⟩ | ⟨es, cl, e⟩
   · exact .inl ⟨cs, ty, fr, e, by rcases e2 with rfl | rfl | rfl <;> decide⟩
   · exact .inr ⟨es, cl, e⟩
 · exact .inl ((tag_row h2 hj).imp fun ty e => by subst e; decide)
def z0 : Int → Int := fun _ => 0
def TMs (W : World) (p : Option Nat) (E : List On) (n : Nat) (S : List It) (w : World) : Prop := match p with
 | none => E = [] ∧ S = [] ∧ n = 0
 | some ts => SS W ts E 0 n S z0 [] w ∧ (∀ x ∈ S, 0 ≤ x.id ∧ x.id < (E.length : Int)) ∧ ∀ x ∈ E, x.ch = none ∧ x.kd = 4
structure St where
 T : TS
 K : List Kd
 C : List Cx
 A : List Af
 E : List On
 n : Nat
 S : List It
def FS (W : World) (t : Nat) (p : Option Nat) (s : St) (O : Nat → Prop) (w : World) : Prop := (∃ F G o, CY W t p s.T s.K s.C s.A F G o w ∧ ∀ k, O k ↔ ow F G o k) ∧ TMs W p s.E s.n s.S w
def Fm (O : Nat → Prop) (w w' : World) : Prop := w.heap.size ≤ w'.heap.size ∧ ∀ (k : Nat) (cs : Array Value) (ty : TypeId) (fr : Nat × Nat), w.heap[k]? = some (.cells cs ty fr) → OthZ ty → ¬ O k → w'.heap[k]? = some (.cells cs ty fr)
def GS (W : World) (t : Nat) (p : Option Nat) (s : St) (O : Nat → Prop) (w w' : World) : Prop := ∃ O', FS W t p s O' w' ∧ (∀ k, O' k → O k ∨ w.heap.size ≤ k) ∧ Fm O w w'
theorem tgo_oth {ty : TypeId} (h : TgO ty) : OthZ ty := by rcases h with h | h | h | h | h | h | h | h | h <;> subst h <;> decide
section
variable {W w w' w'' : World} {t : Nat} {p : Option Nat} {s s' s'' : St} {O O' : Nat → Prop} {k : Nat}
theorem Fm.refl (O : Nat → Prop) (w : World) : Fm O w w := ⟨Nat.le_refl _, fun _ _ _ _ h _ _ => h⟩
theorem Fm.of_below (h : Below w.heap.size w w') : Fm O w w' := ⟨h.size, fun k cs ty fr e _ _ => (h.block k (lt_of_blk e)).trans e⟩
theorem Fm.of_tn (h : Tn O w w') : Fm O w w' := ⟨h.size, fun k cs ty fr e _ hn => (h.block k (lt_of_blk e) hn).trans e⟩
theorem Fm.comp (h : Fm O w w') (g : Fm O' w' w'') (hs : ∀ k, O' k → O k ∨ w.heap.size ≤ k) : Fm O w w'' :=
 ⟨Nat.le_trans h.1 g.1, fun k cs ty fr e ho hn => g.2 k cs ty fr (h.2 k cs ty fr e ho hn) ho fun h1 => by
  rcases hs k h1 with h2 | h2
  · exact hn h2
  · have := lt_of_blk e; omega⟩
theorem FS.bel (h : FS W t p s O w) : Below W.heap.size W w := by obtain ⟨⟨F, G, o, y, _⟩, _⟩ := h; exact y.bel
theorem FS.tag (h : FS W t p s O w) (hk : O k) : Tg TgO w k := by obtain ⟨⟨F, G, o, y, e⟩, _⟩ := h; exact y.tag ((e k).1 hk)
theorem FS.lt (h : FS W t p s O w) (hk : O k) : k < w.heap.size := (h.tag hk).lt
theorem FS.ht (h : FS W t p s O w) : O t := by obtain ⟨⟨F, G, o, y, e⟩, _⟩ := h; exact (e t).2 (.f y.ft)
theorem TMs.tm {E : List On} {n : Nat} {S : List It} (h : TMs W p E n S w) (hb : Below W.heap.size W w') (k : ∀ j, j < w.heap.size → IsTm w j → w'.heap[j]? = w.heap[j]?) : TMs W p E n S w' := by
 cases p with
 | none => exact h
 | some ts => exact ⟨SS.tm h.1 hb k, h.2⟩
theorem FS.later (h : FS W t p s O w) (b : Below w.heap.size w w') : FS W t p s O w' := by
 obtain ⟨⟨F, G, o, y, e⟩, m⟩ := h
 exact ⟨⟨F, G, o, y.later b, e⟩, m.tm (y.bel.trans (b.mono y.bel.size)) fun j hj _ => b.block j hj⟩
theorem FS.gs (h : FS W t p s O w) (b : Below w.heap.size w w') : GS W t p s O w w' := ⟨O, h.later b, fun k hk => .inl hk, Fm.of_below b⟩
theorem GS.comp (hs : ∀ k, O' k → O k ∨ w.heap.size ≤ k) (f : Fm O w w') (g : GS W t p s O' w' w'') : GS W t p s O w w'' := by
 obtain ⟨O2, h, h2, f2⟩ := g
 refine ⟨O2, h, fun k hk => ?_, f.comp f2 hs⟩
 rcases h2 k hk with h3 | h3
 · exact hs k h3
 · exact .inr (Nat.le_trans f.1 h3)
theorem GS.from (b : Below w.heap.size w w') (g : GS W t p s O w' w'') : GS W t p s O w w'' := GS.comp (fun k hk => .inl hk) (Fm.of_below b) g
theorem GS.then (g : GS W t p s O w w') (b : Below w'.heap.size w' w'') : GS W t p s O w w'' := by
 obtain ⟨O', h, hs, f⟩ := g
 exact ⟨O', h.later b, hs, f.comp (Fm.of_below (O := O) b) fun k hk => .inl hk⟩
theorem FS.ctx {T : TS} {K : List Kd} {C : List Cx} {A : List Af} {F F' : Nat → Prop} {G G' : Nat → Nat → Prop} {o o' : Lo} (hy : CY W t p s.T s.K s.C s.A F G o w) (hO : ∀ k, O k ↔ ow F G o k) (m : TMs W p s.E s.n s.S w)
  (h : CY W t p T K C A F' G' o' w') (hs : ∀ k, ow F' G' o' k → O k ∨ w.heap.size ≤ k) (tn : Tn O w w') : GS W t p { s with T := T, K := K, C := C, A := A } O w w' := by
 refine ⟨ow F' G' o', ⟨⟨F', G', o', h, fun k => Iff.rfl⟩, m.tm h.bel fun j hj hi => tn.block j hj fun hk => ?_⟩, hs, Fm.of_tn tn⟩
 have := hy.tag ((hO j).1 hk)
 rcases hi with hi | ⟨es, cl, e⟩
 · exact this.two hi fun ty a b => b (tgo_oth a)
 · obtain ⟨cs, ty, fr, e2, _⟩ := this
   rw [e] at e2; cases e2
theorem FS.tms {E : List On} {n : Nat} {S : List It} (h : FS W t p s O w) (m : TMs W p E n S w') (hb : Below W.heap.size W w') (oz : OZ w w') : GS W t p { s with E := E, n := n, S := S } O w w' := by
 obtain ⟨⟨F, G, o, y, e⟩, _⟩ := h
 refine ⟨O, ⟨⟨F, G, o, y.keep (fun k hk => ?_) hb, e⟩, m⟩, fun k hk => .inl hk, oz.1, fun k cs ty fr e ho _ => oz.2 k cs ty fr e ho⟩
 obtain ⟨cs, ty, fr, e1, e2⟩ := y.tag hk
 rw [e1]; exact oz.2 k cs ty fr e1 (tgo_oth e2)
end
end Go.Proofs.YtdpapnfjpefhkaaGreat
namespace Go.Proofs.YtdpapnfjpefhkaaGreat
open Go.RowKit Tr
set_option linter.unusedVariables false
set_option maxRecDepth 100000
section
variable {W w w' : World} {t i : Nat} {p : Option Nat} {s : St} {O : Nat → Prop} {x : Cx}
theorem FS.c3 (h : FS W t p s O w) : ∃ PC cC, w.cell? ⟨t, 3, none⟩ = some (.slice PC s.C.length cC) ∧ ∀ (i : Nat) (x : Cx), s.C[i]? = some x → ∃ q, PC = some ⟨q, 0, none⟩ ∧ q < w.heap.size ∧
  (w.cell? ⟨q, i * 8, none⟩ = some (.int .i64 x.nd) ∧ w.cell? ⟨q, i * 8 + 1, none⟩ = some (.pointer (cp x.ch)) ∧ w.cell? ⟨q, i * 8 + 2, none⟩ = some (.int .i64 x.er) ∧ w.cell? ⟨q, i * 8 + 3, none⟩ = some (.int .i64 x.cs) ∧ w.cell? ⟨q, i * 8 + 4, none⟩ = some (.int .i64 x.wh) ∧ w.cell? ⟨q, i * 8 + 5, none⟩ = some (.bool x.has) ∧ w.cell? ⟨q, i * 8 + 6, none⟩ = some (.bool x.own) ∧ w.cell? ⟨q, i * 8 + 7, none⟩ = some (.int .i64 x.lp)) := by
 obtain ⟨⟨F, G, o, y, _⟩, _⟩ := h
 refine ⟨_, _, y.cells.2.2.1, fun i x hx => ?_⟩
 obtain ⟨q, h1, h2, h3, _⟩ := y.cx hx
 exact ⟨q, h1, h2, h3⟩
theorem FS.tlt (h : FS W t p s O w) : t < w.heap.size := h.lt h.ht
theorem clen_nil (w : World) : Calls Tryz.prog 42 #[.pointer none] w fun e w' => e = .returned (.int .i64 0) ∧ w = w' := by
 go_enter Tryz.func42, Tryz.ntmps42
 go_wp2
 go_ret
 exact ⟨rfl, rfl⟩
theorem clen_any (h : FS W t p s O w) : Calls Tryz.prog 42 #[pS t] w fun e w' => e = .returned (.int .i64 (s.C.length : Int)) ∧ w = w' := by
 obtain ⟨PC, cC, h3, _⟩ := h.c3
 clear h
 go_enter Tryz.func42, Tryz.ntmps42
 go_wp2_with fail
 go_ret
 exact ⟨rfl, rfl⟩
theorem chas_yes (h : FS W t p s O w) (hi : i < s.C.length) : Calls Tryz.prog 50 #[pS t, .int .i64 (i : Int)] w fun e w' => e = .returned (.bool true) ∧ w = w' := by
 have b1 : (i : Int) < (s.C.length : Int) := by omega
 have b2 : (0 : Int) ≤ (i : Int) := by omega
 have HA := Lib.hid h
 clear h
 go_enter Tryz.func50, Tryz.ntmps50
 go_wp2_with fail
 refine (clen_any HA.out).mono ?_
 rintro e w' ⟨rfl, rfl⟩
 go_wp2_with fail
 go_ret
 exact ⟨rfl, rfl⟩
theorem chas_no {k : Int} (h : FS W t p s O w) (hk : k < 0 ∨ (s.C.length : Int) ≤ k) : Calls Tryz.prog 50 #[pS t, .int .i64 k] w fun e w' => e = .returned (.bool false) ∧ w = w' := by
 have HA := Lib.hid h
 clear h
 by_cases c1 : k < 0
 · have c2 : ¬ 0 ≤ k := by omega
   clear hk
   go_enter Tryz.func50, Tryz.ntmps50
   go_wp2_with fail
   go_ret
   exact ⟨rfl, rfl⟩
 · have c2 : 0 ≤ k := by omega
   have c3 : ¬ k < (s.C.length : Int) := by omega
   clear hk c1
   go_enter Tryz.func50, Tryz.ntmps50
   go_wp2_with fail
   refine (clen_any HA.out).mono ?_
   rintro e w' ⟨rfl, rfl⟩
   go_wp2_with fail
   go_ret
   exact ⟨ret_bool (decide_eq_false (by omega)), rfl⟩
theorem chas_nil (k : Int) (w : World) : Calls Tryz.prog 50 #[.pointer none, .int .i64 k] w fun e w' => e = .returned (.bool false) ∧ w = w' := by
 by_cases c1 : 0 ≤ k
 · have c3 : ¬ k < 0 := by omega
   go_enter Tryz.func50, Tryz.ntmps50
   go_wp2_with fail
   refine (clen_nil w).mono ?_
   rintro e w' ⟨rfl, rfl⟩
   go_wp2_with fail
   go_ret
   exact ⟨ret_bool (decide_eq_false (by omega)), rfl⟩
 · go_enter Tryz.func50, Tryz.ntmps50
   go_wp2_with fail
   go_ret
   exact ⟨rfl, rfl⟩
theorem over_any (h : FS W t p s O w) (hx : s.C[i]? = some x) : Calls Tryz.prog 47 #[pS t, .int .i64 (i : Int)] w fun e w' => e = .returned (.bool (x.er != 0)) ∧ w = w' := by
 have hi := (List.getElem?_eq_some_iff.1 hx).1
 have b1 : (i : Int) < (s.C.length : Int) := by omega
 have b2 : (0 : Int) ≤ (i : Int) := by omega
 obtain ⟨PC, cC, h3, hr⟩ := h.c3
 obtain ⟨q, rfl, hq, x0, x1, x2, x3, x4, x5, x6, x7⟩ := hr i x hx
 have ht := h.tlt
 clear h hr x0 x1 x3 x4 x5 x6 x7 hx
 go_enter Tryz.func47, Tryz.ntmps47
 go_wp2_with fail
 go_ret
 exact ⟨rfl, rfl⟩
abbrev cG (x : Cx) : Value := .agg #[.int .i64 x.nd, .pointer (cp x.ch), .int .i64 x.er, .int .i64 x.cs, .int .i64 x.wh, .bool x.has, .bool x.own, .int .i64 x.lp]
def zC : Cx := ⟨0, none, false, [], 0, 0, 0, false, false, 0⟩
def GtC (x : Cx) (r : Int) (w : World) (e : Ending) (w' : World) : Prop := e = .returned (.tuple #[cG x, .int .i64 r]) ∧ Below w.heap.size w w'
set_option maxHeartbeats 4000000 in
theorem cget_yes (h : FS W t p s O w) (hx : s.C[i]? = some x) : Calls Tryz.prog 52 #[pS t, .int .i64 (i : Int)] w (GtC x 0 w) := by
 have hi := (List.getElem?_eq_some_iff.1 hx).1
 have b1 : (i : Int) < (s.C.length : Int) := by omega
 have b2 : (0 : Int) ≤ (i : Int) := by omega
 obtain ⟨PC, cC, h3, hr⟩ := h.c3
 obtain ⟨q, rfl, hq, x0, x1, x2, x3, x4, x5, x6, x7⟩ := hr i x hx
 have ht := h.tlt
 have HA := Lib.hid h
 clear h hr hx
 go_enter Tryz.func52, Tryz.ntmps52
 go_wp2_with fail
 refine (chas_yes (HA.out.later (below_al _ _)) hi).mono ?_
 rintro e w' ⟨rfl, rfl⟩
 go_wp2_with fail
 refine bodyPost_ret (v := .tuple #[cG x, .int .i64 0]) ?_ rfl ⟨rfl, ?_⟩
 · rw [results_cell_tmp rfl]; go_simp; try rfl
 · first | exact below_al _ _ | (repeat' (first | exact below_al _ _ | refine Below.alloc ?_ (by omega) _))
set_option maxHeartbeats 4000000 in
theorem cget_no {k : Int} (h : FS W t p s O w) (hk : k < 0 ∨ (s.C.length : Int) ≤ k) : Calls Tryz.prog 52 #[pS t, .int .i64 k] w (GtC zC 4 w) := by
 have HA := Lib.hid h
 clear h
 go_enter Tryz.func52, Tryz.ntmps52
 go_wp2_with fail
 refine (chas_no (HA.out.later (below_al _ _)) hk).mono ?_
 rintro e w' ⟨rfl, rfl⟩
 go_wp2_with fail
 refine bodyPost_ret (v := .tuple #[cG zC, .int .i64 4]) ?_ rfl ⟨rfl, ?_⟩
 · rw [results_cell_tmp rfl]; go_simp; simp [zC]
 · first | exact below_al _ _ | (repeat' (first | exact below_al _ _ | refine Below.alloc ?_ (by omega) _))
def cA (s : St) (k : Int) : Cx × Int := if k < 0 then (zC, 4) else match s.C[k.toNat]? with
 | some x => (x, 0)
 | none => (zC, 4)
theorem cA_at (hx : s.C[i]? = some x) : cA s i = (x, 0) := by
 unfold cA
 rw [if_neg (by omega), Int.toNat_natCast, hx]
theorem cA_no {k : Int} (hk : k < 0 ∨ (s.C.length : Int) ≤ k) : cA s k = (zC, 4) := by
 unfold cA
 split
 · rfl
 · rw [List.getElem?_eq_none (by omega)]
theorem cget_any (k : Int) (h : FS W t p s O w) : Calls Tryz.prog 52 #[pS t, .int .i64 k] w (GtC (cA s k).1 (cA s k).2 w) := by
 by_cases hk : k < 0 ∨ (s.C.length : Int) ≤ k
 · rw [cA_no hk]; exact cget_no h hk
 · have hi : k.toNat < s.C.length := by omega
   have hx : s.C[k.toNat]? = some s.C[k.toNat] := List.getElem?_eq_getElem hi
   have ek : k = (k.toNat : Int) := by omega
   rw [ek, cA_at hx]
   exact cget_yes h hx
def RdC (v : Value) (w : World) (e : Ending) (w' : World) : Prop := e = .returned v ∧ Below w.heap.size w w'
theorem cerr_any (k : Int) (h : FS W t p s O w) : Calls Tryz.prog 14 #[pS t, .int .i64 k] w (RdC (.tuple #[.int .i64 (cA s k).1.er, .int .i64 (cA s k).2]) w) := by
 have H := Lib.hid (cget_any k h)
 clear h
 generalize (cA s k).1 = x at *
 generalize (cA s k).2 = r at *
 go_enter Tryz.func14, Tryz.ntmps14
 go_wp2_with fail
 refine H.out.mono ?_
 rintro e w1 ⟨rfl, hb⟩
 have HB := Lib.hid hb
 clear hb H
 go_wp2_with fail
 go_ret2
 exact ⟨rfl, HB.out.alloc HB.out.size _⟩
theorem ccause_any (k : Int) (h : FS W t p s O w) : Calls Tryz.prog 15 #[pS t, .int .i64 k] w (RdC (.tuple #[.int .i64 (cA s k).1.cs, .int .i64 (cA s k).2]) w) := by
 have H := Lib.hid (cget_any k h)
 clear h
 generalize (cA s k).1 = x at *
 generalize (cA s k).2 = r at *
 go_enter Tryz.func15, Tryz.ntmps15
 go_wp2_with fail
 refine H.out.mono ?_
 rintro e w1 ⟨rfl, hb⟩
 have HB := Lib.hid hb
 clear hb H
 go_wp2_with fail
 go_ret2
 exact ⟨rfl, HB.out.alloc HB.out.size _⟩
theorem cdone_any (k : Int) (h : FS W t p s O w) : Calls Tryz.prog 34 #[pS t, .int .i64 k] w (RdC (.tuple #[.pointer (cp (cA s k).1.ch), .int .i64 (cA s k).2]) w) := by
 have H := Lib.hid (cget_any k h)
 clear h
 generalize (cA s k).1 = x at *
 generalize (cA s k).2 = r at *
 go_enter Tryz.func34, Tryz.ntmps34
 go_wp2_with fail
 refine H.out.mono ?_
 rintro e w1 ⟨rfl, hb⟩
 have HB := Lib.hid hb
 clear hb H
 go_wp2_with fail
 go_ret2
 exact ⟨rfl, HB.out.alloc HB.out.size _⟩
theorem cuntil_any (k : Int) (h : FS W t p s O w) : Calls Tryz.prog 12 #[pS t, .int .i64 k] w (RdC (.tuple #[.int .i64 (cA s k).1.wh, .bool (cA s k).1.has, .int .i64 (cA s k).2]) w) := by
 have H := Lib.hid (cget_any k h)
 clear h
 generalize (cA s k).1 = x at *
 generalize (cA s k).2 = r at *
 go_enter Tryz.func12, Tryz.ntmps12
 go_wp2_with fail
 refine H.out.mono ?_
 rintro e w1 ⟨rfl, hb⟩
 have HB := Lib.hid hb
 clear hb H
 go_wp2_with fail
 go_quiet (fail)
 go_wp2_with fail
 go_ret3
 exact ⟨rfl, (HB.out.alloc HB.out.size _).trans ((below_drewN _ _).mono (by have := HB.out.size; simp; omega))⟩
def rfs (s : St) (k : Int) : Int := if k < 0 ∨ (s.C.length : Int) ≤ k then 4 else if s.C.length = 64 then 3 else 0
theorem refusal_any (k : Int) (h : FS W t p s O w) : Calls Tryz.prog 43 #[pS t, .int .i64 k] w fun e w' => e = .returned (.int .i64 (rfs s k)) ∧ w = w' := by
 have HA := Lib.hid h
 unfold rfs
 by_cases hk : k < 0 ∨ (s.C.length : Int) ≤ k
 · rw [if_pos hk]
   have H := Lib.hid (chas_no h hk)
   clear h hk
   go_enter Tryz.func43, Tryz.ntmps43
   go_wp2_with fail
   refine H.out.mono ?_
   rintro e w' ⟨rfl, rfl⟩
   go_wp2_with fail
   go_ret
   exact ⟨rfl, rfl⟩
 · rw [if_neg hk]
   have hi : k.toNat < s.C.length := by omega
   have ek : k = (k.toNat : Int) := by omega
   generalize k.toNat = i at *
   subst ek
   have H := Lib.hid (chas_yes h hi)
   have H2 := Lib.hid (clen_any h)
   clear h hk
   by_cases c : s.C.length = 64
   · rw [if_pos c]
     rw [c] at H2
     clear hi
     go_enter Tryz.func43, Tryz.ntmps43
     go_wp2_with fail
     refine H.out.mono ?_
     rintro e w' ⟨rfl, rfl⟩
     go_wp2_with fail
     refine H2.out.mono ?_
     rintro e w' ⟨rfl, rfl⟩
     go_wp2_with fail
     go_ret
     exact ⟨rfl, rfl⟩
   · rw [if_neg c]
     have c2 : ((s.C.length : Int) == 64) = false := beq_eq_false_iff_ne.2 (by omega)
     clear hi
     go_enter Tryz.func43, Tryz.ntmps43
     go_wp2_with fail
     refine H.out.mono ?_
     rintro e w' ⟨rfl, rfl⟩
     go_wp2_with fail
     refine H2.out.mono ?_
     rintro e w' ⟨rfl, rfl⟩
     go_wp2_with fail
     go_ret
     exact ⟨rfl, rfl⟩
theorem refusal_nil (k : Int) (w : World) : Calls Tryz.prog 43 #[.pointer none, .int .i64 k] w fun e w' => e = .returned (.int .i64 4) ∧ w = w' := by
 go_enter Tryz.func43, Tryz.ntmps43
 go_wp2_with fail
 refine (chas_nil k w).mono ?_
 rintro e w' ⟨rfl, rfl⟩
 go_wp2_with fail
 go_ret
 exact ⟨rfl, rfl⟩
end
end Go.Proofs.YtdpapnfjpefhkaaGreat
namespace Go.Proofs.YtdpapnfjpefhkaaGreat
open Go.RowKit Tr
set_option linter.unusedVariables false
set_option maxRecDepth 100000
def CZ (W : World) (t : Nat) (p : Option Nat) (T : TS) (K : List Kd) (C : List Cx) (A : List Af) (O X : Nat → Prop) (w w' : World) : Prop :=
 ∃ F G o, CY W t p T K C A F G o w' ∧ (∀ k, ow F G o k → O k ∨ X k) ∧ Tn O w w'
theorem kE_one (x : Kd) : ∀ u ∈ kE x, u.oneCell' = true := by intro u hu; simp [kE] at hu; rcases hu with rfl | rfl <;> rfl
theorem cE_one (x : Cx) : ∀ u ∈ cE x, u.oneCell' = true := by intro u hu; simp [cE] at hu; rcases hu with rfl | rfl | rfl | rfl | rfl | rfl | rfl | rfl <;> rfl
theorem aE_one (x : Af) : ∀ u ∈ aE x, u.oneCell' = true := by intro u hu; simp [aE] at hu; rcases hu with rfl | rfl <;> rfl
theorem infK : (Tryz.prog.info? 135).map (fun i => (i.zero, i.size, i.bytes)) = some (some (.agg #[.bool false, .int .i64 0]), 2, 16) := by kernel_rfl
theorem infC : (Tryz.prog.info? 117).map (fun i => (i.zero, i.size, i.bytes)) = some (some (.agg #[.int .i64 0, .pointer none, .int .i64 0, .int .i64 0, .int .i64 0, .bool false, .bool false, .int .i64 0]), 8, 56) := by kernel_rfl
theorem infA : (Tryz.prog.info? 137).map (fun i => (i.zero, i.size, i.bytes)) = some (some (.agg #[.int .i64 0, .int .i64 0]), 2, 16) := by kernel_rfl
section
variable {W w w' w'' wx w1 w2 : World} {t g cap i n : Nat} {p : Option Nat} {T T' : TS} {K : List Kd} {C : List Cx} {A : List Af} {F : Nat → Prop} {G : Nat → Nat → Prop} {o : Lo} {k : Nat} {x y : Cx} {O X X' : Nat → Prop} {s : St}
theorem CZ.later (h : CZ W t p T K C A O X w w') (b : Below w'.heap.size w' w'') : CZ W t p T K C A O X w w'' := by
 obtain ⟨F, G, o, y, hs, tn⟩ := h
 exact ⟨F, G, o, y.later b, hs, tn.later b⟩
theorem CZ.bel (h : CZ W t p T K C A O X w w') : Below W.heap.size W w' := by obtain ⟨F, G, o, y, _⟩ := h; exact y.bel
theorem CZ.tn (h : CZ W t p T K C A O X w w') : Tn O w w' := by obtain ⟨F, G, o, y, _, tn⟩ := h; exact tn
theorem CZ.mono (h : CZ W t p T K C A O X w w') (i : ∀ k, X k → X' k) : CZ W t p T K C A O X' w w' := by
 obtain ⟨F, G, o, y, hs, tn⟩ := h
 exact ⟨F, G, o, y, fun k hk => (hs k hk).imp id (i k), tn⟩
theorem CZ.from (h : CZ W t p T K C A O X w w') (b : Below w''.heap.size w'' w) : CZ W t p T K C A O X w'' w' := by
 obtain ⟨F, G, o, y, hs, tn⟩ := h
 exact ⟨F, G, o, y, hs, (Tn.of_below b).trans tn⟩
theorem CZ.tree (y : CY W t p T K C A F G o w') (hs : ∀ k, ow F G o k → O k ∨ X k) (tn : Tn O w w') (hX : ∀ k, w'.heap.size ≤ k → X k) (hn : ∀ k, X k → w.heap.size ≤ k)
  (g : Tr.Go F 0 (vS p (.slice o.PK K.length o.cK) (.slice o.PC C.length o.cC) (.slice o.PA A.length o.cA)) t T' w' w'') : CZ W t p T' K C A O X w w'' := by
 obtain ⟨F', h1, h2, h3⟩ := y.tree g
 refine ⟨F', G, o, h1, fun k hk => ?_, tn.comp h3 fun b hb => ?_⟩
 · rcases hk with hk | hk | hk | hk | ⟨i, hk⟩
   · rcases h2 k hk with h4 | h4
     · exact hs k (.f h4)
     · exact .inr (hX k h4)
   · exact hs k (.k hk)
   · exact hs k (.c hk)
   · exact hs k (.a hk)
   · exact hs k (.g hk)
 · exact (hs b (.f hb)).imp id (hn b)
theorem FS.ctx' {T : TS} {K : List Kd} {C : List Cx} {A : List Af} (h : FS W t p s O w) (z : CZ W t p T K C A O X w w') (hX : ∀ k, X k → w.heap.size ≤ k) : GS W t p { s with T := T, K := K, C := C, A := A } O w w' := by
 obtain ⟨⟨F, G, o, y, e⟩, m⟩ := h
 obtain ⟨F', G', o', y', hs, tn⟩ := z
 exact FS.ctx y e m y' (fun k hk => (hs k hk).imp id (hX k)) tn
theorem CY.stepK (y : CY W t p T K C A F G o w) (hO : ∀ k, O k ↔ ow F G o k) (z : Kd) (hx : Below w.heap.size w wx) (hg : wx.grownBy w1 (Value.slice o.PK K.length o.cK).ownBlock)
  (ho : w1.ownsRow 0 135 2 (.slice (some ⟨g, 0, none⟩) (K.length + 1) cap) (K.length + 1) (K.flatMap kE ++ kE z)) (hat : (Value.slice o.PK K.length o.cK).ownBlock = some g ∨ w.heap.size ≤ g) :
  CZ W t p T (K ++ [z]) C A O (fun k => w.heap.size ≤ k) w (w1.setCell ⟨t, 2, none⟩ (.slice (some ⟨g, 0, none⟩) (K.length + 1) cap)) := by
 obtain ⟨h1, h2⟩ := y.addK z hx hg ho hat
 rw [own_blk] at hat
 refine ⟨_, _, _, h1, fun k hk => ?_, h2.mono fun b hb => .inl ((hO b).2 hb)⟩
 rcases hk with hk | hk | hk | hk | ⟨i, hk⟩
 · exact .inl ((hO k).2 (.f hk))
 · have := blk_some hk
   subst this
   exact hat.imp (fun e => (hO g).2 (.k e)) id
 · exact .inl ((hO k).2 (.c hk))
 · exact .inl ((hO k).2 (.a hk))
 · exact .inl ((hO k).2 (.g hk))
theorem CY.stepA (y : CY W t p T K C A F G o w) (hO : ∀ k, ow F G o k → O k ∨ X k) (tn : Tn O w' w) (hX : ∀ k, w.heap.size ≤ k → X k) (hn : ∀ k, X k → w'.heap.size ≤ k) (z : Af) (hx : Below w.heap.size w wx) (hg : wx.grownBy w1 (Value.slice o.PA A.length o.cA).ownBlock)
  (ho : w1.ownsRow 0 137 2 (.slice (some ⟨g, 0, none⟩) (A.length + 1) cap) (A.length + 1) (A.flatMap aE ++ aE z)) (hat : (Value.slice o.PA A.length o.cA).ownBlock = some g ∨ w.heap.size ≤ g) :
  CZ W t p T K C (A ++ [z]) O X w' (w1.setCell ⟨t, 4, none⟩ (.slice (some ⟨g, 0, none⟩) (A.length + 1) cap)) := by
 obtain ⟨h1, h2⟩ := y.addA z hx hg ho hat
 rw [own_blk] at hat
 refine ⟨_, _, _, h1, fun k hk => ?_, tn.comp h2 fun b hb => (hO b hb).imp id (hn b)⟩
 rcases hk with hk | hk | hk | hk | ⟨i, hk⟩
 · exact hO k (.f hk)
 · exact hO k (.k hk)
 · exact hO k (.c hk)
 · have := blk_some hk
   subst this
   rcases hat with e | e
   · exact hO g (.a e)
   · exact .inr (hX g e)
 · exact hO k (.g hk)
theorem CY.stepC {Gc : Nat → Prop} (y : CY W t p T K C A F G o w) (hO : ∀ k, ow F G o k → O k ∨ X k) (tn : Tn O w' w) (hX : ∀ k, w.heap.size ≤ k → X k) (hG : ∀ k, Gc k → X k) (hn : ∀ k, X k → w'.heap.size ≤ k ∨ Gc k) (hc : NC W (ow F G o) Gc w x) (hx : Below w.heap.size w wx) (hg : wx.grownBy w1 (Value.slice o.PC C.length o.cC).ownBlock)
  (ho : w1.ownsRow 0 117 8 (.slice (some ⟨g, 0, none⟩) (C.length + 1) cap) (C.length + 1) (C.flatMap cE ++ cE x)) (hat : (Value.slice o.PC C.length o.cC).ownBlock = some g ∨ w.heap.size ≤ g) :
  CZ W t p T K (C ++ [x]) A O X w' (w1.setCell ⟨t, 3, none⟩ (.slice (some ⟨g, 0, none⟩) (C.length + 1) cap)) := by
 obtain ⟨h1, h2⟩ := y.addC x hx hg ho hat hc
 rw [own_blk] at hat
 refine ⟨_, _, _, h1, fun k hk => ?_, tn.comp h2 fun b hb => ?_⟩
 · rcases hk with hk | hk | hk | hk | ⟨i, hk⟩
   · exact hO k (.f hk)
   · exact hO k (.k hk)
   · have := blk_some hk
     subst this
     rcases hat with e | e
     · exact hO g (.c e)
     · exact .inr (hX g e)
   · exact hO k (.a hk)
   · unfold gN at hk
     by_cases e : i = C.length
     · simp only [if_pos e] at hk; exact .inr (hG k hk)
     · simp only [if_neg e] at hk; exact hO k (.g hk)
 · rcases hO b hb with h3 | h3
   · exact .inl h3
   · rcases hn b h3 with h4 | h4
     · exact .inr h4
     · exact absurd hb (hc.no h4).2
def HgR (W : World) (t : Nat) (p : Option Nat) (T T' : TS) (K : List Kd) (C : List Cx) (A : List Af) (O : Nat → Prop) (w : World) (e : Ending) (w' : World) : Prop := e = .returned (.int .i64 (T.length : Int)) ∧ CZ W t p T' K C A O (fun k => w.heap.size ≤ k) w w' ∧ w'.cell? ⟨t, 4, none⟩ = w.cell? ⟨t, 4, none⟩
theorem hang_ctx (l : Bool) (z : Kd) (y : CY W t p T K C A F G o w) (hO : ∀ k, O k ↔ ow F G o k) (hx : C[i]? = some x) (hnd : x.nd < T.length) (hT : T.length < 1000) (hK : K.length ≤ 1000) :
  Calls Tryz.prog 51 #[pS t, .int .i64 (i : Int), .bool l, .agg #[.bool z.af, .int .i64 z.id]] w (HgR W t p T (T ++ [((x.nd : Int), l)]) (K ++ [z]) C A O w) := by
 have hi := (List.getElem?_eq_some_iff.1 hx).1
 have b1 : (i : Int) < (C.length : Int) := by omega
 have b2 : (0 : Int) ≤ (i : Int) := by omega
 have b3 : ((i : Int) != -1) = true := bne_iff_ne.2 (by omega)
 obtain ⟨i0, hi0, hz0, hz1, hz2⟩ := info_parts infK
 obtain ⟨c0, c2, c3, c4, cf⟩ := y.cells
 obtain ⟨q, hP, hq, ⟨x0, -⟩, -⟩ := y.cx hx
 rw [hP] at c3
 have f2 := cf 2
 have ht := y.lt (.f (o := o) (G := G) y.ft)
 have HY := Lib.hid y
 have HO := Lib.hid hO
 have HND := Lib.hid hnd
 have HT := Lib.hid hT
 have HS : Hid (∀ {wx w1 : World} {g cap : Nat}, Below w.heap.size w wx → wx.grownBy w1 (Value.slice o.PK K.length o.cK).ownBlock → w1.ownsRow 0 135 2 (.slice (some ⟨g, 0, none⟩) (K.length + 1) cap) (K.length + 1) (K.flatMap kE ++ kE z) → ((Value.slice o.PK K.length o.cK).ownBlock = some g ∨ w.heap.size ≤ g) → CZ W t p T (K ++ [z]) C A O (fun k => w.heap.size ≤ k) w (w1.setCell ⟨t, 2, none⟩ (.slice (some ⟨g, 0, none⟩) (K.length + 1) cap))) := fun a b c d => y.stepK hO z a b c d
 clear y hO c0 c4 cf hnd hP hx hi hT
 go_enter Tryz.func51, Tryz.ntmps51
 go_wp2_with fail
 go_region_law (go_loud (refine step_append_lies _ (by rfl) _ _ _ (by rfl) 0 135 i0 (.agg #[.bool false, .int .i64 0]) 2 16 Tryz.underlying121 hi0 hz0 hz1 hz2 rfl (by omega) (.slice o.PK K.length o.cK) K.length (K.flatMap kE) (by rfl) (row_later HY.out.rk (below_two rfl rfl rfl rfl)) ⟨w.heap.size + 1, 0, none⟩ 1 1 (kE z) (by rfl) (by rfl) (World.news_of_block (cs := #[.bool z.af, .int .i64 z.id]) (t := 135) (fr := (0, 0)) (news_two (w := w) (by rfl))) (kE_one z) (by omega) (by unfold maxLen; omega) (by omega) (by first | omega | (simp; done) | (simp; omega)) (w.heap.size + 2) (by simp) ?_; intro q2 cap w1 hown hgrow hat hlt1; have HM := HY.out.midK (by exact below_two rfl rfl rfl rfl) hgrow; have HE := Lib.hid (HS.out (by exact below_two rfl rfl rfl rfl) hgrow hown (hat.imp id (by omega))); have hc1 := HM.2.2.1; have hf1 := HM.2.2.2; have HE4 := Lib.hid ((World.cell?_setCell_other (w := w1) (a := ⟨t, 2, none⟩) (b := ⟨t, 4, none⟩) (v := .slice (some ⟨q2, 0, none⟩) (K.length + 1) cap) (by simp)).trans (cell_blk HM.2.1 4)); clear HM hown hgrow hat hlt1 c2 f2))
 all_goals
  generalize w1.setCell ⟨t, 2, none⟩ (.slice (some ⟨q2, 0, none⟩) (K.length + 1) cap) = w2 at *
  clear hc1 hf1 c3 hq x0 b1 b2 b3 HS HY HO
  obtain ⟨F2, G2, o2, y2, hs2, tn2⟩ := HE.out
  have HZ : Hid (∀ T' w3, Tr.Go F2 0 (vS p (.slice o2.PK (K ++ [z]).length o2.cK) (.slice o2.PC C.length o2.cC) (.slice o2.PA A.length o2.cA)) t T' w2 w3 → CZ W t p T' (K ++ [z]) C A O (fun k => w.heap.size ≤ k) w w3 ∧ w3.cell? ⟨t, 4, none⟩ = w.cell? ⟨t, 4, none⟩) := fun T' w3 g => ⟨CZ.tree y2 hs2 tn2 (fun k hk => Nat.le_trans tn2.size hk) (fun k hk => hk) g, by
   obtain ⟨P5, c5, h5⟩ := g.1.blk
   have e5 : w3.cell? ⟨t, 4, none⟩ = some (.slice o2.PA A.length o2.cA) := by rw [cell_of_row w3 t 4 _ _ _ h5]; rfl
   rw [e5, ← HE4.out]
   exact y2.cells.2.2.2.1.symm⟩
  have H2 := Lib.hid y2.tr
  clear HE HE4 y2 hs2 tn2
  cases l
  · go_wp2_with fail
    refine (Tr.add_off w2 H2.out HT.out x.nd HND.out).mono ?_
    rintro e w3 ⟨rfl, g⟩
    have H3 := Lib.hid (HZ.out _ _ g)
    clear g HZ H2
    go_wp2_with fail
    go_ret
    exact ⟨rfl, H3.out⟩
  · go_wp2_with fail
    refine (Tr.add_hung w2 H2.out HT.out x.nd HND.out).mono ?_
    rintro e w3 ⟨rfl, g⟩
    have H3 := Lib.hid (HZ.out _ _ g)
    clear g HZ H2
    go_wp2_with fail
    go_ret
    exact ⟨rfl, H3.out⟩
theorem hang_root (z : Kd) (y : CY W t p T K C A F G o w) (hO : ∀ k, O k ↔ ow F G o k) (hT : T.length < 1000) (hK : K.length ≤ 1000) :
  Calls Tryz.prog 51 #[pS t, .int .i64 (-1), .bool false, .agg #[.bool z.af, .int .i64 z.id]] w (HgR W t p T (T ++ [(-1, false)]) (K ++ [z]) C A O w) := by
 obtain ⟨i0, hi0, hz0, hz1, hz2⟩ := info_parts infK
 obtain ⟨c0, c2, c3, c4, cf⟩ := y.cells
 have f2 := cf 2
 have ht := y.lt (.f (o := o) (G := G) y.ft)
 have HY := Lib.hid y
 have HO := Lib.hid hO
 have HT := Lib.hid hT
 have HS : Hid (∀ {wx w1 : World} {g cap : Nat}, Below w.heap.size w wx → wx.grownBy w1 (Value.slice o.PK K.length o.cK).ownBlock → w1.ownsRow 0 135 2 (.slice (some ⟨g, 0, none⟩) (K.length + 1) cap) (K.length + 1) (K.flatMap kE ++ kE z) → ((Value.slice o.PK K.length o.cK).ownBlock = some g ∨ w.heap.size ≤ g) → CZ W t p T (K ++ [z]) C A O (fun k => w.heap.size ≤ k) w (w1.setCell ⟨t, 2, none⟩ (.slice (some ⟨g, 0, none⟩) (K.length + 1) cap))) := fun a b c d => y.stepK hO z a b c d
 clear y hO c0 c3 c4 cf hT
 go_enter Tryz.func51, Tryz.ntmps51
 go_wp2_with fail
 go_region_law (go_loud (refine step_append_lies _ (by rfl) _ _ _ (by rfl) 0 135 i0 (.agg #[.bool false, .int .i64 0]) 2 16 Tryz.underlying121 hi0 hz0 hz1 hz2 rfl (by omega) (.slice o.PK K.length o.cK) K.length (K.flatMap kE) (by rfl) (row_later HY.out.rk (below_two rfl rfl rfl rfl)) ⟨w.heap.size + 1, 0, none⟩ 1 1 (kE z) (by rfl) (by rfl) (World.news_of_block (cs := #[.bool z.af, .int .i64 z.id]) (t := 135) (fr := (0, 0)) (news_two (w := w) (by rfl))) (kE_one z) (by omega) (by unfold maxLen; omega) (by omega) (by first | omega | (simp; done) | (simp; omega)) (w.heap.size + 2) (by simp) ?_; intro q2 cap w1 hown hgrow hat hlt1; have HM := HY.out.midK (by exact below_two rfl rfl rfl rfl) hgrow; have HE := Lib.hid (HS.out (by exact below_two rfl rfl rfl rfl) hgrow hown (hat.imp id (by omega))); have hc1 := HM.2.2.1; have hf1 := HM.2.2.2; have HE4 := Lib.hid ((World.cell?_setCell_other (w := w1) (a := ⟨t, 2, none⟩) (b := ⟨t, 4, none⟩) (v := .slice (some ⟨q2, 0, none⟩) (K.length + 1) cap) (by simp)).trans (cell_blk HM.2.1 4)); clear HM hown hgrow hat hlt1 c2 f2))
 all_goals
  generalize w1.setCell ⟨t, 2, none⟩ (.slice (some ⟨q2, 0, none⟩) (K.length + 1) cap) = w2 at *
  clear hc1 hf1 HS HY HO
  obtain ⟨F2, G2, o2, y2, hs2, tn2⟩ := HE.out
  have HZ : Hid (∀ T' w3, Tr.Go F2 0 (vS p (.slice o2.PK (K ++ [z]).length o2.cK) (.slice o2.PC C.length o2.cC) (.slice o2.PA A.length o2.cA)) t T' w2 w3 → CZ W t p T' (K ++ [z]) C A O (fun k => w.heap.size ≤ k) w w3 ∧ w3.cell? ⟨t, 4, none⟩ = w.cell? ⟨t, 4, none⟩) := fun T' w3 g => ⟨CZ.tree y2 hs2 tn2 (fun k hk => Nat.le_trans tn2.size hk) (fun k hk => hk) g, by
   obtain ⟨P5, c5, h5⟩ := g.1.blk
   have e5 : w3.cell? ⟨t, 4, none⟩ = some (.slice o2.PA A.length o2.cA) := by rw [cell_of_row w3 t 4 _ _ _ h5]; rfl
   rw [e5, ← HE4.out]
   exact y2.cells.2.2.2.1.symm⟩
  have H2 := Lib.hid y2.tr
  clear HE HE4 y2 hs2 tn2
  go_wp2_with fail
  refine (Tr.add_root w2 H2.out HT.out false).mono ?_
  rintro e w3 ⟨rfl, g⟩
  have H3 := Lib.hid (HZ.out _ _ g)
  clear g HZ H2
  go_wp2_with fail
  go_ret
  exact ⟨rfl, H3.out⟩
end
end Go.Proofs.YtdpapnfjpefhkaaGreat
