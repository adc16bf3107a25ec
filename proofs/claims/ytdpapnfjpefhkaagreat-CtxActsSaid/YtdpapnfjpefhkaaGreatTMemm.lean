/- A tree in memory: its block, the row of its nodes, the rows of their kids; what a store or an append makes of it. No condition.
What each call of package tree that makes one, reads it, or adds to it, does to a tree in memory. Conditions: each theorem's own premises.
What Add does to a tree in memory. Conditions: each theorem's own premises. -/
import Derived.Test.YtdpapnfjpefhkaaGreatChecked
import Derived.Test.YtdpapnfjpefhkaaGreatTNumm
import Derived.WalkKit
import Derived.Below
import Derived.Laws.OwnMore
import Derived.Deep.AppendLies
import Derived.Laws.Rows
import Derived.Laws.BitsAllLaws
import Derived.Lib.Hide
import Derived.Outline
import Derived.BigQuiet
import Derived.Deep.QuietTactic
import Derived.Deep.RegionWith
import Derived.Deep.RegionLaw
import Derived.Deep.LoopGhost
import Derived.StillTailTactics
namespace Go.Proofs.YtdpapnfjpefhkaaGreat.Tr
open Go.RowKit
set_option linter.unusedVariables false
theorem cell_blk {w w' : World} {b : Nat} (h : w'.heap[b]? = w.heap[b]?) (i : Nat) : w'.cell? ⟨b, i, none⟩ = w.cell? ⟨b, i, none⟩ := World.cell?_of_block (a := ⟨b, i, none⟩) h
theorem below_al (w : World) (o : Obj) : Below w.heap.size w (w.alloc o) := (Below.refl _ _).alloc (Nat.le_refl _) _
theorem below_drewN (w : World) (q : Nat) : Below w.heap.size w (w.drewN q) := ⟨rfl, rfl, rfl, Nat.le_refl _, fun _ _ => rfl⟩
theorem lt_of_blk {w : World} {b : Nat} {o : Obj} (h : w.heap[b]? = some o) : b < w.heap.size := (Array.getElem?_eq_some_iff.1 h).1
theorem size_set (w : World) (a : Addr) (u : Value) : (w.setCell a u).heap.size = w.heap.size := by simp [World.setCell]
theorem ret_bool {a b : Bool} (h : a = b) : Ending.returned (.bool a) = .returned (.bool b) := by rw [h]
def BoolR (b : Bool) (w : World) (e : Ending) (w' : World) : Prop := e = .returned (.bool b) ∧ Below w.heap.size w w'
def blk (P : Option Addr) : Option Nat := P.map Addr.block
theorem own_blk (P : Option Addr) (n c : Nat) : (Value.slice P n c).ownBlock = blk P := by cases P <;> rfl
section
variable {w w' : World} {e s B n c : Nat} {P : Option Addr} {xs : List Value}
theorem row_lt (h : w.ownsRow B e s (.slice P n c) n xs) {k : Nat} (hk : blk P = some k) : B ≤ k ∧ k < w.heap.size := h.lt k (by rw [own_blk]; exact hk)
theorem row_tag (h : w.ownsRow B e s (.slice P n c) n xs) {k : Nat} (hk : blk P = some k) : ∃ cs fr, w.heap[k]? = some (.cells cs e fr) := by
 rcases h.2 with ⟨h1, _⟩ | ⟨g, cap, cur, h1, _, h2, _⟩
 · injection h1 with h1; subst h1; cases hk
 · injection h1 with h1; subst h1; cases hk; exact ⟨cur, (0, 0), h2⟩
theorem row_keep (h : w.ownsRow B e s (.slice P n c) n xs) (hb : ∀ k, blk P = some k → w'.heap[k]? = w.heap[k]?) : w'.ownsRow B e s (.slice P n c) n xs := by
 refine ⟨h.1, ?_⟩
 rcases h.2 with h1 | ⟨g, cap, cur, h1, h2, h3, h4⟩
 · exact .inl h1
 · refine .inr ⟨g, cap, cur, h1, h2, ?_, h4⟩
   injection h1 with h1; subst h1
   rw [hb g rfl]; exact h3
theorem row_later (h : w.ownsRow B e s (.slice P n c) n xs) (hb : Below w.heap.size w w') : w'.ownsRow B e s (.slice P n c) n xs := row_keep h fun k hk => hb.block k (row_lt h hk).2
theorem row_form (h : w.ownsRow B e s (.slice P n c) n xs) (hn : 0 < n) : ∃ g, P = some ⟨g, 0, none⟩ ∧ n ≤ c := by
 rcases h.2 with ⟨_, h0⟩ | ⟨g, cap, cur, h1, _, _, h2, _⟩
 · omega
 · injection h1 with h1 h3 h4; subst h4; exact ⟨g, h1, h2⟩
theorem row_cap (h : w.ownsRow B e s (.slice P n c) n xs) : n ≤ c ∧ c ≤ 9223372036854775807 := by
 rcases h.2 with ⟨h1, h0⟩ | ⟨g, cap, cur, h1, _, _, h2, h3, _⟩
 · injection h1 with h1 h3 h4; omega
 · injection h1 with h1 h3 h4; subst h4
   refine ⟨h2, ?_⟩
   have := h3; unfold maxLen at this; omega
theorem row_low {B' : Nat} (h : w.ownsRow B e s (.slice P n c) n xs) (hB : B' ≤ B) : w.ownsRow B' e s (.slice P n c) n xs := by
 refine ⟨h.1, ?_⟩
 rcases h.2 with h1 | ⟨g, cap, cur, h1, h2, h3⟩
 · exact .inl h1
 · exact .inr ⟨g, cap, cur, h1, Nat.le_trans hB h2, h3⟩
end
structure Tn (F : Nat → Prop) (w w' : World) : Prop where
 os : w'.os = w.os
 tape : w'.tape = w.tape
 output : w'.output = w.output
 size : w.heap.size ≤ w'.heap.size
 block : ∀ k, k < w.heap.size → ¬ F k → w'.heap[k]? = w.heap[k]?
theorem Tn.refl (F : Nat → Prop) (w : World) : Tn F w w := ⟨rfl, rfl, rfl, Nat.le_refl _, fun _ _ _ => rfl⟩
theorem Tn.of_below {F : Nat → Prop} {w w' : World} (h : Below w.heap.size w w') : Tn F w w' := ⟨h.os, h.tape, h.output, h.size, fun k hk _ => h.block k hk⟩
theorem Tn.comp {F G : Nat → Prop} {u v w : World} (h : Tn F u v) (k : Tn G v w) (hs : ∀ b, G b → F b ∨ u.heap.size ≤ b) : Tn F u w :=
 ⟨k.os.trans h.os, k.tape.trans h.tape, k.output.trans h.output, Nat.le_trans h.size k.size, fun i hi hn => by
  rw [← h.block i hi hn]
  exact k.block i (by have := h.size; omega) (fun hg => by rcases hs i hg with h1 | h1; exact hn h1; omega)⟩
theorem Tn.trans {F : Nat → Prop} {u v w : World} (h : Tn F u v) (k : Tn F v w) : Tn F u w := h.comp k fun _ hb => .inl hb
theorem Tn.mono {F G : Nat → Prop} {w w' : World} (h : Tn F w w') (hs : ∀ b, F b → G b ∨ w.heap.size ≤ b) : Tn G w w' := (Tn.refl G w).comp h hs
theorem Tn.set {F : Nat → Prop} {u w : World} {b i : Nat} (h : Tn F u w) (hb : F b ∨ u.heap.size ≤ b) (v : Value) : Tn F u (w.setCell ⟨b, i, none⟩ v) :=
 ⟨h.os, h.tape, h.output, by rw [size_set]; exact h.size, fun k hk hn => (Below.heap_setCell _ _ _ _ (by rintro rfl; rcases hb with h1 | h1; exact hn h1; omega)).trans (h.block k hk hn)⟩
theorem Tn.draws {F : Nat → Prop} {u w w' : World} (h : Tn F u w) (hh : w'.heap = w.heap) (h1 : w'.os = w.os) (h2 : w'.tape = w.tape) (h3 : w'.output = w.output) : Tn F u w' :=
 ⟨h1.trans h.os, h2.trans h.tape, h3.trans h.output, by rw [hh]; exact h.size, fun k hk hn => by rw [hh]; exact h.block k hk hn⟩
theorem Tn.later {F : Nat → Prop} {u w w' : World} (h : Tn F u w) (hb : Below w.heap.size w w') : Tn F u w' := h.trans (.of_below hb)
theorem Tn.below {F : Nat → Prop} {B : Nat} {w w' : World} (h : Tn F w w') (hB : B ≤ w.heap.size) (hF : ∀ b, F b → B ≤ b) : Below B w w' :=
 ⟨h.os, h.tape, h.output, h.size, fun k hk => h.block k (by omega) (fun hf => by have := hF k hf; omega)⟩
theorem Tn.grown {w wx w1 : World} {o : Option Nat} (hx : Below w.heap.size w wx) (hg : wx.grownBy w1 o) : Tn (fun k => o = some k) w w1 :=
 ⟨hg.os.trans hx.os, hg.tape.trans hx.tape, hg.output.trans hx.output, Nat.le_trans hx.size hg.size, fun k hk hn => (hg.block k (by have := hx.size; omega) (fun e => hn e.symm)).trans (hx.block k hk)⟩
def okN (F : Nat → Prop) (N : Nat) (b : Nat) : Prop := F b ∨ N ≤ b
theorem flat_at {α : Type} (f : α → List Value) (s : Nat) (hs : ∀ x, (f x).length = s) : ∀ (l : List α) (i : Nat) (x : α), l[i]? = some x → ∀ j, j < s → (l.flatMap f)[i * s + j]? = (f x)[j]?
 | [], i, x, h, _, _ => by simp at h
 | a :: l, 0, x, h, j, hj => by
  simp at h; subst h
  rw [List.flatMap_cons, Nat.zero_mul, Nat.zero_add, List.getElem?_append_left (by rw [hs]; exact hj)]
 | a :: l, i + 1, x, h, j, hj => by
  rw [List.flatMap_cons, List.getElem?_append_right (by rw [hs, Nat.add_mul]; omega), hs, ← flat_at f s hs l i x (by simpa using h) j hj]
  congr 1
  rw [Nat.add_mul]; omega
theorem flat_set {α : Type} (f : α → List Value) (s : Nat) (hs : ∀ x, (f x).length = s) (v : Value) (y : α) : ∀ (l : List α) (i : Nat) (x : α), l[i]? = some x → ∀ j, j < s → f y = (f x).set j v → (l.flatMap f).set (i * s + j) v = (l.set i y).flatMap f
 | [], i, x, h, _, _, _ => by simp at h
 | a :: l, 0, x, h, j, hj, e => by
  simp at h; subst h
  rw [List.flatMap_cons, Nat.zero_mul, Nat.zero_add, List.set_append_left _ _ (by rw [hs]; exact hj), List.set_cons_zero, List.flatMap_cons, e]
 | a :: l, i + 1, x, h, j, hj, e => by
  rw [List.flatMap_cons, List.set_append_right _ _ (by rw [hs, Nat.add_mul]; omega), hs, List.set_cons_succ, List.flatMap_cons, ← flat_set f s hs v y l i x (by simpa using h) j hj e]
  congr 2
  rw [Nat.add_mul]; omega
def iV (l : List Int) : List Value := l.map (Value.int .i64)
theorem iV_app (a b : List Int) : iV (a ++ b) = iV a ++ iV b := by simp [iV]
def nz (l : List Nat) : List Int := l.map fun n : Nat => (n : Int)
theorem nz_len (l : List Nat) : (nz l).length = l.length := by simp [nz]
theorem nz_app (a b : List Nat) : nz (a ++ b) = nz a ++ nz b := by simp [nz]
abbrev Rw (B : Nat) (w : World) (P : Option Addr) (c : Nat) (l : List Int) : Prop := w.ownsRow B 3 1 (.slice P l.length c) l.length (iV l)
theorem Rw.at {B : Nat} {w : World} {P : Option Addr} {c : Nat} {l : List Int} (h : Rw B w P c l) {g : Nat} (hP : P = some ⟨g, 0, none⟩) {i : Nat} {x : Int} (hx : l[i]? = some x) : w.cell? ⟨g, i, none⟩ = some (.int .i64 x) := by
 subst hP
 rw [h.cellAt i (by have := (List.getElem?_eq_some_iff.1 hx).1; omega)]
 simp [iV, hx]
structure Nd where
 par : Int
 lk : Bool
 ks : List Int
 P : Option Addr
 c : Nat
def nV (d : Nd) : List Value := [.int .i64 d.par, .bool d.lk, .slice d.P d.ks.length d.c]
theorem nV_len (d : Nd) : (nV d).length = 3 := rfl
structure TX (F : Nat → Prop) (B : Nat) (V : Nat → Value) (w : World) (t : Nat) (P : Option Addr) (c : Nat) (D : List Nd) : Prop where
 ht : w.heap[t]? = some (.cells #[V 0, .slice P D.length c, V 2, V 3, V 4] 125 (0, 0))
 own : w.ownsRow B 198 3 (.slice P D.length c) D.length (D.flatMap nV)
 kid : ∀ (i : Nat) (d : Nd), D[i]? = some d → Rw B w d.P d.c d.ks
 apart : ∀ (i j : Nat) (d e : Nd), D[i]? = some d → D[j]? = some e → i ≠ j → ∀ k, blk d.P = some k → blk e.P ≠ some k
 gt : B ≤ t
 ft : F t
 fP : ∀ k, blk P = some k → F k
 fk : ∀ (i : Nat) (d : Nd) (k : Nat), D[i]? = some d → blk d.P = some k → F k
section
variable {V : Nat → Value} {F G : Nat → Prop} {B t c : Nat} {w w' : World} {P : Option Addr} {D : List Nd} {i q : Nat} {d : Nd}
theorem TX.lt (h : TX F B V w t P c D) : t < w.heap.size := lt_of_blk h.ht
theorem TX.c0 (h : TX F B V w t P c D) : w.cell? ⟨t, 1, none⟩ = some (.slice P D.length c) := by rw [cell_of_row w t 1 _ _ _ h.ht]; rfl
theorem TX.f0 (h : TX F B V w t P c D) (i : Nat) : w.frozen? ⟨t, i, none⟩ = false := frozen_of_row w t i _ _ h.ht
theorem TX.mono (h : TX F B V w t P c D) (hs : ∀ k, k < w.heap.size → F k → G k) : TX G B V w t P c D :=
 ⟨h.ht, h.own, h.kid, h.apart, h.gt, hs _ h.lt h.ft, fun k hk => hs k (row_lt h.own hk).2 (h.fP k hk), fun i d k hd hk => hs k (row_lt (h.kid i d hd) hk).2 (h.fk i d k hd hk)⟩
theorem TX.keep (h : TX F B V w t P c D) (hb : ∀ k, k < w.heap.size → F k → w'.heap[k]? = w.heap[k]?) : TX F B V w' t P c D :=
 ⟨(hb t h.lt h.ft).trans h.ht, row_keep h.own fun k hk => hb k (row_lt h.own hk).2 (h.fP k hk), fun i d hd => row_keep (h.kid i d hd) fun k hk => hb k (row_lt (h.kid i d hd) hk).2 (h.fk i d k hd hk), h.apart, h.gt, h.ft, h.fP, h.fk⟩
theorem TX.later (h : TX F B V w t P c D) (hb : Below w.heap.size w w') : TX F B V w' t P c D := h.keep fun k hk _ => hb.block k hk
theorem TX.neP (h : TX F B V w t P c D) : blk P ≠ some t := by
 intro e
 obtain ⟨cs, fr, h1⟩ := row_tag h.own e
 have := h1.symm.trans h.ht
 simp at this
theorem TX.neK (h : TX F B V w t P c D) (hd : D[i]? = some d) : blk d.P ≠ some t := by
 intro e
 obtain ⟨cs, fr, h1⟩ := row_tag (h.kid i d hd) e
 have := h1.symm.trans h.ht
 simp at this
theorem TX.nePK (h : TX F B V w t P c D) (hd : D[i]? = some d) {k : Nat} (e : blk P = some k) : blk d.P ≠ some k := by
 intro e2
 obtain ⟨cs, fr, h1⟩ := row_tag (h.kid i d hd) e2
 obtain ⟨cs', fr', h2⟩ := row_tag h.own e
 have := h1.symm.trans h2
 simp at this
theorem TX.form (h : TX F B V w t P c D) (hd : D[i]? = some d) : ∃ q, P = some ⟨q, 0, none⟩ ∧ D.length ≤ c := row_form h.own (by have := (List.getElem?_eq_some_iff.1 hd).1; omega)
theorem TX.cells (h : TX F B V w t P c D) (hP : P = some ⟨q, 0, none⟩) (hd : D[i]? = some d) :
  w.cell? ⟨q, i * 3, none⟩ = some (.int .i64 d.par) ∧ w.cell? ⟨q, i * 3 + 1, none⟩ = some (.bool d.lk) ∧ w.cell? ⟨q, i * 3 + 2, none⟩ = some (.slice d.P d.ks.length d.c) := by
 subst hP
 have hl := (List.getElem?_eq_some_iff.1 hd).1
 refine ⟨?_, ?_, ?_⟩
 · rw [h.own.cellAt (i * 3) (by omega)]; exact flat_at nV 3 nV_len D i d hd 0 (by omega)
 · rw [h.own.cellAt (i * 3 + 1) (by omega)]; exact flat_at nV 3 nV_len D i d hd 1 (by omega)
 · rw [h.own.cellAt (i * 3 + 2) (by omega)]; exact flat_at nV 3 nV_len D i d hd 2 (by omega)
theorem TX.fz (h : TX F B V w t P c D) (hP : P = some ⟨q, 0, none⟩) (j : Nat) : w.frozen? ⟨q, j, none⟩ = false := by subst hP; exact h.own.frozenAt j
theorem TX.push {wx w1 : World} {g cap : Nat} (h : TX F B V w t P c D) (p : Int) (l : Bool) (hx : Below w.heap.size w wx)
  (ho : w1.ownsRow B 198 3 (.slice (some ⟨g, 0, none⟩) (D.length + 1) cap) (D.length + 1) (D.flatMap nV ++ [.int .i64 p, .bool l, .slice none 0 0])) (hg : wx.grownBy w1 (Value.slice P D.length c).ownBlock) (hat : (Value.slice P D.length c).ownBlock = some g ∨ w.heap.size ≤ g) :
  TX (okN F w.heap.size) B V (w1.setCell ⟨t, 1, none⟩ (.slice (some ⟨g, 0, none⟩) (D.length + 1) cap)) t (some ⟨g, 0, none⟩) cap (D ++ [⟨p, l, [], none, 0⟩]) ∧ Tn F w (w1.setCell ⟨t, 1, none⟩ (.slice (some ⟨g, 0, none⟩) (D.length + 1) cap)) := by
 rw [own_blk] at hg hat
 have hs := hx.size
 have hlt := h.lt
 have T1 := Tn.grown hx hg
 have key : ∀ k, k < w.heap.size → blk P ≠ some k → w1.heap[k]? = w.heap[k]? := fun k hk hn => T1.block k hk hn
 have ha1 := (key t hlt h.neP).trans h.ht
 have hgt : g ≠ t := by
  intro e; subst e
  rcases hat with h1 | h1
  · exact h.neP h1
  · omega
 have ke : ∀ (i : Nat) (d : Nd), (D ++ [⟨p, l, [], none, 0⟩])[i]? = some d → (D[i]? = some d) ∨ (i = D.length ∧ d = ⟨p, l, [], none, 0⟩) := by
  intro i d hd
  rcases Nat.lt_or_ge i D.length with hl | hl
  · rw [List.getElem?_append_left hl] at hd; exact .inl hd
  · rw [List.getElem?_append_right hl] at hd
    by_cases e : i - D.length = 0
    · rw [e] at hd; simp at hd; exact .inr ⟨by omega, hd.symm⟩
    · rw [List.getElem?_eq_none (by simp; omega)] at hd; cases hd
 refine ⟨⟨?_, ?_, ?_, ?_, h.gt, .inl h.ft, ?_, ?_⟩, (T1.mono fun b hb => .inl (h.fP b hb)).set (.inl h.ft) _⟩
 · rw [heap_setCell_same _ t 1 _ _ _ ha1]
   simp
 · rw [List.flatMap_append, show ([⟨p, l, [], none, 0⟩] : List Nd).flatMap nV = [.int .i64 p, .bool l, .slice none 0 0] from rfl]
   rw [show (D ++ ([⟨p, l, [], none, 0⟩] : List Nd)).length = D.length + 1 from by simp]
   exact row_keep ho fun k hk => by cases hk; exact Below.heap_setCell _ _ _ _ hgt
 · intro i d hd
   rcases ke i d hd with h1 | ⟨_, rfl⟩
   · refine row_keep (h.kid i d h1) fun k hk => ?_
     rw [Below.heap_setCell _ _ _ _ (fun e => h.neK h1 (by rw [hk, e]))]
     exact key k (row_lt (h.kid i d h1) hk).2 fun e => h.nePK h1 e hk
   · exact World.ownsRow_nil _ _ _ _
 · intro i j d e hd he hij k hk
   rcases ke i d hd with h1 | ⟨_, rfl⟩
   · rcases ke j e he with h2 | ⟨_, rfl⟩
     · exact h.apart i j d e h1 h2 hij k hk
     · intro x; cases x
   · cases hk
 · intro k hk; cases hk
   rcases hat with h1 | h1
   · exact .inl (h.fP _ h1)
   · exact .inr h1
 · intro i d k hd hk
   rcases ke i d hd with h1 | ⟨_, rfl⟩
   · exact .inl (h.fk i d k h1 hk)
   · cases hk
theorem set_at {α : Type} {D : List α} {i j : Nat} {y e : α} (h : (D.set i y)[j]? = some e) : (j = i ∧ e = y) ∨ (j ≠ i ∧ D[j]? = some e) := by
 rw [List.getElem?_set] at h
 by_cases c : i = j
 · rw [if_pos c] at h
   split at h
   · exact .inl ⟨c.symm, by injection h with h; exact h.symm⟩
   · cases h
 · rw [if_neg c] at h; exact .inr ⟨fun e => c e.symm, h⟩
theorem TX.kidTo {w1 : World} {g cap : Nat} {ks' : List Int} (h : TX F B V w t P c D) (hd : D[i]? = some d) (hP : P = some ⟨q, 0, none⟩) (T1 : Tn (fun k => blk d.P = some k) w w1) (ho : Rw B w1 (some ⟨g, 0, none⟩) cap ks') (hat : blk d.P = some g ∨ w.heap.size ≤ g) :
  TX (okN F w.heap.size) B V (w1.setCell ⟨q, i * 3 + 2, none⟩ (.slice (some ⟨g, 0, none⟩) ks'.length cap)) t P c (D.set i { d with ks := ks', P := some ⟨g, 0, none⟩, c := cap }) ∧ Tn F w (w1.setCell ⟨q, i * 3 + 2, none⟩ (.slice (some ⟨g, 0, none⟩) ks'.length cap)) := by
 subst hP
 have hlt := h.lt
 have hl := (List.getElem?_eq_some_iff.1 hd).1
 have hq := row_lt h.own (k := q) rfl
 have htq : t ≠ q := fun e => h.neP (by rw [e]; rfl)
 have hgq : g ≠ q := by
  intro e
  rcases hat with h1 | h1
  · exact h.nePK hd (k := q) rfl (by rw [h1, e])
  · omega
 have own1 : w1.ownsRow B 198 3 (.slice (some ⟨q, 0, none⟩) D.length c) D.length (D.flatMap nV) := row_keep h.own fun k hk => T1.block k (row_lt h.own hk).2 fun e => h.nePK hd hk e
 refine ⟨⟨?_, ?_, ?_, ?_, h.gt, .inl h.ft, fun k hk => .inl (h.fP k hk), ?_⟩, (T1.mono fun b hb => .inl (h.fk i d b hd hb)).set (.inl (h.fP q rfl)) _⟩
 · rw [Below.heap_setCell _ _ _ _ htq, T1.block t hlt (h.neK hd), h.ht]; simp
 · have := (own1.stored (i * 3 + 2) (.slice (some ⟨g, 0, none⟩) ks'.length cap)).1
   rw [flat_set nV 3 nV_len _ { d with ks := ks', P := some ⟨g, 0, none⟩, c := cap } D i d hd 2 (by omega) rfl] at this
   rw [List.length_set]; exact this
 · intro j e he
   rcases set_at he with ⟨rfl, rfl⟩ | ⟨hne, he⟩
   · exact row_keep ho fun k hk => by cases hk; exact Below.heap_setCell _ _ _ _ hgq
   · refine row_keep (h.kid j e he) fun k hk => ?_
     rw [Below.heap_setCell _ _ _ _ (fun x => h.nePK he (k := q) rfl (by rw [hk]; exact congrArg some x))]
     exact T1.block k (row_lt (h.kid j e he) hk).2 fun x => h.apart j i e d he hd hne k hk x
 · intro a b x y hx hy hab k hk
   rcases set_at hx with ⟨rfl, rfl⟩ | ⟨hne, hx2⟩
   · rcases set_at hy with ⟨rfl, rfl⟩ | ⟨hne, hy⟩
     · exact absurd rfl hab
     · have hk : g = k := by simpa [blk] using hk
       subst hk
       rcases hat with h1 | h1
       · exact h.apart a b d y hd hy hab g h1
       · intro e; have := (row_lt (h.kid b y hy) e).2; omega
   · rcases set_at hy with ⟨rfl, rfl⟩ | ⟨hne2, hy2⟩
     · intro e
       have e : g = k := by simpa [blk] using e
       subst e
       rcases hat with h1 | h1
       · exact h.apart a b x d hx2 hd hab g hk h1
       · have := (row_lt (h.kid a x hx2) hk).2; omega
     · exact h.apart a b x y hx2 hy2 hab k hk
 · intro j e k he hk
   rcases set_at he with ⟨rfl, rfl⟩ | ⟨hne, he⟩
   · cases hk
     rcases hat with h1 | h1
     · exact .inl (h.fk j d _ hd h1)
     · exact .inr h1
   · exact .inl (h.fk j e k he hk)
theorem TX.lkTo (h : TX F B V w t P c D) (hd : D[i]? = some d) (hP : P = some ⟨q, 0, none⟩) (b : Bool) :
  TX F B V (w.setCell ⟨q, i * 3 + 1, none⟩ (.bool b)) t P c (D.set i { d with lk := b }) ∧ Tn F w (w.setCell ⟨q, i * 3 + 1, none⟩ (.bool b)) := by
 subst hP
 have htq : t ≠ q := fun e => h.neP (by rw [e]; rfl)
 have ke : ∀ (j : Nat) (e : Nd), (D.set i { d with lk := b })[j]? = some e → ∃ e', D[j]? = some e' ∧ e.P = e'.P ∧ e.c = e'.c ∧ e.ks = e'.ks := by
  intro j e he
  rcases set_at he with ⟨rfl, rfl⟩ | ⟨_, he⟩
  · exact ⟨d, hd, rfl, rfl, rfl⟩
  · exact ⟨e, he, rfl, rfl, rfl⟩
 refine ⟨⟨?_, ?_, ?_, ?_, h.gt, h.ft, h.fP, ?_⟩, (Tn.refl F w).set (.inl (h.fP q rfl)) _⟩
 · rw [Below.heap_setCell _ _ _ _ htq, h.ht]; simp
 · have := (h.own.stored (i * 3 + 1) (.bool b)).1
   rw [flat_set nV 3 nV_len _ { d with lk := b } D i d hd 1 (by omega) rfl] at this
   rw [List.length_set]; exact this
 · intro j e he
   obtain ⟨e', h1, h2, h3, h4⟩ := ke j e he
   rw [h2, h3, h4]
   refine row_keep (h.kid j e' h1) fun k hk => ?_
   exact Below.heap_setCell _ _ _ _ (fun x => h.nePK h1 (k := q) rfl (by rw [hk]; exact congrArg some x))
 · intro a b x y hx hy hab k hk
   obtain ⟨x', h1, h2, _⟩ := ke a x hx
   obtain ⟨y', h3, h4, _⟩ := ke b y hy
   rw [h2] at hk; rw [h4]
   exact h.apart a b x' y' h1 h3 hab k hk
 · intro j e k he hk
   obtain ⟨e', h1, h2, _⟩ := ke j e he
   rw [h2] at hk
   exact h.fk j e' k h1 hk
end
def Of (S : TS) (D : List Nd) : Prop := D.length = S.length ∧ ∀ (i : Nat) (d : Nd), D[i]? = some d → S[i]? = some (d.par, d.lk) ∧ d.ks = nz (kids S i)
theorem Of.one {S : TS} {D : List Nd} (h : Of S D) {i : Nat} (hi : i < S.length) : ∃ d, D[i]? = some d ∧ S[i]? = some (d.par, d.lk) ∧ d.ks = nz (kids S i) := by
 have hl : i < D.length := by rw [h.1]; exact hi
 exact ⟨D[i], List.getElem?_eq_getElem hl, h.2 i _ (List.getElem?_eq_getElem hl)⟩
theorem Of.lone {S : TS} {D : List Nd} (h : Of S D) (w : WF S) (p : Int) (l : Bool) (hl : l = true → p < 0) : Of (S ++ [(p, l)]) (D ++ ([⟨p, l, [], none, 0⟩] : List Nd)) := by
 refine ⟨by simp [h.1], fun i d hd => ?_⟩
 rcases Nat.lt_or_ge i D.length with hi | hi
 · rw [List.getElem?_append_left hi] at hd
   have hs := h.2 i d hd
   have hi' : i < S.length := by rw [← h.1]; exact hi
   rw [List.getElem?_append_left hi', kids_push w _ _ _ hi', if_neg (fun e => by have := hl e.1; have := e.2; omega)]
   exact hs
 · rw [List.getElem?_append_right hi] at hd
   by_cases e : i - D.length = 0
   · rw [e] at hd; simp at hd; subst hd
     have ei : i = S.length := by rw [← h.1]; omega
     subst ei
     rw [List.getElem?_append_right (Nat.le_refl _), Nat.sub_self, kids_new (S := S ++ [(p, l)]) S.length (by simp)]
     exact ⟨rfl, rfl⟩
   · rw [List.getElem?_eq_none (by simp; omega)] at hd; cases hd
theorem Of.hung {S : TS} {D : List Nd} (h : Of S D) (w : WF S) (i : Nat) (hi : i < S.length) {d : Nd} (hd : D[i]? = some d) (P : Option Addr) (c : Nat) :
  Of (S ++ [((i : Int), true)]) ((D ++ ([⟨(i : Int), true, [], none, 0⟩] : List Nd)).set i { d with ks := d.ks ++ [(S.length : Int)], P := P, c := c }) := by
 refine ⟨by simp [h.1], fun j e he => ?_⟩
 have hs := h.2 i d hd
 rcases set_at he with ⟨rfl, rfl⟩ | ⟨hne, he⟩
 · rw [List.getElem?_append_left hi, kids_push w _ _ _ hi, if_pos ⟨rfl, rfl⟩, nz_app]
   exact ⟨hs.1, by rw [hs.2]; rfl⟩
 · rcases Nat.lt_or_ge j D.length with hj | hj
   · rw [List.getElem?_append_left hj] at he
     have hs := h.2 j e he
     have hj' : j < S.length := by rw [← h.1]; exact hj
     rw [List.getElem?_append_left hj', kids_push w _ _ _ hj', if_neg (fun e => hne (by have := e.2; omega))]
     exact hs
   · rw [List.getElem?_append_right hj] at he
     by_cases e0 : j - D.length = 0
     · rw [e0] at he; simp at he; subst he
       have ej : j = S.length := by rw [← h.1]; omega
       subst ej
       rw [List.getElem?_append_right (Nat.le_refl _), Nat.sub_self, kids_new (S := S ++ [((i : Int), true)]) S.length (by simp)]
       exact ⟨rfl, rfl⟩
     · rw [List.getElem?_eq_none (by simp; omega)] at he; cases he
theorem Of.cut {S : TS} {D : List Nd} (h : Of S D) (w : WF S) {k i : Nat} {dk di : Nd} (hk : D[k]? = some dk) (hi : D[i]? = some di) (hp : dk.par = (i : Int)) (hl : dk.lk = true) (P : Option Addr) (c : Nat) :
  Of (cut S k) ((D.set k { dk with lk := false }).set i { di with ks := di.ks.filter fun x => !(x == (k : Int)), P := P, c := c }) := by
 have hsk := (h.2 k dk hk).1
 have hik := (w k _ _ hsk).2.1
 have nzf : ∀ l : List Nat, (nz l).filter (fun x => !(x == (k : Int))) = nz (l.filter fun x => !(x == k)) := by
  intro l
  induction l with
  | nil => rfl
  | cons a l ih =>
   have e : ((a : Int) == (k : Int)) = (a == k) := by
    by_cases e : a = k
    · subst e; simp
    · have e2 : ((a : Int) == (k : Int)) = false := beq_eq_false_iff_ne.2 (by omega)
      rw [e2]; exact (beq_eq_false_iff_ne.2 e).symm
   show ((a : Int) :: nz l).filter _ = _
   rw [List.filter_cons, List.filter_cons, e, ih]
   split <;> rfl
 refine ⟨by simp [h.1, cut_len], fun j e he => ?_⟩
 rw [cut_at, kids_cut]
 rcases set_at he with ⟨rfl, rfl⟩ | ⟨hne, he⟩
 · have hs := h.2 j di hi
   rw [if_neg (by omega)]
   exact ⟨hs.1, by rw [hs.2, nzf]⟩
 · have keep : ∀ j, j ≠ i → (kids S j).filter (fun x => !(x == k)) = kids S j := by
    intro j hj
    apply List.filter_eq_self.2
    intro x hx
    have := (mem_kids.1 hx).1
    have hxk : x ≠ k := by
     rintro rfl
     rw [hsk] at this
     simp at this
     omega
    simpa using hxk
   rw [keep j hne]
   rcases set_at he with ⟨rfl, rfl⟩ | ⟨hne2, he⟩
   · have hs := h.2 j dk hk
     rw [if_pos rfl, hs.1]
     exact ⟨rfl, hs.2⟩
   · have hs := h.2 j e he
     rw [if_neg hne2]
     exact hs
structure TR (F : Nat → Prop) (B : Nat) (V : Nat → Value) (S : TS) (w : World) (t : Nat) : Prop where
 wf : WF S
 le : S.length ≤ 1000
 ex : ∃ P c D, TX F B V w t P c D ∧ Of S D
section
variable {V : Nat → Value} {F G : Nat → Prop} {B t : Nat} {w w' : World} {S : TS}
theorem TR.mono (h : TR F B V S w t) (hs : ∀ k, k < w.heap.size → F k → G k) : TR G B V S w t := by
 obtain ⟨P, c, D, x, o⟩ := h.ex
 exact ⟨h.wf, h.le, P, c, D, x.mono hs, o⟩
theorem TR.keep (h : TR F B V S w t) (hb : ∀ k, k < w.heap.size → F k → w'.heap[k]? = w.heap[k]?) : TR F B V S w' t := by
 obtain ⟨P, c, D, x, o⟩ := h.ex
 exact ⟨h.wf, h.le, P, c, D, x.keep hb, o⟩
theorem TR.later (h : TR F B V S w t) (hb : Below w.heap.size w w') : TR F B V S w' t := h.keep fun k hk _ => hb.block k hk
theorem TR.lt (h : TR F B V S w t) : t < w.heap.size := by obtain ⟨P, c, D, x, o⟩ := h.ex; exact x.lt
theorem TR.ft (h : TR F B V S w t) : F t := by obtain ⟨P, c, D, x, o⟩ := h.ex; exact x.ft
def Go (F : Nat → Prop) (B : Nat) (V : Nat → Value) (t : Nat) (S : TS) (w w' : World) : Prop := TR (okN F w.heap.size) B V S w' t ∧ Tn F w w'
end
end Go.Proofs.YtdpapnfjpefhkaaGreat.Tr
namespace Go.Proofs.YtdpapnfjpefhkaaGreat.Tr
open Go.RowKit
set_option linter.unusedVariables false
set_option maxRecDepth 100000
theorem inf3 : (Tryz.prog.info? 3).map (fun i => (i.zero, i.size, i.bytes)) = some (some (.int .i64 0), 1, 8) := by kernel_rfl
theorem inf57 : (Tryz.prog.info? 198).map (fun i => (i.zero, i.size, i.bytes)) = some (some (.agg #[.int .i64 0, .bool false, .slice none 0 0]), 3, 40) := by kernel_rfl
theorem nd_cell (p : Int) (l : Bool) : ∀ u ∈ ([.int .i64 p, .bool l, .slice none 0 0] : List Value), u.oneCell' = true := by intro u hu; simp at hu; rcases hu with rfl | rfl | rfl <;> rfl
theorem int_cell (x : Int) : ∀ u ∈ ([.int .i64 x] : List Value), u.oneCell' = true := by intro u hu; simp at hu; subst hu; rfl
section
variable {V : Nat → Value} {F : Nat → Prop} {B t : Nat} {S : TS}
theorem len_any (w : World) (h : TR F B V S w t) : Calls Tryz.prog 100 #[.pointer (some ⟨t, 1, none⟩)] w fun e w' => e = .returned (.int .i64 (S.length : Int)) ∧ w = w' := by
 obtain ⟨P, c, D, x, o⟩ := h.ex
 have h0 := x.c0
 have hl := o.1
 clear h x o
 rw [hl] at h0
 clear hl
 go_enter Tryz.func100, Tryz.ntmps100
 go_wp2
 go_ret
 exact ⟨rfl, rfl⟩
theorem has_yes (w : World) (h : TR F B V S w t) (i : Nat) (hi : i < S.length) : Calls Tryz.prog 79 #[.pointer (some ⟨t, 1, none⟩), .int .i64 (i : Int)] w fun e w' => e = .returned (.bool true) ∧ w = w' := by
 have b1 : (i : Int) < (S.length : Int) := by omega
 have b2 : (0 : Int) ≤ (i : Int) := by omega
 go_enter Tryz.func79, Tryz.ntmps79
 go_wp2_with fail
 refine (len_any w h).mono ?_
 rintro e w' ⟨rfl, rfl⟩
 go_wp2_with fail
 go_ret
 exact ⟨rfl, rfl⟩
end
end Go.Proofs.YtdpapnfjpefhkaaGreat.Tr
namespace Go.Proofs.YtdpapnfjpefhkaaGreat.Tr
open Go.RowKit
set_option linter.unusedVariables false
set_option maxRecDepth 100000
theorem TX.pushed {V : Nat → Value} {F : Nat → Prop} {B t c : Nat} {w wx w1 : World} {P : Option Addr} {D : List Nd} (h : TX F B V w t P c D) (hx : Below w.heap.size w wx)
  (hg : wx.grownBy w1 (Value.slice P D.length c).ownBlock) : w1.cell? ⟨t, 1, none⟩ = some (.slice P D.length c) ∧ w1.frozen? ⟨t, 1, none⟩ = false := by
 have e := (Tn.grown hx hg).block t h.lt (by rw [own_blk]; exact h.neP)
 exact ⟨(cell_blk e 1).trans h.c0, (World.frozen?_of_block (a := ⟨t, 1, none⟩) e).trans (h.f0 1)⟩
theorem heap_alloc_set (w : World) (a : Addr) (u : Value) (o : Obj) : ((w.setCell a u).alloc o).heap[w.heap.size]? = some o := by
 have := heap_alloc_new (w.setCell a u) o
 rw [size_set] at this
 exact this
def AddR (F : Nat → Prop) (B : Nat) (V : Nat → Value) (t : Nat) (S S' : TS) (w : World) (e : Ending) (w' : World) : Prop := e = .returned (.tuple #[.int .i64 (S.length : Int), .int .i64 0]) ∧ Go F B V t S' w w'
section
variable {V : Nat → Value} {F : Nat → Prop} {B t : Nat} {S : TS}
theorem add_root (w : World) (h : TR F 0 V S w t) (hn : S.length < 1000) (l : Bool) : Calls Tryz.prog 78 #[.pointer (some ⟨t, 1, none⟩), .int .i64 (-1), .bool l] w (AddR F 0 V t S (S ++ [(-1, false)]) w) := by
 obtain ⟨P, c, D, x, o⟩ := h.ex
 obtain ⟨i0, hi, hz0, hz1, hz2⟩ := info_parts inf57
 have hl := o.1
 have h0 := x.c0
 have hfa := x.f0 1
 have HX := Lib.hid x
 have HT := Lib.hid h
 have HO := Lib.hid o
 have b3 : ((D.length : Int) == 1000) = false := beq_eq_false_iff_ne.2 (by omega)
 have HB := Lib.hid (below_al w (.cells #[.int .i64 (-1), .bool false, .slice none 0 0] 198))
 have hb : D.length ≤ 1000 := by omega
 have HL := Lib.hid hl
 clear x h o hl
 have key : ∀ g cap w1, (w.alloc (.cells #[.int .i64 (-1), .bool false, .slice none 0 0] 198)).grownBy w1 (Value.slice P D.length c).ownBlock → w1.ownsRow 0 198 3 (.slice (some ⟨g, 0, none⟩) (D.length + 1) cap) (D.length + 1) (D.flatMap nV ++ [.int .i64 (-1), .bool false, .slice none 0 0]) → ((Value.slice P D.length c).ownBlock = some g ∨ g = w.heap.size + 1) →
   AddR F 0 V t S (S ++ [(-1, false)]) w (.returned (.tuple #[.int .i64 (D.length : Int), .int .i64 0])) (w1.setCell ⟨t, 1, none⟩ (.slice (some ⟨g, 0, none⟩) (D.length + 1) cap)) := by
  intro g cap w1 hg ho hat
  have hp := HX.out.push (-1) false HB.out ho hg (hat.imp id (by omega))
  refine ⟨by rw [HL.out], ⟨HT.out.wf.push (by omega) (by omega) (by simp), by simp; omega, _, _, _, hp.1, HO.out.lone HT.out.wf (-1) false (by simp)⟩, hp.2⟩
 have KEY := Lib.hid key
 clear key
 cases l <;>
  (go_enter Tryz.func78, Tryz.ntmps78
   go_wp2_with (at_builtin; go_loud (refine wpList_append_lies _ rfl (.tmp 44) (.tmp 48) 118 rfl 0 198 i0 _ 3 40 Tryz.underlying118 hi hz0 hz1 hz2 rfl (by omega) (.slice P D.length c) D.length (D.flatMap nV) rfl (row_later HX.out.own HB.out) ⟨w.heap.size, 0, none⟩ 1 1 [.int .i64 (-1), .bool false, .slice none 0 0] rfl rfl (World.news_of_block (cs := #[.int .i64 (-1), .bool false, .slice none 0 0]) (heap_alloc_new w _)) (nd_cell _ _) (by omega) (by unfold maxLen; omega) (by omega) (by omega) (w.heap.size + 1) (by first | (simp; done) | (simp; rfl)) ?_; intro g cap w1 hown hgrow hat hlt1; have HE := Lib.hid (KEY.out g cap w1 hgrow hown hat); have hc1 := (HX.out.pushed HB.out hgrow).1; have hf1 := (HX.out.pushed HB.out hgrow).2; clear hown hgrow hat hlt1 h0 hfa))
   go_wp2_with fail
   go_ret2
   exact HE.out)
theorem add_off (w : World) (h : TR F 0 V S w t) (hn : S.length < 1000) (i : Nat) (hin : i < S.length) : Calls Tryz.prog 78 #[.pointer (some ⟨t, 1, none⟩), .int .i64 (i : Int), .bool false] w (AddR F 0 V t S (S ++ [((i : Int), false)]) w) := by
 obtain ⟨P, c, D, x, o⟩ := h.ex
 obtain ⟨i0, hi, hz0, hz1, hz2⟩ := info_parts inf57
 have hl := o.1
 have h0 := x.c0
 have hfa := x.f0 1
 have HX := Lib.hid x
 have HT := Lib.hid h
 have HO := Lib.hid o
 have b1 : ((i : Int) == -1) = false := beq_eq_false_iff_ne.2 (by omega)
 have b1n : ((i : Int) != -1) = true := bne_iff_ne.2 (by omega)
 have H := Lib.hid (has_yes w h i hin)
 have b3 : ((D.length : Int) == 1000) = false := beq_eq_false_iff_ne.2 (by omega)
 have HB := Lib.hid (below_al w (.cells #[.int .i64 (i : Int), .bool false, .slice none 0 0] 198))
 have hb : D.length ≤ 1000 := by omega
 have HL := Lib.hid hl
 clear x h o hl
 have key : ∀ g cap w1, (w.alloc (.cells #[.int .i64 (i : Int), .bool false, .slice none 0 0] 198)).grownBy w1 (Value.slice P D.length c).ownBlock → w1.ownsRow 0 198 3 (.slice (some ⟨g, 0, none⟩) (D.length + 1) cap) (D.length + 1) (D.flatMap nV ++ [.int .i64 (i : Int), .bool false, .slice none 0 0]) → ((Value.slice P D.length c).ownBlock = some g ∨ g = w.heap.size + 1) →
   AddR F 0 V t S (S ++ [((i : Int), false)]) w (.returned (.tuple #[.int .i64 (D.length : Int), .int .i64 0])) (w1.setCell ⟨t, 1, none⟩ (.slice (some ⟨g, 0, none⟩) (D.length + 1) cap)) := by
  intro g cap w1 hg ho hat
  have hp := HX.out.push (i : Int) false HB.out ho hg (hat.imp id (by omega))
  refine ⟨by rw [HL.out], ⟨HT.out.wf.push (by omega) (by omega) (by simp), by simp; omega, _, _, _, hp.1, HO.out.lone HT.out.wf (i : Int) false (by simp)⟩, hp.2⟩
 have KEY := Lib.hid key
 clear key
 go_enter Tryz.func78, Tryz.ntmps78
 go_wp2_with fail
 refine H.out.mono ?_
 rintro e w' ⟨rfl, rfl⟩
 go_wp2_with (at_builtin; go_loud (refine wpList_append_lies _ rfl (.tmp 44) (.tmp 48) 118 rfl 0 198 i0 _ 3 40 Tryz.underlying118 hi hz0 hz1 hz2 rfl (by omega) (.slice P D.length c) D.length (D.flatMap nV) rfl (row_later HX.out.own HB.out) ⟨w.heap.size, 0, none⟩ 1 1 [.int .i64 (i : Int), .bool false, .slice none 0 0] rfl rfl (World.news_of_block (cs := #[.int .i64 (i : Int), .bool false, .slice none 0 0]) (heap_alloc_new w _)) (nd_cell _ _) (by omega) (by unfold maxLen; omega) (by omega) (by omega) (w.heap.size + 1) (by first | (simp; done) | (simp; rfl)) ?_; intro g cap w1 hown hgrow hat hlt1; have HE := Lib.hid (KEY.out g cap w1 hgrow hown hat); have hc1 := (HX.out.pushed HB.out hgrow).1; have hf1 := (HX.out.pushed HB.out hgrow).2; clear hown hgrow hat hlt1 h0 hfa))
 go_wp2_with fail
 go_ret2
 exact HE.out
structure Mid (F : Nat → Prop) (V : Nat → Value) (t : Nat) (S : TS) (i : Nat) (W : World) (q c : Nat) (D : List Nd) (d : Nd) (w : World) : Prop where
 tx : TX (okN F W.heap.size) 0 V w t (some ⟨q, 0, none⟩) c (D ++ [⟨(i : Int), true, [], none, 0⟩])
 tn : Tn F W w
 at' : (D ++ ([⟨(i : Int), true, [], none, 0⟩] : List Nd))[i]? = some d
 wf : WF S
 o : Of S D
 hd : D[i]? = some d
 hi : i < S.length
 le : S.length < 1000
theorem Mid.done {W w wx w1 : World} {i q c g cap : Nat} {D : List Nd} {d : Nd} (m : Mid F V t S i W q c D d w) (hx : Below w.heap.size w wx) (ho : w1.ownsRow 0 3 1 (.slice (some ⟨g, 0, none⟩) (d.ks.length + 1) cap) (d.ks.length + 1) (iV d.ks ++ [.int .i64 (D.length : Int)])) (hg : wx.grownBy w1 (Value.slice d.P d.ks.length d.c).ownBlock) (hat : (Value.slice d.P d.ks.length d.c).ownBlock = some g ∨ w.heap.size ≤ g) :
  AddR F 0 V t S (S ++ [((i : Int), true)]) W (.returned (.tuple #[.int .i64 (D.length : Int), .int .i64 0])) (w1.setCell ⟨q, i * 3 + 2, none⟩ (.slice (some ⟨g, 0, none⟩) (d.ks.length + 1) cap)) := by
 rw [own_blk] at hg hat
 rw [m.o.1] at ho ⊢
 have ho' : Rw 0 w1 (some ⟨g, 0, none⟩) cap (d.ks ++ [(S.length : Int)]) := by
  unfold Rw
  rw [show (d.ks ++ [(S.length : Int)]).length = d.ks.length + 1 from by simp, iV_app]
  exact ho
 have h1 := m.tx.kidTo m.at' rfl (Tn.grown hx hg) ho' hat
 rw [show (d.ks ++ [(S.length : Int)]).length = d.ks.length + 1 from by simp] at h1
 refine ⟨rfl, ⟨m.wf.push (by omega) (by have := m.hi; omega) (by omega), by have := m.le; simp; omega, _, _, _, h1.1.mono ?_, m.o.hung m.wf i m.hi m.hd _ _⟩, ?_⟩
 · rintro k _ ((hk | hk) | hk)
   · exact .inl hk
   · exact .inr hk
   · exact .inr (Nat.le_trans m.tn.size hk)
 · exact m.tn.comp h1.2 fun b hb => hb
theorem Mid.cells {W w wx w1 : World} {i q c : Nat} {D : List Nd} {d : Nd} (m : Mid F V t S i W q c D d w) (hx : Below w.heap.size w wx) (hg : wx.grownBy w1 (Value.slice d.P d.ks.length d.c).ownBlock) :
  w1.cell? ⟨q, i * 3 + 2, none⟩ = some (.slice d.P d.ks.length d.c) ∧ w1.frozen? ⟨q, i * 3 + 2, none⟩ = false := by
 rw [own_blk] at hg
 have e := (Tn.grown hx hg).block q (row_lt m.tx.own rfl).2 fun e => m.tx.nePK m.at' (k := q) rfl e
 exact ⟨(cell_blk e _).trans (m.tx.cells rfl m.at').2.2, (World.frozen?_of_block (a := ⟨q, i * 3 + 2, none⟩) e).trans (m.tx.fz rfl _)⟩
theorem add_hung (w : World) (h : TR F 0 V S w t) (hn : S.length < 1000) (i : Nat) (hin : i < S.length) : Calls Tryz.prog 78 #[.pointer (some ⟨t, 1, none⟩), .int .i64 (i : Int), .bool true] w (AddR F 0 V t S (S ++ [((i : Int), true)]) w) := by
 obtain ⟨P, c, D, x, o⟩ := h.ex
 obtain ⟨i0, hi, hz0, hz1, hz2⟩ := info_parts inf57
 obtain ⟨i3, hi3, hy0, hy1, hy2⟩ := info_parts inf3
 have hl := o.1
 have h0 := x.c0
 have hfa := x.f0 1
 have HX := Lib.hid x
 have HT := Lib.hid h
 have HO := Lib.hid o
 have b1 : ((i : Int) == -1) = false := beq_eq_false_iff_ne.2 (by omega)
 have b1n : ((i : Int) != -1) = true := bne_iff_ne.2 (by omega)
 have H := Lib.hid (has_yes w h i hin)
 have b3 : ((D.length : Int) == 1000) = false := beq_eq_false_iff_ne.2 (by omega)
 have HB := Lib.hid (below_al w (.cells #[.int .i64 (i : Int), .bool true, .slice none 0 0] 198))
 have hb : D.length ≤ 1000 := by omega
 have c1 : (i : Int) < (D.length : Int) + 1 := by omega
 have c4 : i < D.length := by omega
 have c2 : (0 : Int) ≤ (i : Int) := by omega
 have c3 : i < D.length + 1 := by omega
 obtain ⟨d, hd, hsd, hks⟩ := o.one hin
 have hkl : d.ks.length ≤ 1000 := by
  rw [hks, nz_len]
  have := once_len S.length (kids S i) ((kids_rise S i).imp fun h => by omega) (fun x hx => (kids_lt hx).2)
  omega
 have HD := Lib.hid hd
 have HL := Lib.hid hl
 clear x h o hl hd hks hsd
 have key : ∀ g cap w1, (w.alloc (.cells #[.int .i64 (i : Int), .bool true, .slice none 0 0] 198)).grownBy w1 (Value.slice P D.length c).ownBlock → w1.ownsRow 0 198 3 (.slice (some ⟨g, 0, none⟩) (D.length + 1) cap) (D.length + 1) (D.flatMap nV ++ [.int .i64 (i : Int), .bool true, .slice none 0 0]) → ((Value.slice P D.length c).ownBlock = some g ∨ g = w.heap.size + 1) →
   Mid F V t S i w g cap D d (w1.setCell ⟨t, 1, none⟩ (.slice (some ⟨g, 0, none⟩) (D.length + 1) cap)) := by
  intro g cap w1 hg ho hat
  have hp := HX.out.push (i : Int) true HB.out ho hg (hat.imp id (by omega))
  exact ⟨hp.1, hp.2, by rw [List.getElem?_append_left c4]; exact HD.out, HT.out.wf, HO.out, HD.out, hin, hn⟩
 have KEY := Lib.hid key
 clear key
 go_enter Tryz.func78, Tryz.ntmps78
 go_wp2_with fail
 refine H.out.mono ?_
 rintro e w' ⟨rfl, rfl⟩
 go_wp2_with (at_builtin; first | (refine wpList_append_lies _ rfl (.tmp 44) (.tmp 48) 118 rfl 0 198 i0 _ 3 40 Tryz.underlying118 hi hz0 hz1 hz2 rfl (by omega) (.slice P D.length c) D.length (D.flatMap nV) rfl (row_later HX.out.own HB.out) ⟨w.heap.size, 0, none⟩ 1 1 [.int .i64 (i : Int), .bool true, .slice none 0 0] rfl rfl (World.news_of_block (cs := #[.int .i64 (i : Int), .bool true, .slice none 0 0]) (heap_alloc_new w _)) (nd_cell _ _) (by omega) (by unfold maxLen; omega) (by omega) (by omega) (w.heap.size + 1) (by first | (simp; done) | (simp; rfl)) ?_; intro g cap w1 hown hgrow hat hlt1; have HM := Lib.hid (KEY.out g cap w1 hgrow hown hat); have hc1 := (HX.out.pushed HB.out hgrow).1; have hf1 := (HX.out.pushed HB.out hgrow).2; have hs1 := HM.out.tx.c0; have hk1 := (HM.out.tx.cells rfl HM.out.at').2.2; clear hown hgrow hat hlt1 h0 hfa) | go_loud (refine wpList_append_lies _ rfl (.tmp 63) (.tmp 65) 111 rfl 0 3 i3 _ 1 8 Tryz.underlying111 hi3 hy0 hy1 hy2 rfl (by omega) (.slice d.P d.ks.length d.c) d.ks.length (iV d.ks) rfl (row_later (HM.out.tx.kid i d HM.out.at') (below_al _ _)) ⟨w1.heap.size, 0, none⟩ 1 1 [.int .i64 (D.length : Int)] rfl rfl (World.news_of_block (cs := #[.int .i64 (D.length : Int)]) (heap_alloc_set _ _ _ _)) (int_cell _) (by omega) (by unfold maxLen; omega) (by omega) (by omega) (w1.heap.size + 1) (by first | (simp; done) | (simp [size_set]; done)) ?_; intro g2 cap2 w2 hown hgrow hat hlt1; have HE := Lib.hid (HM.out.done (below_al _ _) hown hgrow (hat.imp id (fun e => by rw [size_set]; omega))); have hc2 := (HM.out.cells (below_al _ _) hgrow).1; have hf2 := (HM.out.cells (below_al _ _) hgrow).2; clear hown hgrow hat hlt1 hs1 hk1 hc1 hf1))
 go_wp2_with fail
 go_ret2
 exact HE.out
end
end Go.Proofs.YtdpapnfjpefhkaaGreat.Tr
