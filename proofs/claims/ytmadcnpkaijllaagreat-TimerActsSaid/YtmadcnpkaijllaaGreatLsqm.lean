/- A region that draws its order: what holds of it as a whole, reckoned once. Conditions: each theorem's own premises.
The document's own timers in memory; what period answers. Conditions: each theorem's own premises.
The document's own timers: Stop. Conditions: each theorem's own premises. -/
import Derived.Test.YtmadcnpkaijllaaGreatTmsm
import Derived.Test.YtmadcnpkaijllaaGreatQrm
namespace Go.Proofs.YtmadcnpkaijllaaGreat
open Go.RowKit
set_option linter.unusedVariables false
set_option maxRecDepth 100000
section
variable {P : Program} {ops : Array Oper} {Q : Exit → Act → World → Prop} {md : Region.Mode} {S : World → Prop} {L : Nat}
/-- Number i may come up. -/
def oneB (md : Region.Mode) (ops : Array Oper) (listed : Array Bool) (i : Nat) : Bool :=
  !listed.getD i true && ((ops[i]?).map (·.after.all fun e => !Region.binds md e || listed.getD e.on false)).getD false
theorem one_ready {i : Nat} {oi : Oper} {listed : Array Bool} (hi : ops[i]? = some oi) (h : oneB md ops listed i = true) : i ∈ Region.ready md ops listed := by
  unfold Region.ready
  rw [List.mem_filter, List.mem_range]
  exact ⟨(Array.getElem?_eq_some_iff.1 hi).1, h⟩
/-- Of any two that do not wait for each other none touches the other's result. -/
def tidyB (md : Region.Mode) (ops : Array Oper) : Bool :=
  Region.noSelect ops && (List.range ops.size).all fun i => (List.range ops.size).all fun j => i == j || match ops[i]?, ops[j]? with
    | some oi, some oj => oj.after.any (fun e => Region.binds md e && e.on == i) || (oi.after.any (fun e => Region.binds md e && e.on == j) || oi.apart ops oj)
    | _, _ => true
theorem tidy_free {i : Nat} {oi : Oper} {listed : Array Bool} (hT : tidyB md ops = true) (hi : ops[i]? = some oi) (hr : i ∈ Region.ready md ops listed) (j : Nat) (oj : Oper)
    (hj : ops[j]? = some oj) (hne : j ≠ i) (hun : listed.getD j true = false) (hno : ∀ e ∈ oj.after, Region.binds md e = true → e.on ≠ i) : oi.apart ops oj = true := by
  unfold tidyB at hT
  rw [Bool.and_eq_true] at hT
  have h1 := hT.2
  rw [List.all_eq_true] at h1
  have h2 := h1 i (List.mem_range.2 (Array.getElem?_eq_some_iff.1 hi).1)
  rw [List.all_eq_true] at h2
  have h3 := h2 j (List.mem_range.2 (Array.getElem?_eq_some_iff.1 hj).1)
  simp only [hi, hj, Bool.or_eq_true, beq_iff_eq] at h3
  rcases h3 with e | h3 | h3 | h3
  · exact absurd e.symm hne
  · obtain ⟨e, he, hb⟩ := Array.any_eq_true'.1 h3
    simp only [Bool.and_eq_true, beq_iff_eq] at hb
    exact absurd hb.2 (hno e he hb.1)
  · obtain ⟨e, he, hb⟩ := Array.any_eq_true'.1 h3
    simp only [Bool.and_eq_true, beq_iff_eq] at hb
    obtain ⟨_, o, ho, hall⟩ := mem_ready.1 hr
    rw [hi] at ho
    obtain rfl : oi = o := by injection ho
    have h4 := hall e he hb.1
    rw [hb.2] at h4
    rcases Nat.lt_or_ge j listed.size with h' | h'
    · simp [h'] at h4 hun; rw [hun] at h4; cases h4
    · simp [Array.getElem?_eq_none h'] at h4
  · exact h3
/-- Number i is taken first: by what holds of the region as a whole. -/
theorem but_takeQ {i : Nat} {oi : Oper} {v : Value} {f : Nat} {listed : Array Bool} {a : Act} {w : World} (hi : ops[i]? = some oi) (hT : tidyB md ops = true) (hw : waitB md ops L i = true)
    (hr : oneB md ops listed i = true) (hQ : ∀ c a w, Q (.panic c) (a.put oi.dst v) w → Q (.panic c) a w) (hy : YieldsIf P ops S oi v a) (hS : S w)
    (h : AnyBut P md ops Q S L f (listed.setIfInBounds i true) (a.put oi.dst v) w) : AnyBut P md ops Q S L (f + 1) listed a w :=
  took hi (by unfold tidyB at hT; rw [Bool.and_eq_true] at hT; exact hT.1) hw hQ f listed a w (tidy_free hT hi (one_ready hi hr)) (one_ready hi hr) hy hS h
theorem but_startQ {id : Nat} {a : Act} {w : World} (L : Nat) (S : World → Prop) (hm : P.follows .mixedOrders = true) (hT : tidyB .any ops = true) (h : tidyB .any ops = true → AnyBut P .any ops Q S L ops.size (Array.replicate ops.size false) a w.drew) : (Code.region id ops true).wp P Q a w :=
  wp_region_any hm (AnyBut.any _ _ _ _ (h hT))
end
end Go.Proofs.YtmadcnpkaijllaaGreat
namespace Go.Proofs.YtmadcnpkaijllaaGreat
open Go.RowKit
set_option linter.unusedVariables false
set_option maxRecDepth 100000
/-- Those that have a period are those that are armed. -/
structure Pq (Q S : List It) (g : Int → Int) : Prop where
  nd : (ids Q).Nodup
  mm : ∀ k, k ∈ ids Q ↔ k ∈ ids S
  pr : ∀ x ∈ Q, x.w = g x.id
theorem mem_del_ids {k j : Int} {S : List It} : j ∈ ids (del k S) ↔ j ∈ ids S ∧ j ≠ k := by rw [ids_del]; simp
theorem Pq.del {Q S : List It} {g : Int → Int} (h : Pq Q S g) (k : Int) : Pq (YtmadcnpkaijllaaGreat.del k Q) (YtmadcnpkaijllaaGreat.del k S) (fput g k 0) :=
  ⟨nd_del h.nd, fun j => by rw [mem_del_ids, mem_del_ids, h.mm j], fun x hx => by
    have := del_mem.1 hx
    rw [fput_ne this.2]; exact h.pr x this.1⟩
theorem Pq.add {Q S : List It} {g : Int → Int} (h : Pq Q S g) (k t p s : Int) (hk : k ∉ ids S) : Pq (Q ++ [⟨k, p, 0⟩]) (ins ⟨k, t, s⟩ S) (fput g k p) := by
  have hq : k ∉ ids Q := fun e => hk ((h.mm k).1 e)
  have e1 : ids (Q ++ [⟨k, p, 0⟩]) = ids Q ++ [k] := by simp [ids]
  refine ⟨?_, fun j => ?_, fun x hx => ?_⟩
  · rw [e1, List.nodup_append]
    exact ⟨h.nd, by simp, fun a ha b hb e => by simp at hb; subst hb; subst e; exact hq ha⟩
  · rw [e1, List.mem_append, List.mem_singleton, ids_ins.mem_iff, List.mem_cons, h.mm j]
    exact or_comm
  · rw [List.mem_append, List.mem_singleton] at hx
    rcases hx with hx | rfl
    · have : x.id ≠ k := fun e => hq (by rw [← e]; exact mem_ids hx)
      rw [fput_ne this]; exact h.pr x hx
    · exact (fput_at _ _ _).symm
theorem Pq.len {Q S : List It} {g : Int → Int} (h : Pq Q S g) (hS : (ids S).Nodup) : Q.length = S.length := by
  have := ((List.perm_ext_iff_of_nodup h.nd hS).2 h.mm).length_eq
  rwa [ids_len, ids_len] at this
theorem Pq.same {Q S : List It} {g g' : Int → Int} (h : Pq Q S g) (e : g = g') : Pq Q S g' := e ▸ h
/-- Nothing but block m and the periods' has turned. -/
structure KT (m : Nat) (p p' : Option Nat) (w w' : World) : Prop where
  os : w'.os = w.os
  tape : w'.tape = w.tape
  output : w'.output = w.output
  size : w.heap.size ≤ w'.heap.size
  block : ∀ k, k < w.heap.size → k ≠ m → p ≠ some k → w'.heap[k]? = w.heap[k]?
  new : p' = p ∨ ∀ k, p' = some k → w.heap.size ≤ k
theorem KT.trans {m : Nat} {p p' p'' : Option Nat} {u v w : World} (h : KT m p p' u v) (k : KT m p' p'' v w) : KT m p p'' u w := by
  have h0 := h.size
  refine ⟨k.os.trans h.os, k.tape.trans h.tape, k.output.trans h.output, Nat.le_trans h.size k.size, fun i h1 h2 h4 => (k.block i (by omega) h2 (fun e => ?_)).trans (h.block i h1 h2 h4), ?_⟩
  · rcases h.new with h5 | h5
    · exact h4 (h5.symm.trans e)
    · have := h5 i e; omega
  · rcases k.new with h6 | h6
    · subst h6; exact h.new
    · exact .inr fun i hi => by have := h6 i hi; omega
theorem KT.of_below {m : Nat} (p : Option Nat) {w w' : World} (h : Below w.heap.size w w') : KT m p p w w' := ⟨h.os, h.tape, h.output, h.size, fun k hk _ _ => h.block k hk, .inl rfl⟩
theorem KT.of_km {m : Nat} (p : Option Nat) {w w' : World} (h : Km m w w') : KT m p p w w' := ⟨h.os, h.tape, h.output, h.size, fun k hk h1 _ => h.block k hk h1, .inl rfl⟩
theorem set_two (a b c : Value) (v : Value) : (#[a, b, c] : Array Value).setIfInBounds 2 v = #[a, b, v] := rfl
/-- Block m is the document's timers: its heap's slice A, its periods' P. -/
structure MY (B m : Nat) (rA rN : Value) (A : Option Addr) (c : Nat) (P : Option Addr) (c2 n : Nat) (S Q : List It) (w : World) : Prop where
  mx : MX [.slice P Q.length c2, rA, rN] 35 B w m n A c S
  row : w.ownsRow B 94 3 (.slice P Q.length c2) Q.length (iV Q)
  ap : 0 < S.length → ∀ k, blk P = some k → blk A ≠ some k
def MT (B m : Nat) (rA rN : Value) (p : Option Nat) (n : Nat) (S : List It) (g : Int → Int) (w : World) : Prop :=
  ∃ A c P c2 Q, blk P = p ∧ MY B m rA rN A c P c2 n S Q w ∧ Pq Q S g
/-- What is answered, and what they have come to be. -/
def MC (B m : Nat) (rA rN : Value) (p : Option Nat) (n : Nat) (S : List It) (g : Int → Int) (v : Value) (w : World) (e : Ending) (w' : World) : Prop :=
  e = .returned v ∧ ∃ p', MT B m rA rN p' n S g w' ∧ KT m p p' w w'
section
variable {B m n c d2 : Nat} {rA rN : Value} {w w' w'' w1 w9 : World} {A P : Option Addr} {p p' : Option Nat} {S Q S' Q' : List It} {g g' : Int → Int} {e : Ending} {v : Value}
theorem MY.c0 (h : MY B m rA rN A c P d2 n S Q w) : w.cell? ⟨m, 0, none⟩ = some (.slice A S.length c) := h.mx.c0
theorem MY.c2 (h : MY B m rA rN A c P d2 n S Q w) : w.cell? ⟨m, 2, none⟩ = some (.slice P Q.length d2) := by rw [cell_of_row w m 2 _ _ _ h.mx.hb]; rfl
theorem MY.lt (h : MY B m rA rN A c P d2 n S Q w) : m < w.heap.size := h.mx.lt
theorem MY.later (h : MY B m rA rN A c P d2 n S Q w) (hb : Below w.heap.size w w') : MY B m rA rN A c P d2 n S Q w' := ⟨h.mx.later hb, row_later h.row hb, h.ap⟩
theorem MY.ot (h : MY B m rA rN A c P d2 n S Q w) (f : OX w w') : MY B m rA rN A c P d2 n S Q w' := ⟨h.mx.ot f, f.row h.row (by decide) (by decide), h.ap⟩
theorem MT.later (h : MT B m rA rN p n S g w) (hb : Below w.heap.size w w') : MT B m rA rN p n S g w' := by
  obtain ⟨A, c, P, c2, Q, e, h1, h2⟩ := h
  exact ⟨A, c, P, c2, Q, e, h1.later hb, h2⟩
theorem MT.ot (h : MT B m rA rN p n S g w) (f : OX w w') : MT B m rA rN p n S g w' := by
  obtain ⟨A, c, P, c2, Q, e, h1, h2⟩ := h
  exact ⟨A, c, P, c2, Q, e, h1.ot f, h2⟩
theorem MT.lt (h : MT B m rA rN p n S g w) : m < w.heap.size := by obtain ⟨A, c, P, c2, Q, e, h1, h2⟩ := h; exact h1.lt
theorem MT.lo (h : MT B m rA rN p n S g w) : B ≤ m := by obtain ⟨A, c, P, c2, Q, e, h1, h2⟩ := h; exact h1.mx.lo
theorem MT.lp (h : MT B m rA rN p n S g w) {k : Nat} (hk : p = some k) : B ≤ k ∧ k < w.heap.size := by obtain ⟨A, c, P, c2, Q, e, h1, h2⟩ := h; exact row_lt h1.row (e.trans hk)
theorem MT.tm (h : MT B m rA rN p n S g w) : ∃ cs, w.heap[m]? = some (.cells cs 35 (0, 0)) := by obtain ⟨A, c, P, c2, Q, e, h1, h2⟩ := h; exact ⟨_, h1.mx.hb⟩
theorem MT.tp (h : MT B m rA rN p n S g w) {k : Nat} (hk : p = some k) : ∃ cs fr, w.heap[k]? = some (.cells cs 94 fr) := by obtain ⟨A, c, P, c2, Q, e, h1, h2⟩ := h; exact row_tag h1.row (e.trans hk)
theorem MT.low (h : MT B m rA rN p n S g w) (hB : B ≤ w.heap.size) (hc : KT m p p' w w') : Below B w w' := by
  have := h.lo
  exact ⟨hc.os, hc.tape, hc.output, hc.size, fun k hk => hc.block k (by omega) (by omega) fun e => by have := (h.lp e).1; omega⟩
theorem MT.go (h : MT B m rA rN p n S g w) (hc : KT m p p' w w') : MC B m rA rN p n S g v w e w' → e = .returned v := fun h => h.1
/-- A row of the call's own, elsewhere, stands. -/
theorem row_kt {e s N c B' : Nat} {P' : Option Addr} {xs : List Value} (r : w.ownsRow B' e s (.slice P' N c) N xs) (hc : KT m p p' w w') (h1 : ∀ k, blk P' = some k → k ≠ m ∧ p ≠ some k) : w'.ownsRow B' e s (.slice P' N c) N xs :=
  row_keep r fun k hk => hc.block k (row_lt r hk).2 (h1 k hk).1 (h1 k hk).2
/-- Behind a call of its heap. -/
theorem MY.heap (h : MY B m rA rN A c P d2 n S Q w) {n' : Nat} (hr : MR [.slice P Q.length d2, rA, rN] 35 B m n' S' v w e w') (hS : S'.length = 0 ∨ 0 < S.length ∨ w'.cell? ⟨m, 0, none⟩ ≠ w.cell? ⟨m, 0, none⟩) : ∃ A' c', MY B m rA rN A' c' P d2 n' S' Q w' := by
  obtain ⟨h1, ⟨A', c', hx⟩, hk, hf⟩ := hr
  have tagm : ∀ k, blk P = some k → k ≠ m := fun k hk e => by
    obtain ⟨cs, fr, ht⟩ := row_tag h.row hk
    have h5 := h.mx.hb
    rw [e, h5] at ht; injection ht with ht; injection ht with _ ht _; cases ht
  refine ⟨A', c', hx, row_keep h.row fun k hk2 => hk.block k (row_lt h.row hk2).2 (tagm k hk2), fun h0 k hk2 e => ?_⟩
  rcases hf with hf | hf
  · have := hf A' _ c' hx.c0 h0 k e
    have := (row_lt h.row hk2).2
    omega
  · rcases hS with hS | hS | hS
    · omega
    · have e1 := hf
      rw [hx.c0, h.c0] at e1
      injection e1 with e1
      injection e1 with e2 _ _
      subst e2
      exact h.ap hS k hk2 e
    · exact hS hf
/-- Its periods are others, in a new row. -/
theorem MY.other (h : MY B m rA rN A c P d2 n S Q w) (hb : Below w.heap.size w w9) {a : Option Addr} {N c9 : Nat} (ho : w9.ownsRow w.heap.size 94 3 (.slice a N c9) N (iV Q')) (hN : N = Q'.length) :
    MY B m rA rN A c a c9 n S Q' (w9.setCell ⟨m, 2, none⟩ (.slice a N c9)) ∧ KT m (blk P) (blk a) w (w9.setCell ⟨m, 2, none⟩ (.slice a N c9)) := by
  subst hN
  have h9 := h.later hb
  have key : ∀ k, k ≠ m → (w9.setCell ⟨m, 2, none⟩ (.slice a Q'.length c9)).heap[k]? = w9.heap[k]? := fun k hk => Below.heap_setCell _ _ _ _ (by exact hk)
  have hlt := h.lt
  have hs := hb.size
  refine ⟨⟨⟨?_, h9.mx.wn.keep fun g cur _ hg => (key g ?_).trans hg, h9.mx.lo, h9.mx.nn, h9.mx.ty⟩, ?_, fun h0 k hk e => ?_⟩, ⟨hb.os, hb.tape, hb.output, by simpa [World.setCell] using hs, fun k hk h1 _ => (key k h1).trans (hb.block k hk), .inr fun k hk => (row_lt ho hk).1⟩⟩
  · rw [heap_setCell_same _ m 2 _ _ _ h9.mx.hb]; rfl
  · rintro rfl
    rw [h9.mx.hb] at hg; injection hg with hg; injection hg with _ hg _; cases hg
  · have r : (w9.setCell ⟨m, 2, none⟩ (.slice a Q'.length c9)).ownsRow w.heap.size 94 3 (.slice a Q'.length c9) Q'.length (iV Q') := row_keep ho fun k hk => key k (by have := (row_lt ho hk).1; omega)
    refine ⟨r.1, r.2.imp id fun ⟨g, cap, cur, q1, q2, q3⟩ => ⟨g, cap, cur, q1, by have := h.mx.lo; omega, q3⟩⟩
  · obtain ⟨g, off, e1, _, e3, _⟩ := h.mx.wn.cells h0
    have := (row_lt ho hk).1
    rw [e1] at e
    injection e with e
    have e4 : g = k := e
    omega
/-- One more period. -/
theorem MY.app {wx : World} {gB cap : Nat} {x : It} (h : MY B m rA rN A c P d2 n S Q w) (hx : Below w.heap.size w wx) (hown : w1.ownsRow B 94 3 (.slice (some ⟨gB, 0, none⟩) (Q.length + 1) cap) (Q.length + 1) (iV Q ++ eI x)) (hg : wx.grownBy w1 (Value.slice P Q.length d2).ownBlock) (hat : (Value.slice P Q.length d2).ownBlock = some gB ∨ w.heap.size ≤ gB) :
    MY B m rA rN A c (some ⟨gB, 0, none⟩) cap n S (Q ++ [x]) (w1.setCell ⟨m, 2, none⟩ (.slice (some ⟨gB, 0, none⟩) (Q.length + 1) cap)) ∧ KT m (blk P) (some gB) w (w1.setCell ⟨m, 2, none⟩ (.slice (some ⟨gB, 0, none⟩) (Q.length + 1) cap)) := by
  rw [own_blk] at hg hat
  have hs := hx.size
  have hlt := h.lt
  have tagm : ∀ k, blk P = some k → k ≠ m := fun k hk e => by
    obtain ⟨cs, fr, ht⟩ := row_tag h.row hk
    have h5 := h.mx.hb
    rw [e, h5] at ht; injection ht with ht; injection ht with _ ht _; cases ht
  have key : ∀ k, k ≠ m → (w1.setCell ⟨m, 2, none⟩ (.slice (some ⟨gB, 0, none⟩) (Q.length + 1) cap)).heap[k]? = w1.heap[k]? := fun k hk => Below.heap_setCell _ _ _ _ (by exact hk)
  have old : ∀ k, k < w.heap.size → blk P ≠ some k → w1.heap[k]? = w.heap[k]? := fun k hk hne => (hg.block k (by omega) (fun e => hne e.symm)).trans (hx.block k hk)
  have hm1 : w1.heap[m]? = w.heap[m]? := old m hlt fun e => tagm m e rfl
  have hgm : gB ≠ m := by
    rcases hat with e | e
    · exact tagm gB e
    · omega
  have e1 : (Q ++ [x]).length = Q.length + 1 := by simp
  refine ⟨⟨⟨?_, ?_, h.mx.lo, h.mx.nn, h.mx.ty⟩, ?_, fun h0 k hk e => ?_⟩, ⟨hg.os.trans hx.os, hg.tape.trans hx.tape, hg.output.trans hx.output, ?_, fun k hk h1 h2 => (key k h1).trans (old k hk h2), ?_⟩⟩
  · rw [heap_setCell_same _ m 2 _ _ _ (hm1.trans h.mx.hb), e1]; rfl
  · refine ⟨h.mx.wn.1, h.mx.wn.2.1, h.mx.wn.2.2.1, fun h0 => ?_⟩
    obtain ⟨g, off, cur, q1, q2, q3, q4⟩ := h.mx.wn.2.2.2 h0
    have q5 : blk P ≠ some g := fun e => h.ap h0 g e (by rw [q1]; rfl)
    have q6 : g ≠ m := by
      rintro rfl
      rw [h.mx.hb] at q3; injection q3 with q3; injection q3 with _ q3 _; cases q3
    have q7 := (key g q6).trans (old g (lt_of_blk q3) q5)
    exact ⟨g, off, cur, q1, q2, q7.trans q3, fun j u hu => (cell_blk q7 _).trans (q4 j u hu)⟩
  · rw [e1, show iV (Q ++ [x]) = iV Q ++ eI x by rw [← iV_app]; simp [iV]]
    exact row_keep hown fun k hk => by injection hk with hk; subst hk; exact key _ hgm
  · injection hk with hk
    subst hk
    rcases hat with h1 | h1
    · exact h.ap h0 gB h1 e
    · obtain ⟨g, off, e2, _, e3, _⟩ := h.mx.wn.cells h0
      rw [e2] at e
      injection e with e
      have e4 : g = gB := e
      omega
  · have := hg.size
    simp [World.setCell]; omega
  · rcases hat with h1 | h1
    · exact .inl h1.symm
    · exact .inr fun k hk => by injection hk with hk; subst hk; exact h1
/-- The cells of a period. -/
theorem MY.at (h : MY B m rA rN A c P d2 n S Q w) {j : Nat} {x : It} (hx : Q[j]? = some x) : ∃ g, P = some ⟨g, 0, none⟩ ∧ g < w.heap.size ∧ w.cell? ⟨g, j * 3, none⟩ = some (.int .i64 x.id) ∧ w.cell? ⟨g, j * 3 + 1, none⟩ = some (.int .i64 x.w) := by
  have hj := at_lt hx
  obtain ⟨g, rfl, hc⟩ := row_form h.row (by omega)
  refine ⟨g, rfl, (row_lt h.row rfl).2, ?_, ?_⟩
  · rw [h.row.cellAt (j * 3) (by omega)]; exact iV_at hx 0 (by omega)
  · rw [h.row.cellAt (j * 3 + 1) (by omega)]; exact iV_at hx 1 (by omega)
set_option maxHeartbeats 4000000 in
theorem rper_yes {k : Int} (h : MT B m rA rN p n S g w) (hk : k ∈ ids S) (hS : (ids S).Nodup) (hl : S.length ≤ 1000) : Calls Tryz.prog 85 #[.pointer (some ⟨m, 0, none⟩), .int .i64 k] w fun e w' => e = .returned (.int .i64 (g k)) ∧ w = w' := by
  obtain ⟨A, c, P, c2, Q, e0, h1, h2⟩ := h
  have hlq : Q.length ≤ 1000 := by rw [h2.len hS]; exact hl
  obtain ⟨i, x, hx, hxk⟩ := ids_mem ((h2.mm k).2 hk)
  have hg : x.w = g k := by rw [h2.pr x (at_mem hx), hxk]
  have hil := at_lt hx
  have c2' := h1.c2
  have HY := Lib.hid h1
  have HP := Lib.hid (And.intro h2.nd hx)
  have HK := Lib.hid hxk
  rw [← hg]
  clear h1 h2 hk hl hx hxk hg hS
  go_enter Tryz.func85, Tryz.ntmps85
  go_wp2_with fail
  go_loopw [5] (fun i' wr => ∃ j : Nat, j ≤ i ∧ i' = .int .i64 j ∧ wr = w) (fun i' _ => Q.length - (intOf i').toNat)
  case atStart => exact ⟨0, by omega, rfl, rfl⟩
  case round =>
    obtain ⟨j, hj, rfl, rfl⟩ := hrel
    have hlt : j < Q.length := by omega
    obtain ⟨y, hyj⟩ := ex_at hlt
    obtain ⟨g9, rfl, hg9, y0, y1⟩ := HY.out.at hyj
    have k1 : (j : Int) < (Q.length : Int) := by omega
    have b1 : IntKind.i64.wrap ((j : Int) + 1) = (j : Int) + 1 := by rw [IntKind.wrap_i64]; omega
    by_cases hji : j = i
    · subst hji
      have e : y = x := by have h1 := HP.out.2; rw [hyj] at h1; injection h1
      have k2 : y.id = k := by rw [e]; exact HK.out
      have e9 : x.w = y.w := by rw [e]
      have HE9 := Lib.hid e9
      clear hyj e e9
      go_wp2_with fail
      go_ret
      exact ⟨by rw [HE9.out]; rfl, rfl⟩
    · have k2 : ¬ y.id = k := fun e => hji (ids_inj HP.out.1 hyj HP.out.2 (e.trans HK.out.symm))
      clear hyj
      go_wp2_with fail
      go_roundw
      case rel => exact ⟨j + 1, by omega, by go_num, by first | rfl | trivial⟩
      case measure => simp [intOf]; omega
end
end Go.Proofs.YtmadcnpkaijllaaGreat
namespace Go.Proofs.YtmadcnpkaijllaaGreat
open Go.RowKit
set_option linter.unusedVariables false
set_option maxRecDepth 100000
section
variable {B m n : Nat} {rA rN : Value} {w w' : World} {p p' : Option Nat} {S S' : List It} {g g' : Int → Int} {e : Ending} {v : Value}
set_option maxHeartbeats 8000000 in
theorem rstop_no {k : Int} (h : MT B m rA rN p n S g w) (hS : Ok n S) (hk : k ∉ ids S) (hl : S.length ≤ 1000) : Calls Tryz.prog 59 #[.pointer (some ⟨m, 0, none⟩), .int .i64 k] w (MC B m rA rN p n S g (.bool false) w) := by
  obtain ⟨A, c, P, c2, Q, rfl, h1, h2⟩ := h
  have hlq : Q.length ≤ 1000 := by rw [h2.len hS.ids]; exact hl
  have hkq : k ∉ ids Q := fun e => hk ((h2.mm k).1 e)
  have HX : Hid (MH [.slice P Q.length c2, rA, rN] 35 B w m n S) := ⟨A, c, h1.mx⟩
  have H1 := Lib.hid h1
  have H2 := Lib.hid h2
  have hml := h1.lt
  clear h1 h2 hS
  go_enter Tryz.func59, Tryz.ntmps59
  go_wp2_with fail
  refine (rrem_no HX.out hk hl).mono ?_
  rintro e w1 hr
  obtain ⟨A', c', hy⟩ := H1.out.heap hr (by omega)
  have HK2 := Lib.hid ((KT.of_km (blk P) hr.2.2.1).trans (KT.of_below (blk P) (below_al w1 (.cells #[.int .i64 0, .int .i64 0, .int .i64 0] 94))))
  obtain rfl := hr.1
  have HY := Lib.hid (hy.later (below_al w1 (.cells #[.int .i64 0, .int .i64 0, .int .i64 0] 94)))
  clear hr hy H1 HX hk
  go_upto_region 2 with (fail)
  have e8 : w1.alloc (.cells #[.int .i64 zI.id, .int .i64 zI.w, .int .i64 zI.s] 94) = w1.alloc (.cells #[.int .i64 0, .int .i64 0, .int .i64 0] 94) := rfl
  try rw [e8]
  clear e8
  generalize w1.alloc (.cells #[.int .i64 0, .int .i64 0, .int .i64 0] 94) = w2 at *
  have c2' := HY.out.c2
  go_wp2_with fail
  go_loopw [7] (fun u wr => ∃ j : Nat, j ≤ Q.length ∧ u = .int .i64 j ∧ wr = w2) (fun u _ => Q.length - (intOf u).toNat)
  case atStart => exact ⟨0, by omega, rfl, rfl⟩
  case round =>
    obtain ⟨j, hj, rfl, rfl⟩ := hrel
    by_cases hlt : j < Q.length
    · obtain ⟨y, hyj⟩ := ex_at hlt
      obtain ⟨g9, rfl, hg9, y0, y1⟩ := HY.out.at hyj
      have k1 : (j : Int) < (Q.length : Int) := by omega
      have k0 : (0 : Int) ≤ (j : Int) := by omega
      have b1 : IntKind.i64.wrap ((j : Int) + 1) = (j : Int) + 1 := by rw [IntKind.wrap_i64]; omega
      have k2 : ¬ y.id = k := fun e => hkq (by rw [← e]; exact mem_ids (at_mem hyj))
      clear hyj
      go_wp2_with fail
      go_roundw
      case rel => exact ⟨j + 1, by omega, by go_num, by first | rfl | trivial⟩
      case measure => simp [intOf]; omega
    · obtain rfl : j = Q.length := by omega
      have k1 : ¬ (Q.length : Int) < (Q.length : Int) := by omega
      go_wp2_with fail
      go_ret
      exact ⟨rfl, blk P, ⟨_, _, _, _, _, rfl, HY.out, H2.out⟩, HK2.out⟩
set_option maxHeartbeats 16000000 in
theorem rstop_yes {x : It} (h : MT B m rA rN p n S g w) (hS : Ok n S) (hx : x ∈ S) (hl : S.length ≤ 1000) (hB : B ≤ w.heap.size) : Calls Tryz.prog 59 #[.pointer (some ⟨m, 0, none⟩), .int .i64 x.id] w (MC B m rA rN p n (del x.id S) (fput g x.id 0) (.bool true) w) := by
  obtain ⟨A, c, P, c2, Q, rfl, h1, h2⟩ := h
  have hlq : Q.length ≤ 1000 := by rw [h2.len hS.ids]; exact hl
  obtain ⟨q, hq, hql⟩ := mem_at hx
  obtain ⟨i, y, hy, hyk⟩ := ids_mem ((h2.mm x.id).2 (mem_ids hx))
  have hil := at_lt hy
  have HX : Hid (MH [.slice P Q.length c2, rA, rN] 35 B w m n S) := ⟨A, c, h1.mx⟩
  have H1 := Lib.hid h1
  have HPq := Lib.hid (h2.del x.id)
  have HP := Lib.hid (And.intro h2.nd hy)
  have HI := Lib.hid hyk
  have HD : Hid (del x.id Q = Q.take i ++ Q.drop (i + 1)) := by show _ = _; rw [del_at h2.nd hy hyk, List.eraseIdx_eq_take_drop_succ]
  have HS := Lib.hid (And.intro hS.ids hq)
  have hpos : 0 < S.length := by omega
  have hml := h1.lt
  clear h1 h2 hS hx hq hy hyk
  go_enter Tryz.func59, Tryz.ntmps59
  go_wp2_with fail
  refine (rrem_yes HX.out HS.out.1 HS.out.2 hl hB).mono ?_
  rintro e w1 hr
  obtain ⟨A', c', hy⟩ := H1.out.heap hr (.inr (.inl hpos))
  have HK2 := Lib.hid ((KT.of_km (blk P) hr.2.2.1).trans (KT.of_below (blk P) (below_al w1 (.cells #[.int .i64 x.id, .int .i64 x.w, .int .i64 x.s] 94))))
  obtain rfl := hr.1
  have HY := Lib.hid (hy.later (below_al w1 (.cells #[.int .i64 x.id, .int .i64 x.w, .int .i64 x.s] 94)))
  clear hr hy H1 HX HS
  go_upto_region 2 with (fail)
  generalize w1.alloc (.cells #[.int .i64 x.id, .int .i64 x.w, .int .i64 x.s] 94) = w2 at *
  have hwn : Wn w2 B P Q.length c2 Q := by
    obtain ⟨A0, c9, hv0, hwn0, -⟩ := Wn.of_own (base := B) rfl HY.out.row
    injection hv0 with e1 e2 e3
    rw [e1, e3]; exact hwn0
  have HW := Lib.hid hwn
  obtain ⟨gw, off, rfl, -, hgw, hc⟩ := hwn.cells (by omega)
  have HC := Lib.hid hc
  have hlc := hwn.2.1
  have hcm := hwn.2.2.1
  clear hwn hc
  generalize hkk : x.id = k at *
  have c2' := HY.out.c2
  go_wp2_with fail
  go_loopw [7] (fun u wr => ∃ j : Nat, j ≤ i ∧ u = .int .i64 j ∧ wr = w2) (fun u _ => Q.length - (intOf u).toNat)
  case atStart => exact ⟨0, by omega, rfl, rfl⟩
  case round =>
    obtain ⟨j, hj, rfl, rfl⟩ := hrel
    generalize wr = w2 at *
    have hlt : j < Q.length := by omega
    obtain ⟨z, hz⟩ := ex_at hlt
    obtain ⟨z0, -, -⟩ := HC.out j z hz
    have k1 : (j : Int) < (Q.length : Int) := by omega
    have k0 : (0 : Int) ≤ (j : Int) := by omega
    have b1 : IntKind.i64.wrap ((j : Int) + 1) = (j : Int) + 1 := by rw [IntKind.wrap_i64]; omega
    by_cases hji : j = i
    · subst hji
      have k2 : z.id = k := by
        have h1 := HP.out.2
        rw [hz] at h1; injection h1 with h1; rw [h1]; exact HI.out
      clear hz
      go_upto_region 6 with (fail)
      clear z0 c2'
      have c2' := HY.out.c2
      have f2 := HY.out.mx.fz 2
      have hm2 := HY.out.lt
      generalize j = i at *
      have p2 : (i : Int) ≤ (c2 : Int) := by omega
      have p3 : (i : Int) + 1 ≤ (Q.length : Int) := by omega
      have p4 : (i : Int) + 1 ≤ (c2 : Int) := by omega
      have p5 : (Q.length : Int) ≤ (c2 : Int) := by omega
      have p6 : (i : Int) ≤ 1000 := by omega
      have hw1 : IntKind.i64.wrap ((i : Int) + 1) = (i : Int) + 1 := by rw [IntKind.wrap_i64]; omega
      have hw2 : (0 : Int) ≤ (i : Int) + 1 := by omega
      have hw3 : ((i : Int) + 1).toNat = i + 1 := by omega
      have e3 := HW.out.drop (k := i + 1) (by omega)
      by_cases hpc : i + 1 < c2
      · have p7 : ¬ c2 = i + 1 := by omega
        have E3 := Lib.hid e3.rd
        clear e3
        have T3 := Lib.hid (HW.out.take (k := i) (by omega)).rd
        have KP : Hid (∀ w', Below w2.heap.size w2 w' → w'.cell? ⟨m, 2, none⟩ = some (.slice (some ⟨gw, off, none⟩) Q.length c2)) := fun w' hb => by
          have h9 := (HY.out.later hb).c2
          skip
          exact h9
        refine but_startQ 19 (fun w' => w'.cell? ⟨m, 2, none⟩ = some (.slice (some ⟨gw, off, none⟩) Q.length c2)) (by kernel_rfl) (by as_aux_lemma => kernel_rfl) ?_
        intro hTidy
        have hHeld := KP.out w2.drew (Below.refl _ _).drew
        change AnyBut _ _ _ _ _ _ 20 _ _ _
        refine but_takeQ (i := 0) (v := ?_) rfl hTidy (by kernel_rfl) (by kernel_rfl) (fun _ _ _ h => h) (Or.inl ⟨by rfl, ?_⟩) hHeld ?_
        rotate_left
        · intro w hSw
          (try dsimp only at hSw)
          go_simp
          try with_reducible rfl
        try simp only [List.getElem_toArray, List.getElem_cons_zero, Act.put, List.setIfInBounds_toArray, List.set_cons_zero, List.set_cons_succ]
        refine but_takeQ (i := 2) (v := ?_) rfl hTidy (by kernel_rfl) (by kernel_rfl) (fun _ _ _ h => h) (Or.inl ⟨by rfl, ?_⟩) hHeld ?_
        rotate_left
        · intro w hSw
          (try dsimp only at hSw)
          go_simp
          try with_reducible rfl
        try simp only [List.getElem_toArray, List.getElem_cons_succ, List.getElem_cons_zero, Act.put, List.setIfInBounds_toArray, List.set_cons_zero, List.set_cons_succ]
        refine but_takeQ (i := 3) (v := ?_) rfl hTidy (by kernel_rfl) (by kernel_rfl) (fun _ _ _ h => h) (Or.inl ⟨by rfl, ?_⟩) hHeld ?_
        rotate_left
        · intro w hSw
          (try dsimp only at hSw)
          go_simp
          try with_reducible rfl
        try simp only [List.getElem_toArray, List.getElem_cons_succ, List.getElem_cons_zero, Act.put, List.setIfInBounds_toArray, List.set_cons_zero, List.set_cons_succ]
        refine but_takeQ (i := 4) (v := ?_) rfl hTidy (by kernel_rfl) (by kernel_rfl) (fun _ _ _ h => h) (Or.inl ⟨by rfl, ?_⟩) hHeld ?_
        rotate_left
        · intro w hSw
          (try dsimp only at hSw)
          go_simp
          try with_reducible rfl
        try simp only [List.getElem_toArray, List.getElem_cons_succ, List.getElem_cons_zero, Act.put, List.setIfInBounds_toArray, List.set_cons_zero, List.set_cons_succ]
        refine but_takeQ (i := 5) (v := ?_) rfl hTidy (by kernel_rfl) (by kernel_rfl) (fun _ _ _ h => h) (Or.inl ⟨by rfl, ?_⟩) hHeld ?_
        rotate_left
        · intro w hSw
          (try dsimp only at hSw)
          go_simp
          try with_reducible rfl
        try simp only [List.getElem_toArray, List.getElem_cons_succ, List.getElem_cons_zero, Act.put, List.setIfInBounds_toArray, List.set_cons_zero, List.set_cons_succ]
        refine but_takeQ (i := 6) (v := ?_) rfl hTidy (by kernel_rfl) (by kernel_rfl) (fun _ _ _ h => h) (Or.inl ⟨by rfl, ?_⟩) hHeld ?_
        rotate_left
        · intro w hSw
          (try dsimp only at hSw)
          go_simp
          try with_reducible rfl
        try simp only [List.getElem_toArray, List.getElem_cons_succ, List.getElem_cons_zero, Act.put, List.setIfInBounds_toArray, List.set_cons_zero, List.set_cons_succ]
        refine but_takeQ (i := 7) (v := ?_) rfl hTidy (by kernel_rfl) (by kernel_rfl) (fun _ _ _ h => h) (Or.inl ⟨by rfl, ?_⟩) hHeld ?_
        rotate_left
        · intro w hSw
          (try dsimp only at hSw)
          go_simp
          try with_reducible rfl
        try simp only [List.getElem_toArray, List.getElem_cons_succ, List.getElem_cons_zero, Act.put, List.setIfInBounds_toArray, List.set_cons_zero, List.set_cons_succ]
        refine but_takeQ (i := 9) (v := ?_) rfl hTidy (by kernel_rfl) (by kernel_rfl) (fun _ _ _ h => h) (Or.inl ⟨by rfl, ?_⟩) hHeld ?_
        rotate_left
        · intro w hSw
          (try dsimp only at hSw)
          go_simp
          try with_reducible rfl
        try simp only [List.getElem_toArray, List.getElem_cons_succ, List.getElem_cons_zero, Act.put, List.setIfInBounds_toArray, List.set_cons_zero, List.set_cons_succ]
        refine but_takeQ (i := 10) (v := ?_) rfl hTidy (by kernel_rfl) (by kernel_rfl) (fun _ _ _ h => h) (Or.inl ⟨by rfl, ?_⟩) hHeld ?_
        rotate_left
        · intro w hSw
          (try dsimp only at hSw)
          go_simp
          try with_reducible rfl
        try simp only [List.getElem_toArray, List.getElem_cons_succ, List.getElem_cons_zero, Act.put, List.setIfInBounds_toArray, List.set_cons_zero, List.set_cons_succ]
        refine but_takeQ (i := 11) (v := ?_) rfl hTidy (by kernel_rfl) (by kernel_rfl) (fun _ _ _ h => h) (Or.inl ⟨by rfl, ?_⟩) hHeld ?_
        rotate_left
        · intro w hSw
          (try dsimp only at hSw)
          go_simp
          try with_reducible rfl
        try simp only [List.getElem_toArray, List.getElem_cons_succ, List.getElem_cons_zero, Act.put, List.setIfInBounds_toArray, List.set_cons_zero, List.set_cons_succ]
        refine but_takeQ (i := 12) (v := ?_) rfl hTidy (by kernel_rfl) (by kernel_rfl) (fun _ _ _ h => h) (Or.inl ⟨by rfl, ?_⟩) hHeld ?_
        rotate_left
        · intro w hSw
          (try dsimp only at hSw)
          go_simp
          try with_reducible rfl
        try simp only [List.getElem_toArray, List.getElem_cons_succ, List.getElem_cons_zero, Act.put, List.setIfInBounds_toArray, List.set_cons_zero, List.set_cons_succ]
        refine but_takeQ (i := 13) (v := ?_) rfl hTidy (by kernel_rfl) (by kernel_rfl) (fun _ _ _ h => h) (Or.inl ⟨by rfl, ?_⟩) hHeld ?_
        rotate_left
        · intro w hSw
          (try dsimp only at hSw)
          go_simp
          try with_reducible rfl
        try simp only [List.getElem_toArray, List.getElem_cons_succ, List.getElem_cons_zero, Act.put, List.setIfInBounds_toArray, List.set_cons_zero, List.set_cons_succ]
        refine but_takeQ (i := 14) (v := ?_) rfl hTidy (by kernel_rfl) (by kernel_rfl) (fun _ _ _ h => h) (Or.inl ⟨by rfl, ?_⟩) hHeld ?_
        rotate_left
        · intro w hSw
          (try dsimp only at hSw)
          go_simp
          try with_reducible rfl
        try simp only [List.getElem_toArray, List.getElem_cons_succ, List.getElem_cons_zero, Act.put, List.setIfInBounds_toArray, List.set_cons_zero, List.set_cons_succ]
        refine but_takeQ (i := 15) (v := ?_) rfl hTidy (by kernel_rfl) (by kernel_rfl) (fun _ _ _ h => h) (Or.inl ⟨by rfl, ?_⟩) hHeld ?_
        rotate_left
        · intro w hSw
          (try dsimp only at hSw)
          go_simp
          try with_reducible rfl
        try simp only [List.getElem_toArray, List.getElem_cons_succ, List.getElem_cons_zero, Act.put, List.setIfInBounds_toArray, List.set_cons_zero, List.set_cons_succ]
        clear hHeld
        refine but_one (i := 1) (by kernel_rfl) rfl ?_
        intro K hK
        go_simp
        refine hK _ _ (fun _ => KP.out _ (by repeat' (first | exact Below.refl _ _ | (with_reducible assumption) | refine Below.drew ?_ | refine Below.alloc ?_ (by first | omega | (simp <;> omega)) _))) ?_
        clear hK K
        try simp only [List.getElem_toArray, List.getElem_cons_succ, List.getElem_cons_zero, Act.put, List.setIfInBounds_toArray, List.set_cons_zero, List.set_cons_succ]
        refine but_one (i := 8) (by kernel_rfl) rfl ?_
        intro K hK
        refine step_copy (w2 := w2) rfl (.tmp 36) (.tmp 42) rfl _ (some ⟨gw, off, none⟩) i c2 (Q.take i) (by rfl) (by rfl) (by first | exact heap_e1 _ | exact heap_e2 _ _ | exact heap_e3 _ _) (by first | omega | (simp <;> omega)) (by repeat' (first | exact Below.refl _ _ | (with_reducible assumption) | refine Below.drew ?_ | refine Below.alloc ?_ (by first | omega | (simp <;> omega)) _)) T3.out (by omega) ?_; intro v7 w7 ho7 hb7 hg7; have HO7 := Lib.hid ho7; have hs7 := hb7.size; clear ho7
        refine hK _ _ (fun _ => KP.out _ (by repeat' (first | exact Below.refl _ _ | (with_reducible assumption) | refine Below.drew ?_ | refine Below.alloc ?_ (by first | omega | (simp <;> omega)) _))) ?_
        clear hK K
        try simp only [List.getElem_toArray, List.getElem_cons_succ, List.getElem_cons_zero, Act.put, List.setIfInBounds_toArray, List.set_cons_zero, List.set_cons_succ]
        refine but_one (i := 16) (by kernel_rfl) rfl ?_
        intro K hK
        refine step_more (w2 := w2) rfl (.tmp 43) (.tmp 50) rfl v7 (some ⟨gw, off + (i + 1) * 3, none⟩) i (Q.length - (i + 1)) (c2 - (i + 1)) (Q.take i) (Q.drop (i + 1)) (by rfl) (by rfl) HO7.out hb7 (E3.out.later hb7) (by omega) (by omega) ?_; intro v9 w9 ho9 hb9; obtain ⟨A9, k9, hv9, _, _⟩ := own_cap ho9; subst hv9; have hx9 := HY.out.later hb9; have c09 := hx9.c2; have f9 := hx9.mx.fz 2; have hl9 := hx9.lt; have HF := Lib.hid (MY.other HY.out hb9 ho9 (by simp only [List.length_append, List.length_take, List.length_drop]; omega)); clear ho9 hx9
        refine hK _ _ (fun _ => KP.out _ (by repeat' (first | exact Below.refl _ _ | (with_reducible assumption) | refine Below.drew ?_ | refine Below.alloc ?_ (by first | omega | (simp <;> omega)) _))) ?_
        clear hK K
        try simp only [List.getElem_toArray, List.getElem_cons_succ, List.getElem_cons_zero, Act.put, List.setIfInBounds_toArray, List.set_cons_zero, List.set_cons_succ]
        refine but_one (i := 17) (by kernel_rfl) rfl ?_
        intro K hK
        go_simp
        refine hK _ _ (fun _ => KP.out _ (by repeat' (first | exact Below.refl _ _ | (with_reducible assumption) | refine Below.drew ?_ | refine Below.alloc ?_ (by first | omega | (simp <;> omega)) _))) ?_
        clear hK K
        try simp only [List.getElem_toArray, List.getElem_cons_succ, List.getElem_cons_zero, Act.put, List.setIfInBounds_toArray, List.set_cons_zero, List.set_cons_succ]
        refine but_one (i := 18) (by kernel_rfl) rfl ?_
        intro K hK
        go_simp
        refine hK _ _ (fun _ => KP.out _ (by repeat' (first | exact Below.refl _ _ | (with_reducible assumption) | refine Below.drew ?_ | refine Below.alloc ?_ (by first | omega | (simp <;> omega)) _))) ?_
        clear hK K
        try simp only [List.getElem_toArray, List.getElem_cons_succ, List.getElem_cons_zero, Act.put, List.setIfInBounds_toArray, List.set_cons_zero, List.set_cons_succ]
        refine but_one (i := 19) (by kernel_rfl) rfl ?_
        intro K hK
        go_simp
        refine hK _ _ (fun h => absurd rfl h) ?_
        clear hK K
        try simp only [List.getElem_toArray, List.getElem_cons_succ, List.getElem_cons_zero, Act.put, List.setIfInBounds_toArray, List.set_cons_zero, List.set_cons_succ]
        refine but_done (by kernel_rfl) ?_
        clear hTidy KP T3 E3
        go_wp2_with fail
        go_ret
        rw [← HD.out] at HF
        exact ⟨rfl, blk A9, ⟨_, _, _, _, _, rfl, HF.out.1, HPq.out⟩, HK2.out.trans HF.out.2⟩
      · obtain rfl : c2 = i + 1 := by omega
        have hQ0 : Q.length = i + 1 := by omega
        have E3 : Hid (RdI w2 (some ⟨gw, off, none⟩) 0 (Q.drop (i + 1))) := by rw [List.drop_eq_nil_of_le (by omega)]; exact RdI.nil _ _
        have hw4 : (i : Int) ≤ (i : Int) + 1 := by omega
        clear e3 p2 p3 p4 p5
        rw [hQ0] at c2'
        have T3 := Lib.hid (HW.out.take (k := i) (by omega)).rd
        have KP : Hid (∀ w', Below w2.heap.size w2 w' → w'.cell? ⟨m, 2, none⟩ = some (.slice (some ⟨gw, off, none⟩) (i + 1) (i + 1))) := fun w' hb => by
          have h9 := (HY.out.later hb).c2
          rw [hQ0] at h9
          exact h9
        refine but_startQ 19 (fun w' => w'.cell? ⟨m, 2, none⟩ = some (.slice (some ⟨gw, off, none⟩) (i + 1) (i + 1))) (by kernel_rfl) (by as_aux_lemma => kernel_rfl) ?_
        intro hTidy
        have hHeld := KP.out w2.drew (Below.refl _ _).drew
        change AnyBut _ _ _ _ _ _ 20 _ _ _
        refine but_takeQ (i := 0) (v := ?_) rfl hTidy (by kernel_rfl) (by kernel_rfl) (fun _ _ _ h => h) (Or.inl ⟨by rfl, ?_⟩) hHeld ?_
        rotate_left
        · intro w hSw
          (try dsimp only at hSw)
          go_simp
          try with_reducible rfl
        try simp only [List.getElem_toArray, List.getElem_cons_zero, Act.put, List.setIfInBounds_toArray, List.set_cons_zero, List.set_cons_succ]
        refine but_takeQ (i := 2) (v := ?_) rfl hTidy (by kernel_rfl) (by kernel_rfl) (fun _ _ _ h => h) (Or.inl ⟨by rfl, ?_⟩) hHeld ?_
        rotate_left
        · intro w hSw
          (try dsimp only at hSw)
          go_simp
          try with_reducible rfl
        try simp only [List.getElem_toArray, List.getElem_cons_succ, List.getElem_cons_zero, Act.put, List.setIfInBounds_toArray, List.set_cons_zero, List.set_cons_succ]
        refine but_takeQ (i := 3) (v := ?_) rfl hTidy (by kernel_rfl) (by kernel_rfl) (fun _ _ _ h => h) (Or.inl ⟨by rfl, ?_⟩) hHeld ?_
        rotate_left
        · intro w hSw
          (try dsimp only at hSw)
          go_simp
          try with_reducible rfl
        try simp only [List.getElem_toArray, List.getElem_cons_succ, List.getElem_cons_zero, Act.put, List.setIfInBounds_toArray, List.set_cons_zero, List.set_cons_succ]
        refine but_takeQ (i := 4) (v := ?_) rfl hTidy (by kernel_rfl) (by kernel_rfl) (fun _ _ _ h => h) (Or.inl ⟨by rfl, ?_⟩) hHeld ?_
        rotate_left
        · intro w hSw
          (try dsimp only at hSw)
          go_simp
          try with_reducible rfl
        try simp only [List.getElem_toArray, List.getElem_cons_succ, List.getElem_cons_zero, Act.put, List.setIfInBounds_toArray, List.set_cons_zero, List.set_cons_succ]
        refine but_takeQ (i := 5) (v := ?_) rfl hTidy (by kernel_rfl) (by kernel_rfl) (fun _ _ _ h => h) (Or.inl ⟨by rfl, ?_⟩) hHeld ?_
        rotate_left
        · intro w hSw
          (try dsimp only at hSw)
          go_simp
          try with_reducible rfl
        try simp only [List.getElem_toArray, List.getElem_cons_succ, List.getElem_cons_zero, Act.put, List.setIfInBounds_toArray, List.set_cons_zero, List.set_cons_succ]
        refine but_takeQ (i := 6) (v := ?_) rfl hTidy (by kernel_rfl) (by kernel_rfl) (fun _ _ _ h => h) (Or.inl ⟨by rfl, ?_⟩) hHeld ?_
        rotate_left
        · intro w hSw
          (try dsimp only at hSw)
          go_simp
          try with_reducible rfl
        try simp only [List.getElem_toArray, List.getElem_cons_succ, List.getElem_cons_zero, Act.put, List.setIfInBounds_toArray, List.set_cons_zero, List.set_cons_succ]
        refine but_takeQ (i := 7) (v := ?_) rfl hTidy (by kernel_rfl) (by kernel_rfl) (fun _ _ _ h => h) (Or.inl ⟨by rfl, ?_⟩) hHeld ?_
        rotate_left
        · intro w hSw
          (try dsimp only at hSw)
          go_simp
          try with_reducible rfl
        try simp only [List.getElem_toArray, List.getElem_cons_succ, List.getElem_cons_zero, Act.put, List.setIfInBounds_toArray, List.set_cons_zero, List.set_cons_succ]
        refine but_takeQ (i := 9) (v := ?_) rfl hTidy (by kernel_rfl) (by kernel_rfl) (fun _ _ _ h => h) (Or.inl ⟨by rfl, ?_⟩) hHeld ?_
        rotate_left
        · intro w hSw
          (try dsimp only at hSw)
          go_simp
          try with_reducible rfl
        try simp only [List.getElem_toArray, List.getElem_cons_succ, List.getElem_cons_zero, Act.put, List.setIfInBounds_toArray, List.set_cons_zero, List.set_cons_succ]
        refine but_takeQ (i := 10) (v := ?_) rfl hTidy (by kernel_rfl) (by kernel_rfl) (fun _ _ _ h => h) (Or.inl ⟨by rfl, ?_⟩) hHeld ?_
        rotate_left
        · intro w hSw
          (try dsimp only at hSw)
          go_simp
          try with_reducible rfl
        try simp only [List.getElem_toArray, List.getElem_cons_succ, List.getElem_cons_zero, Act.put, List.setIfInBounds_toArray, List.set_cons_zero, List.set_cons_succ]
        refine but_takeQ (i := 11) (v := ?_) rfl hTidy (by kernel_rfl) (by kernel_rfl) (fun _ _ _ h => h) (Or.inl ⟨by rfl, ?_⟩) hHeld ?_
        rotate_left
        · intro w hSw
          (try dsimp only at hSw)
          go_simp
          try with_reducible rfl
        try simp only [List.getElem_toArray, List.getElem_cons_succ, List.getElem_cons_zero, Act.put, List.setIfInBounds_toArray, List.set_cons_zero, List.set_cons_succ]
        refine but_takeQ (i := 12) (v := ?_) rfl hTidy (by kernel_rfl) (by kernel_rfl) (fun _ _ _ h => h) (Or.inl ⟨by rfl, ?_⟩) hHeld ?_
        rotate_left
        · intro w hSw
          (try dsimp only at hSw)
          go_simp
          try with_reducible rfl
        try simp only [List.getElem_toArray, List.getElem_cons_succ, List.getElem_cons_zero, Act.put, List.setIfInBounds_toArray, List.set_cons_zero, List.set_cons_succ]
        refine but_takeQ (i := 13) (v := ?_) rfl hTidy (by kernel_rfl) (by kernel_rfl) (fun _ _ _ h => h) (Or.inl ⟨by rfl, ?_⟩) hHeld ?_
        rotate_left
        · intro w hSw
          (try dsimp only at hSw)
          go_simp
          try with_reducible rfl
        try simp only [List.getElem_toArray, List.getElem_cons_succ, List.getElem_cons_zero, Act.put, List.setIfInBounds_toArray, List.set_cons_zero, List.set_cons_succ]
        refine but_takeQ (i := 14) (v := ?_) rfl hTidy (by kernel_rfl) (by kernel_rfl) (fun _ _ _ h => h) (Or.inl ⟨by rfl, ?_⟩) hHeld ?_
        rotate_left
        · intro w hSw
          (try dsimp only at hSw)
          go_simp
          try with_reducible rfl
        try simp only [List.getElem_toArray, List.getElem_cons_succ, List.getElem_cons_zero, Act.put, List.setIfInBounds_toArray, List.set_cons_zero, List.set_cons_succ]
        refine but_takeQ (i := 15) (v := ?_) rfl hTidy (by kernel_rfl) (by kernel_rfl) (fun _ _ _ h => h) (Or.inl ⟨by rfl, ?_⟩) hHeld ?_
        rotate_left
        · intro w hSw
          (try dsimp only at hSw)
          go_simp
          try with_reducible rfl
        try simp only [List.getElem_toArray, List.getElem_cons_succ, List.getElem_cons_zero, Act.put, List.setIfInBounds_toArray, List.set_cons_zero, List.set_cons_succ]
        clear hHeld
        refine but_one (i := 1) (by kernel_rfl) rfl ?_
        intro K hK
        go_simp
        refine hK _ _ (fun _ => KP.out _ (by repeat' (first | exact Below.refl _ _ | (with_reducible assumption) | refine Below.drew ?_ | refine Below.alloc ?_ (by first | omega | (simp <;> omega)) _))) ?_
        clear hK K
        try simp only [List.getElem_toArray, List.getElem_cons_succ, List.getElem_cons_zero, Act.put, List.setIfInBounds_toArray, List.set_cons_zero, List.set_cons_succ]
        refine but_one (i := 8) (by kernel_rfl) rfl ?_
        intro K hK
        refine step_copy (w2 := w2) rfl (.tmp 36) (.tmp 42) rfl _ (some ⟨gw, off, none⟩) i (i + 1) (Q.take i) (by rfl) (by rfl) (by first | exact heap_e1 _ | exact heap_e2 _ _ | exact heap_e3 _ _) (by first | omega | (simp <;> omega)) (by repeat' (first | exact Below.refl _ _ | (with_reducible assumption) | refine Below.drew ?_ | refine Below.alloc ?_ (by first | omega | (simp <;> omega)) _)) T3.out (by omega) ?_; intro v7 w7 ho7 hb7 hg7; have HO7 := Lib.hid ho7; have hs7 := hb7.size; clear ho7
        refine hK _ _ (fun _ => KP.out _ (by repeat' (first | exact Below.refl _ _ | (with_reducible assumption) | refine Below.drew ?_ | refine Below.alloc ?_ (by first | omega | (simp <;> omega)) _))) ?_
        clear hK K
        try simp only [List.getElem_toArray, List.getElem_cons_succ, List.getElem_cons_zero, Act.put, List.setIfInBounds_toArray, List.set_cons_zero, List.set_cons_succ]
        refine but_one (i := 16) (by kernel_rfl) rfl ?_
        intro K hK
        refine step_more (w2 := w2) rfl (.tmp 43) (.tmp 50) rfl v7 (some ⟨gw, off, none⟩) i (0) (0) (Q.take i) (Q.drop (i + 1)) (by rfl) (by rfl) HO7.out hb7 (E3.out.later hb7) (by omega) (by omega) ?_; intro v9 w9 ho9 hb9; obtain ⟨A9, k9, hv9, _, _⟩ := own_cap ho9; subst hv9; have hx9 := HY.out.later hb9; have c09 := hx9.c2; have f9 := hx9.mx.fz 2; have hl9 := hx9.lt; have HF := Lib.hid (MY.other HY.out hb9 ho9 (by simp only [List.length_append, List.length_take, List.length_drop]; omega)); clear ho9 hx9
        refine hK _ _ (fun _ => KP.out _ (by repeat' (first | exact Below.refl _ _ | (with_reducible assumption) | refine Below.drew ?_ | refine Below.alloc ?_ (by first | omega | (simp <;> omega)) _))) ?_
        clear hK K
        try simp only [List.getElem_toArray, List.getElem_cons_succ, List.getElem_cons_zero, Act.put, List.setIfInBounds_toArray, List.set_cons_zero, List.set_cons_succ]
        refine but_one (i := 17) (by kernel_rfl) rfl ?_
        intro K hK
        go_simp
        refine hK _ _ (fun _ => KP.out _ (by repeat' (first | exact Below.refl _ _ | (with_reducible assumption) | refine Below.drew ?_ | refine Below.alloc ?_ (by first | omega | (simp <;> omega)) _))) ?_
        clear hK K
        try simp only [List.getElem_toArray, List.getElem_cons_succ, List.getElem_cons_zero, Act.put, List.setIfInBounds_toArray, List.set_cons_zero, List.set_cons_succ]
        refine but_one (i := 18) (by kernel_rfl) rfl ?_
        intro K hK
        go_simp
        refine hK _ _ (fun _ => KP.out _ (by repeat' (first | exact Below.refl _ _ | (with_reducible assumption) | refine Below.drew ?_ | refine Below.alloc ?_ (by first | omega | (simp <;> omega)) _))) ?_
        clear hK K
        try simp only [List.getElem_toArray, List.getElem_cons_succ, List.getElem_cons_zero, Act.put, List.setIfInBounds_toArray, List.set_cons_zero, List.set_cons_succ]
        refine but_one (i := 19) (by kernel_rfl) rfl ?_
        intro K hK
        go_simp
        refine hK _ _ (fun h => absurd rfl h) ?_
        clear hK K
        try simp only [List.getElem_toArray, List.getElem_cons_succ, List.getElem_cons_zero, Act.put, List.setIfInBounds_toArray, List.set_cons_zero, List.set_cons_succ]
        refine but_done (by kernel_rfl) ?_
        clear hTidy KP T3 E3
        go_wp2_with fail
        go_ret
        rw [← HD.out] at HF
        exact ⟨rfl, blk A9, ⟨_, _, _, _, _, rfl, HF.out.1, HPq.out⟩, HK2.out.trans HF.out.2⟩
    · have k2 : ¬ z.id = k := fun e => hji (ids_inj HP.out.1 hz HP.out.2 (e.trans HI.out.symm))
      clear hz
      go_wp2_with fail
      go_roundw
      case rel => exact ⟨j + 1, by omega, by go_num, by first | rfl | trivial⟩
      case measure => simp [intOf]; omega
end
end Go.Proofs.YtmadcnpkaijllaaGreat
