/- A list of tasks and where each stands, in memory: what it holds, how it carries. No condition. -/
import Derived.Test.YthiifnbgdajgaaaDoorChecked
import Derived.WalkKit
import Derived.Below
import Derived.Laws.OwnMore
import Derived.Deep.AppendLies
import Derived.Laws.Rows
import Derived.Laws.BitsAllLaws
import Derived.Lib.Hide
import Derived.Outline
import Derived.BigQuiet
import Derived.Deep.QuietTactic
import Derived.Deep.RegionWith
import Derived.Deep.RegionLaw
import Derived.StillTailTactics
import Derived.Maps.OwnSet
namespace Go.Proofs.YthiifnbgdajgaaaDoor
open Go.RowKit
set_option linter.unusedVariables false
set_option maxRecDepth 100000

theorem cell_blk {w w' : World} {b : Nat} (h : w'.heap[b]? = w.heap[b]?) (i : Nat) : w'.cell? ⟨b, i, none⟩ = w.cell? ⟨b, i, none⟩ := World.cell?_of_block (a := ⟨b, i, none⟩) h
theorem frozen_blk {w w' : World} {b : Nat} (h : w'.heap[b]? = w.heap[b]?) (i : Nat) : w'.frozen? ⟨b, i, none⟩ = w.frozen? ⟨b, i, none⟩ := World.frozen?_of_block (a := ⟨b, i, none⟩) h
theorem below_al (w : World) (o : Obj) : Below w.heap.size w (w.alloc o) := (Below.refl _ _).alloc (Nat.le_refl _) _
theorem below_drewN (w : World) (q : Nat) : Below w.heap.size w (w.drewN q) := ⟨rfl, rfl, rfl, Nat.le_refl _, fun _ _ => rfl⟩
theorem lt_of_blk {w : World} {b : Nat} {o : Obj} (h : w.heap[b]? = some o) : b < w.heap.size := (Array.getElem?_eq_some_iff.1 h).1

/-! Lists of numbers. -/
def iV (l : List Int) : List Value := l.map (Value.int .i64)
theorem iV_len (l : List Int) : (iV l).length = l.length := by simp [iV]
theorem iV_snoc (l : List Int) (x : Int) : iV l ++ [.int .i64 x] = iV (l ++ [x]) := by simp [iV]
theorem iV_app (l m : List Int) : iV l ++ iV m = iV (l ++ m) := by simp [iV]
theorem iV_at {l : List Int} {j : Nat} {x : Int} (h : l[j]? = some x) : (iV l)[j]? = some (.int .i64 x) := by simp [iV, h]
theorem one_int {x : Int} : ∀ u ∈ [Value.int .i64 x], u.oneCell' = true := by intro u hu; simp at hu; subst hu; rfl
theorem iV_one (l : List Int) : ∀ u ∈ iV l, u.oneCell' = true := by intro u hu; obtain ⟨x, _, rfl⟩ := List.mem_map.1 hu; rfl

/-! A place of a list of which none is there twice. -/
section
variable {l : List Int} {p i : Nat} {x y : Int}
theorem nd_inj (hn : l.Nodup) (hi : l[i]? = some x) (hp : l[p]? = some x) : i = p :=
  (List.getElem?_inj (List.getElem?_eq_some_iff.1 hi).1 hn).1 (hi.trans hp.symm)
theorem at_mem (h : l[p]? = some x) : x ∈ l := List.mem_of_getElem? h
theorem mem_at (h : x ∈ l) : ∃ p, l[p]? = some x ∧ p < l.length := by
  obtain ⟨p, hp⟩ := List.mem_iff_getElem?.1 h
  exact ⟨p, hp, (List.getElem?_eq_some_iff.1 hp).1⟩
theorem at_lt (h : l[p]? = some x) : p < l.length := (List.getElem?_eq_some_iff.1 h).1
theorem cut_mem (hn : l.Nodup) (hp : l[p]? = some x) : y ∈ l.eraseIdx p ↔ y ∈ l ∧ y ≠ x := by
  rw [List.mem_eraseIdx_iff_getElem?]
  constructor
  · rintro ⟨i, h1, h2⟩
    refine ⟨at_mem h2, fun e => h1 ?_⟩
    subst e
    exact nd_inj hn h2 hp
  · rintro ⟨h1, h2⟩
    obtain ⟨i, hi, _⟩ := mem_at h1
    refine ⟨i, fun e => h2 ?_, hi⟩
    subst e
    rw [hi] at hp; injection hp
theorem cut_len (hp : l[p]? = some x) : (l.eraseIdx p).length + 1 = l.length := by
  have := at_lt hp
  rw [List.length_eraseIdx, if_pos this]; omega
theorem cut_nd (hn : l.Nodup) : (l.eraseIdx p).Nodup := List.Nodup.sublist (List.eraseIdx_sublist _ _) hn
theorem cut_sub (h : y ∈ l.eraseIdx p) : y ∈ l := (List.eraseIdx_sublist _ _).subset h
theorem snoc_nd (hn : l.Nodup) (h : x ∉ l) : (l ++ [x]).Nodup := by
  refine List.nodup_append.2 ⟨hn, by simp, fun a ha b hb e => h ?_⟩
  simp at hb; subst hb; subst e; exact ha
end
/-- f tells each one's place. -/
def Pl (l : List Int) (f : Int → Int) : Prop := ∀ (p : Nat) (x : Int), l[p]? = some x → f x = (p : Int)

/-! Where each stands. -/
abbrev kL (x : Int) : Lit := .int .i64 x
abbrev dL (x : Int) : DataW Unit := .lit (.int .i64 x)
def Wf (x : Int) : Prop := (Lit.int .i64 x).wf = true
theorem wf_of {x : Int} (h1 : -9223372036854775808 ≤ x) (h2 : x ≤ 9223372036854775807) : Wf x := WalkArith.wf_i64 ⟨h1, h2⟩
theorem law : Maps.Keyed Tryd.prog 3 := Maps.int_keyed Tryd.underlying3
theorem zeroI (w : World) : (zeroValue 3).run Tryd.prog w = .ok (.int .i64 0) w := by kernel_rfl
theorem keyI {x : Int} (h : Wf x) : keyOf Tryd.prog 3 (.int .i64 x) = some (kL x) := Maps.keyOf_int_mk Tryd.underlying3 h
theorem elI {x : Int} (h : Wf x) : plainElem (H := Unit) Tryd.prog 3 (.int .i64 x) = some (dL x, []) := plainElem_int Tryd.underlying3 h
theorem kL_ne {x y : Int} (h : x ≠ y) : kL x ≠ kL y := fun e => h (by injection e)
theorem kL_key (x : Int) : WideAt.IsKeyLit (kL x) := trivial

/-- Nothing but block b has turned. -/
def Trn (w w' : World) (b : Nat) : Prop := w'.os = w.os ∧ w'.tape = w.tape ∧ w'.output = w.output ∧ w'.heap.size = w.heap.size ∧ ∀ k, k ≠ b → w'.heap[k]? = w.heap[k]?
theorem turned_block {w w' : World} {b : Nat} (h : w.mapTurned w' b) : Trn w w' b := by
  obtain ⟨es, clock, es', clock', hb, rfl⟩ := h
  exact ⟨rfl, rfl, rfl, by simp [ChangeMaps.setBlock], fun k hk => ChangeMaps.heap_setBlock_other hb _ hk⟩
/-- Block b is a map whose keys are the members of l; at x it holds f x. -/
def Tm (w : World) (b : Nat) (l : List Int) (f : Int → Int) : Prop :=
  ∃ D : DataW Unit, w.ownsMap Tryd.prog 3 (plainElem Tryd.prog 3) b l.length D ∧ Maps.size D = l.length ∧ (∀ x, Maps.has D (kL x) = decide (x ∈ l)) ∧ ∀ x ∈ l, D.atKey (kL x) (dL 0) = dL (f x)
section
variable {w w' : World} {b : Nat} {l : List Int} {f : Int → Int}
theorem own_exact {n : Nat} {D : DataW Unit} (h : w.ownsMap Tryd.prog 3 (plainElem Tryd.prog 3) b n D) : w.ownsMap Tryd.prog 3 (plainElem Tryd.prog 3) b (Maps.size D) D := by
  obtain ⟨es, clock, hb, F, _, rfl⟩ := h
  refine ⟨es, clock, hb, F, ?_, rfl⟩
  simp [Maps.size, length_sorted]
theorem Tm.lt (h : Tm w b l f) : b < w.heap.size := by obtain ⟨D, h, _⟩ := h; exact h.lt
theorem Tm.blk (h : Tm w b l f) : ∃ es clock, w.heap[b]? = some (.map es clock) := by obtain ⟨D, ⟨es, clock, h, _⟩, _⟩ := h; exact ⟨es, clock, h⟩
theorem Tm.keep (h : Tm w b l f) (e : w'.heap[b]? = w.heap[b]?) : Tm w' b l f := by
  obtain ⟨D, ⟨es, clock, h1, h2⟩, h3⟩ := h
  exact ⟨D, ⟨es, clock, by rw [e]; exact h1, h2⟩, h3⟩
theorem Tm.congr {g : Int → Int} (h : Tm w b l f) (e : ∀ x ∈ l, f x = g x) : Tm w b l g := by
  obtain ⟨D, h1, h2, h3, h4⟩ := h
  exact ⟨D, h1, h2, h3, fun x hx => by rw [h4 x hx, e x hx]⟩
theorem Tm.new (w : World) (f : Int → Int) : Tm (w.alloc (.map #[] 0)) w.heap.size [] f :=
  ⟨_, World.ownsMap_made w Tryd.prog 3 (plainElem Tryd.prog 3), rfl, fun x => rfl, fun x hx => by cases hx⟩
theorem Tm.look (h : Tm w b l f) {x : Int} (hx : Wf x) : ∃ c, (Instr.lookup 77 (.map (some b)) (.int .i64 x) true).run Tryd.prog w = .ok (.tuple #[.int .i64 c, .bool (decide (x ∈ l))]) w := by
  obtain ⟨D, h1, h2, h3, h4⟩ := h
  obtain ⟨v, ps, hrun, hv⟩ := h1.look_ok law Tryd.underlying77 (zeroI w) (elI (wf_of (by omega) (by omega))) (keyI hx)
  obtain ⟨c, rfl, _, _⟩ := plainElem_int_inv Tryd.underlying3 hv
  rw [h3] at hrun
  exact ⟨c, hrun⟩
theorem Tm.get (h : Tm w b l f) {x : Int} (hx : Wf x) (hm : x ∈ l) : (Instr.lookup 77 (.map (some b)) (.int .i64 x) false).run Tryd.prog w = .ok (.int .i64 (f x)) w := by
  obtain ⟨D, h1, h2, h3, h4⟩ := h
  obtain ⟨c, hrun, hat, _⟩ := h1.lookup_int law Tryd.underlying77 Tryd.underlying3 (zeroI w) (keyI hx)
  rw [h4 x hm] at hat
  have : f x = c := by injection hat with hat; injection hat
  rw [this]; exact hrun
theorem Tm.store (h : Tm w b l f) {x v : Int} (hx : Wf x) (hv : Wf v) (hn : l.length < maxLen) :
    ∃ w', (Instr.mapUpdate 77 (.map (some b)) (.int .i64 x) (.int .i64 v)).run Tryd.prog w = .ok () w' ∧ Trn w w' b ∧ Tm w' b (if x ∈ l then l else l ++ [x]) (fun y => if y = x then v else f y) := by
  obtain ⟨D, h1, h2, h3, h4⟩ := h
  obtain ⟨w', hrun, ho, ht⟩ := h1.store law Tryd.underlying77 hn (keyI hx) (elI hv)
  refine ⟨w', hrun, turned_block ht, D.put (kL x) (dL v), ?_, ?_, ?_, ?_⟩
  · have := own_exact ho
    rw [Maps.size_put (h1.tidy law), h3] at this
    by_cases hm : x ∈ l
    · rw [if_pos hm]; rw [decide_eq_true hm, if_pos rfl, h2] at this; exact this
    · rw [if_neg hm]; rw [decide_eq_false hm, if_neg (by simp), h2] at this; simpa using this
  · rw [Maps.size_put (h1.tidy law), h3, h2]
    by_cases hm : x ∈ l
    · rw [if_pos hm, decide_eq_true hm, if_pos rfl]
    · rw [if_neg hm, decide_eq_false hm, if_neg (by simp)]; simp
  · intro y
    by_cases e : y = x
    · subst e
      rw [Maps.has_put_same h1.isMap (kL_key _)]
      split <;> simp_all
    · rw [Maps.has_put_other (kL_ne e), h3]
      split <;> simp_all
  · intro y hy
    by_cases e : y = x
    · subst e
      rw [Maps.atKey_put_same h1.isMap (kL_key _)]; simp
    · rw [Maps.atKey_put_other (kL_ne e)]
      show _ = dL (if y = x then v else f y)
      rw [if_neg e]
      refine h4 y ?_
      split at hy
      · exact hy
      · simpa [e] using hy
theorem Tm.drop (h : Tm w b l f) (hd : l.Nodup) {x : Int} {p : Nat} (hx : Wf x) (hp : l[p]? = some x) (ty : TypeId) :
    ∃ w', (Builtin.delete_ #[77, 3] ty #[.map (some b), .int .i64 x]).run Tryd.prog w = .ok (.tuple #[]) w' ∧ Trn w w' b ∧ Tm w' b (l.eraseIdx p) f := by
  obtain ⟨D, h1, h2, h3, h4⟩ := h
  obtain ⟨w', hrun, ho, ht⟩ := h1.drop law Tryd.underlying77 (keyI hx) ty
  have hs := Maps.size_del (k := kL x) (h1.tidy law)
  rw [h3, decide_eq_true (at_mem hp), if_pos rfl, h2] at hs
  have hl := cut_len hp
  have hs2 : Maps.size (D.del (kL x)) = (l.eraseIdx p).length := by omega
  refine ⟨w', hrun, turned_block ht, D.del (kL x), by rw [← hs2]; exact own_exact ho, hs2, fun y => ?_, fun y hy => ?_⟩
  · by_cases e : y = x
    · subst e
      rw [Maps.has_del_same, eq_comm, decide_eq_false_iff_not, cut_mem hd hp]
      exact fun h => h.2 rfl
    · rw [Maps.has_del_other (kL_ne e), h3]
      exact decide_eq_decide.2 ⟨fun h => (cut_mem hd hp).2 ⟨h, e⟩, cut_sub⟩
  · have e := (cut_mem hd hp).1 hy
    rw [Maps.atKey_del_other (kL_ne e.2)]
    exact h4 y e.1
end

/-! A row of the call's own. -/
/-- The block that a slice lies in. -/
def blk (P : Option Addr) : Option Nat := P.map Addr.block
theorem own_blk (P : Option Addr) (n c : Nat) : (Value.slice P n c).ownBlock = blk P := by cases P <;> rfl
section
variable {w w' : World} {e s B n c : Nat} {P : Option Addr} {xs : List Value}
theorem row_lt (h : w.ownsRow B e s (.slice P n c) n xs) {k : Nat} (hk : blk P = some k) : B ≤ k ∧ k < w.heap.size := h.lt k (by rw [own_blk]; exact hk)
theorem row_tag (h : w.ownsRow B e s (.slice P n c) n xs) {k : Nat} (hk : blk P = some k) : ∃ cs fr, w.heap[k]? = some (.cells cs e fr) := by
  rcases h.2 with ⟨h1, _⟩ | ⟨g, cap, cur, h1, _, h2, _⟩
  · injection h1 with h1; subst h1; cases hk
  · injection h1 with h1; subst h1; cases hk; exact ⟨cur, (0, 0), h2⟩
theorem row_keep (h : w.ownsRow B e s (.slice P n c) n xs) (hb : ∀ k, blk P = some k → w'.heap[k]? = w.heap[k]?) : w'.ownsRow B e s (.slice P n c) n xs := by
  refine ⟨h.1, ?_⟩
  rcases h.2 with h1 | ⟨g, cap, cur, h1, h2, h3, h4⟩
  · exact .inl h1
  · refine .inr ⟨g, cap, cur, h1, h2, ?_, h4⟩
    injection h1 with h1; subst h1
    rw [hb g rfl]; exact h3
theorem row_later (h : w.ownsRow B e s (.slice P n c) n xs) (hb : Below w.heap.size w w') : w'.ownsRow B e s (.slice P n c) n xs := row_keep h fun k hk => hb.block k (row_lt h hk).2
theorem row_form (h : w.ownsRow B e s (.slice P n c) n xs) (hn : 0 < n) : ∃ g, P = some ⟨g, 0, none⟩ ∧ n ≤ c := by
  rcases h.2 with ⟨_, h0⟩ | ⟨g, cap, cur, h1, _, _, h2, _⟩
  · omega
  · injection h1 with h1 h3 h4; subst h4; exact ⟨g, h1, h2⟩
theorem row_cap (h : w.ownsRow B e s (.slice P n c) n xs) : n ≤ c ∧ c ≤ maxLen := by
  rcases h.2 with ⟨h1, h0⟩ | ⟨g, cap, cur, h1, _, _, h2, h3, _⟩
  · injection h1 with h1 h2 h3; subst h3; exact ⟨by omega, by unfold maxLen; omega⟩
  · injection h1 with h1 h3' h4; subst h4; exact ⟨h2, h3⟩
/-- The slice cut short. -/
theorem row_short {g m : Nat} (h : w.ownsRow B e 1 (.slice (some ⟨g, 0, none⟩) n c) n xs) (hm : m ≤ n) : w.ownsRow B e 1 (.slice (some ⟨g, 0, none⟩) m c) m (xs.take m) := by
  have h0 := h.1
  refine ⟨by simp; omega, .inr ?_⟩
  rcases h.2 with ⟨h1, _⟩ | ⟨g', cap, cur, h1, h2, h3, h4, h5, h6, h7⟩
  · cases h1
  · injection h1 with h1 h8 h9
    injection h1 with h1
    injection h1 with h1
    subst h1; subst h9
    refine ⟨g, c, cur, rfl, h2, h3, by omega, h5, h6, ?_⟩
    rw [← h7, List.take_take, Nat.mul_one, Nat.mul_one, Nat.min_eq_left hm]
theorem row_cells {g : Nat} : ∀ (vs pre rest : List Value) (w : World), rest.length = vs.length → w.ownsRow B e 1 (.slice (some ⟨g, 0, none⟩) n c) n (pre ++ rest) → (w.setCells g pre.length vs).ownsRow B e 1 (.slice (some ⟨g, 0, none⟩) n c) n (pre ++ vs)
  | [], pre, rest, w, hl, h => by
    have : rest = [] := List.eq_nil_of_length_eq_zero hl
    subst this; exact h
  | v :: vs, pre, [], w, hl, h => by simp at hl
  | v :: vs, pre, r :: rest, w, hl, h => by
    have h1 := (h.stored pre.length v).1
    rw [List.set_append_right _ _ (Nat.le_refl _), Nat.sub_self, List.set_cons_zero] at h1
    have h2 := row_cells vs (pre ++ [v]) rest (w.setCell ⟨g, pre.length, none⟩ v) (by simpa using hl) (by simpa using h1)
    simpa [World.setCells] using h2
end
theorem set_os {g : Nat} : ∀ (vs : List Value) (o : Nat) (w : World), (w.setCells g o vs).os = w.os ∧ (w.setCells g o vs).tape = w.tape ∧ (w.setCells g o vs).output = w.output ∧ (w.setCells g o vs).heap.size = w.heap.size ∧ ∀ k, k ≠ g → (w.setCells g o vs).heap[k]? = w.heap[k]?
  | [], o, w => ⟨rfl, rfl, rfl, rfl, fun _ _ => rfl⟩
  | v :: vs, o, w => by
    obtain ⟨h1, h2, h3, h4, h5⟩ := set_os (g := g) vs (o + 1) (w.setCell ⟨g, o, none⟩ v)
    exact ⟨h1, h2, h3, h4.trans (by simp [World.setCell]), fun k hk => (h5 k hk).trans (Below.heap_setCell _ _ _ _ hk)⟩
/-- Block o is a list: its tasks l lie in the slice P, its map in block b, which holds f x at x. -/
structure RS (B : Nat) (w : World) (o b : Nat) (P : Option Addr) (c : Nat) (l : List Int) (f : Int → Int) : Prop where
  ho : w.heap[o]? = some (.cells #[.slice P l.length c, .map (some b)] 79 (0, 0))
  own : w.ownsRow B 3 1 (.slice P l.length c) l.length (iV l)
  tm : Tm w b l f
  nd : l.Nodup
  wf : ∀ x ∈ l, 0 ≤ x ∧ Wf x
  go : B ≤ o
  gb : B ≤ b
/-- .. and each stands where the map says. -/
def RG (B : Nat) (w : World) (o b : Nat) (P : Option Addr) (c : Nat) (l : List Int) : Prop := ∃ f, RS B w o b P c l f ∧ Pl l f
/-- Nothing but the list's three blocks has turned; where its slice lies elsewhere, that is new. -/
structure Chg (o b : Nat) (p p' : Option Nat) (w w' : World) : Prop where
  os : w'.os = w.os
  tape : w'.tape = w.tape
  output : w'.output = w.output
  size : w.heap.size ≤ w'.heap.size
  block : ∀ k, k < w.heap.size → k ≠ o → k ≠ b → p ≠ some k → w'.heap[k]? = w.heap[k]?
  new : p' = p ∨ ∀ k, p' = some k → w.heap.size ≤ k
theorem Chg.trans {o b : Nat} {p p' p'' : Option Nat} {u v w : World} (h : Chg o b p p' u v) (k : Chg o b p' p'' v w) : Chg o b p p'' u w := by
  have h0 := h.size
  refine ⟨k.os.trans h.os, k.tape.trans h.tape, k.output.trans h.output, Nat.le_trans h.size k.size, fun i h1 h2 h3 h4 => (k.block i (by omega) h2 h3 (fun e => ?_)).trans (h.block i h1 h2 h3 h4), ?_⟩
  · rcases h.new with h5 | h5
    · exact h4 (h5.symm.trans e)
    · have := h5 i e; omega
  · rcases k.new with h6 | h6
    · subst h6; exact h.new
    · exact .inr fun i hi => by have := h6 i hi; omega
theorem Chg.drewN {o b : Nat} (p : Option Nat) (w : World) (q : Nat) : Chg o b p p w (w.drewN q) := ⟨rfl, rfl, rfl, Nat.le_refl _, fun _ _ _ _ _ => rfl, .inl rfl⟩

section
variable {w w' : World} {B o b c : Nat} {P : Option Addr} {l : List Int} {f g : Int → Int}
theorem RS.c0 (h : RS B w o b P c l f) : w.cell? ⟨o, 0, none⟩ = some (.slice P l.length c) := by rw [cell_of_row w o 0 _ _ _ h.ho]; rfl
theorem RS.c1 (h : RS B w o b P c l f) : w.cell? ⟨o, 1, none⟩ = some (.map (some b)) := by rw [cell_of_row w o 1 _ _ _ h.ho]; rfl
theorem RS.fo (h : RS B w o b P c l f) (i : Nat) : w.frozen? ⟨o, i, none⟩ = false := frozen_of_row w o i _ _ h.ho
theorem RS.lo (h : RS B w o b P c l f) : o < w.heap.size := lt_of_blk h.ho
theorem RS.ne (h : RS B w o b P c l f) : o ≠ b := by
  obtain ⟨es, cl, hb⟩ := h.tm.blk
  intro e; rw [← e, h.ho] at hb; cases hb
theorem RS.npo (h : RS B w o b P c l f) : blk P ≠ some o := by
  intro e
  obtain ⟨cs, fr, ht⟩ := row_tag h.own e
  rw [h.ho] at ht; injection ht with ht; injection ht with _ ht; cases ht
theorem RS.npb (h : RS B w o b P c l f) : blk P ≠ some b := by
  intro e
  obtain ⟨cs, fr, ht⟩ := row_tag h.own e
  obtain ⟨es, cl, hb⟩ := h.tm.blk
  rw [hb] at ht; cases ht
theorem RS.keep (h : RS B w o b P c l f) (e1 : w'.heap[o]? = w.heap[o]?) (e2 : w'.heap[b]? = w.heap[b]?) (e3 : ∀ k, blk P = some k → w'.heap[k]? = w.heap[k]?) : RS B w' o b P c l f :=
  ⟨by rw [e1]; exact h.ho, row_keep h.own e3, h.tm.keep e2, h.nd, h.wf, h.go, h.gb⟩
theorem RS.later (h : RS B w o b P c l f) (hb : Below w.heap.size w w') : RS B w' o b P c l f := h.keep (hb.block _ h.lo) (hb.block _ h.tm.lt) fun k hk => hb.block _ (row_lt h.own hk).2
theorem RS.drewN (h : RS B w o b P c l f) (q : Nat) : RS B (w.drewN q) o b P c l f := h.keep rfl rfl fun _ _ => rfl
theorem RS.congr (h : RS B w o b P c l f) (e : ∀ x ∈ l, f x = g x) : RS B w o b P c l g := ⟨h.ho, h.own, h.tm.congr e, h.nd, h.wf, h.go, h.gb⟩
theorem Chg.below {p p' : Option Nat} (h : Chg o b p p' w w') (ho : B ≤ o) (hb : B ≤ b) (hp : ∀ k, p = some k → B ≤ k) (hB : B ≤ w.heap.size) : Below B w w' :=
  ⟨h.os, h.tape, h.output, h.size, fun k hk => h.block k (by omega) (by omega) (by omega) (fun e => by have := hp k e; omega)⟩
theorem RS.below {p' : Option Nat} (h : RS B w o b P c l f) (hc : Chg o b (blk P) p' w w') (hB : B ≤ w.heap.size) : Below B w w' := hc.below h.go h.gb (fun k hk => (row_lt h.own hk).1) hB
/-- A cell of the row. -/
theorem RS.at (h : RS B w o b P c l f) {j : Nat} {x : Int} (hx : l[j]? = some x) : ∃ g, P = some ⟨g, 0, none⟩ ∧ w.cell? ⟨g, j, none⟩ = some (.int .i64 x) := by
  have hj := at_lt hx
  obtain ⟨g, rfl, hc⟩ := row_form h.own (by omega)
  exact ⟨g, rfl, by rw [h.own.cellAt j (by omega)]; exact iV_at hx⟩
/-- The map has turned at one that is there. -/
theorem RS.mapped (h : RS B w o b P c l f) (ht : Trn w w' b) (tm : Tm w' b l g) : RS B w' o b P c l g ∧ Chg o b (blk P) (blk P) w w' := by
  obtain ⟨h1, h2, h3, h4, h5⟩ := ht
  exact ⟨⟨by rw [h5 o h.ne]; exact h.ho, row_keep h.own fun k hk => h5 k fun e => h.npb (by rw [← e]; exact hk), tm, h.nd, h.wf, h.go, h.gb⟩, ⟨h1, h2, h3, by omega, fun k _ _ h6 _ => h5 k h6, .inl rfl⟩⟩
/-- A new one. -/
theorem RS.new (w : World) (hB : B ≤ w.heap.size) (f : Int → Int) : RS B ((w.alloc (.map #[] 0)).alloc (.cells #[.slice none 0 0, .map (some w.heap.size)] 79)) (w.heap.size + 1) w.heap.size none 0 [] f := by
  refine ⟨?_, World.ownsRow_nil _ _ _ _, (Tm.new w f).keep (Below.heap_alloc _ _ _ (by simp)), List.nodup_nil, fun x hx => (by cases hx), by omega, hB⟩
  have := heap_alloc_new (w.alloc (.map #[] 0)) (.cells #[.slice none 0 0, .map (some w.heap.size)] 79)
  rw [World.size_alloc] at this
  exact this
/-- One is cut out: the map first, then the row, then the slice. -/
theorem RS.cut {w1 : World} {gB p q : Nat} {x : Int} (h : RS B w o b (some ⟨gB, 0, none⟩) c l f) (hp : l[p]? = some x) (ht : Trn w w1 b) (tm : Tm w1 b (l.eraseIdx p) f) :
    RS B (((w1.drewN q).setCells gB 0 (iV (l.eraseIdx p ++ [0]))).setCell ⟨o, 0, none⟩ (.slice (some ⟨gB, 0, none⟩) (l.eraseIdx p).length c)) o b (some ⟨gB, 0, none⟩) c (l.eraseIdx p) f ∧
      Chg o b (some gB) (some gB) w (((w1.drewN q).setCells gB 0 (iV (l.eraseIdx p ++ [0]))).setCell ⟨o, 0, none⟩ (.slice (some ⟨gB, 0, none⟩) (l.eraseIdx p).length c)) := by
  obtain ⟨h1, h2, h3, h4, h5⟩ := ht
  obtain ⟨k1, k2, k3, k4, k5⟩ := set_os (g := gB) (iV (l.eraseIdx p ++ [0])) 0 (w1.drewN q)
  have ngo : o ≠ gB := fun e => h.npo (by rw [e]; rfl)
  have ngb : b ≠ gB := fun e => h.npb (by rw [e]; rfl)
  have e0 := cut_len hp
  have ho1 : ((w1.drewN q).setCells gB 0 (iV (l.eraseIdx p ++ [0]))).heap[o]? = some (.cells #[.slice (some ⟨gB, 0, none⟩) l.length c, .map (some b)] 79 (0, 0)) := (k5 o ngo).trans ((h5 o h.ne).trans h.ho)
  have row1 : w1.ownsRow B 3 1 (.slice (some ⟨gB, 0, none⟩) l.length c) l.length (iV l) := row_keep h.own fun k hk => h5 k fun e => h.npb (by rw [← e]; exact hk)
  have row2 : (w1.drewN q).ownsRow B 3 1 (.slice (some ⟨gB, 0, none⟩) l.length c) l.length ([] ++ iV l) := row_keep row1 fun _ _ => rfl
  have row3 := row_short (row_cells (iV (l.eraseIdx p ++ [0])) [] (iV l) _ (by simp [iV]; omega) row2) (m := (l.eraseIdx p).length) (by omega)
  have e1 : ([] ++ iV (l.eraseIdx p ++ [0])).take (l.eraseIdx p).length = iV (l.eraseIdx p) := by simp [iV]
  rw [e1] at row3
  refine ⟨⟨?_, ?_, ?_, cut_nd h.nd, fun y hy => h.wf y (cut_sub hy), h.go, h.gb⟩, ⟨?_, ?_, ?_, ?_, ?_, .inl rfl⟩⟩
  · rw [heap_setCell_same _ o 0 _ _ _ ho1]; rfl
  · exact row_keep row3 fun k hk => Below.heap_setCell _ _ _ _ (fun e => ngo (by have e2 : gB = k := (by injection hk); have e3 : k = o := e; omega))
  · exact tm.keep ((Below.heap_setCell _ _ _ _ (fun e => h.ne e.symm)).trans (k5 b ngb))
  · exact k1.trans h1
  · exact k2.trans h2
  · exact k3.trans h3
  · have : (World.setCell ((w1.drewN q).setCells gB 0 (iV (l.eraseIdx p ++ [0]))) ⟨o, 0, none⟩ (.slice (some ⟨gB, 0, none⟩) (l.eraseIdx p).length c)).heap.size = w.heap.size := by
      have e9 : (World.setCell ((w1.drewN q).setCells gB 0 (iV (l.eraseIdx p ++ [0]))) ⟨o, 0, none⟩ (.slice (some ⟨gB, 0, none⟩) (l.eraseIdx p).length c)).heap.size = ((w1.drewN q).setCells gB 0 (iV (l.eraseIdx p ++ [0]))).heap.size := by simp [World.setCell]
      rw [e9, k4]; exact h4
    omega
  · intro k hk n1 n2 n3
    rw [Below.heap_setCell _ _ _ _ (by exact n1), k5 k (fun e => n3 (by rw [e]))]
    exact h5 k n2
/-- One more: what the map's store, an append and the store behind it leave. -/
theorem RS.added {wx wy w1 : World} {gB cap : Nat} {x : Int} (h : RS B w o b P c l f) (hx : 0 ≤ x ∧ Wf x) (hn : x ∉ l) (ht : Trn w wx b) (tm : Tm wx b (l ++ [x]) g) (hy : Below wx.heap.size wx wy)
    (ho : w1.ownsRow B 3 1 (.slice (some ⟨gB, 0, none⟩) (l.length + 1) cap) (l.length + 1) (iV l ++ [.int .i64 x])) (hg : wy.grownBy w1 (Value.slice P l.length c).ownBlock) (hat : (Value.slice P l.length c).ownBlock = some gB ∨ wx.heap.size ≤ gB) :
    RS B (w1.setCell ⟨o, 0, none⟩ (.slice (some ⟨gB, 0, none⟩) (l.length + 1) cap)) o b (some ⟨gB, 0, none⟩) cap (l ++ [x]) g ∧ Chg o b (blk P) (some gB) w (w1.setCell ⟨o, 0, none⟩ (.slice (some ⟨gB, 0, none⟩) (l.length + 1) cap)) := by
  obtain ⟨h1, h2, h3, h4, h5⟩ := ht
  rw [own_blk] at hg hat
  have hs := hy.size
  have hlo := h.lo
  have hlb := h.tm.lt
  have key : ∀ k, k < w.heap.size → k ≠ b → blk P ≠ some k → w1.heap[k]? = w.heap[k]? := fun k hk nb hne => ((hg.block k (by omega) (fun e => hne e.symm)).trans (hy.block k (by omega))).trans (h5 k nb)
  have ho1 := (key o hlo h.ne h.npo).trans h.ho
  have hb1 : w1.heap[b]? = wx.heap[b]? := (hg.block b (by omega) (fun e => h.npb e.symm)).trans (hy.block b (by omega))
  have hgo : gB ≠ o := by
    intro e; subst e
    rcases hat with h1 | h1
    · exact h.npo h1
    · omega
  have hsz : w.heap.size ≤ w1.heap.size := by have := hg.size; omega
  have e1 : (l ++ [x]).length = l.length + 1 := by simp
  refine ⟨⟨?_, ?_, ?_, snoc_nd h.nd hn, ?_, h.go, h.gb⟩, ⟨?_, ?_, ?_, ?_, ?_, ?_⟩⟩
  · rw [heap_setCell_same _ o 0 _ _ _ ho1, e1]; rfl
  · rw [e1, ← iV_snoc]
    refine row_keep ho fun k hk => ?_
    injection hk with hk; subst hk
    exact Below.heap_setCell _ _ _ _ hgo
  · exact tm.keep ((Below.heap_setCell _ _ _ _ (fun e => h.ne e.symm)).trans hb1)
  · intro y hy
    simp at hy
    rcases hy with hy | rfl
    · exact h.wf y hy
    · exact hx
  · exact (hg.os.trans hy.os).trans h1
  · exact (hg.tape.trans hy.tape).trans h2
  · exact (hg.output.trans hy.output).trans h3
  · simpa [World.setCell] using hsz
  · intro k hk n1 n2 n3
    rw [Below.heap_setCell _ _ _ _ (by exact n1)]
    exact key k hk n2 n3
  · rcases hat with h1 | h1
    · exact .inl h1.symm
    · exact .inr fun k hk => by injection hk with hk; subst hk; omega
end

/-- A slice of n numbers reads as l. -/
def Rn (w : World) (A : Option Addr) (n : Nat) (l : List Int) : Prop :=
  l.length = n ∧ (0 < n → ∃ b off, A = some ⟨b, off, none⟩ ∧ b < w.heap.size ∧ ∀ j x, l[j]? = some x → w.cell? ⟨b, off + j, none⟩ = some (.int .i64 x))
theorem Rn.later {w w' : World} {A : Option Addr} {n : Nat} {l : List Int} (h : Rn w A n l) (hb : Below w.heap.size w w') : Rn w' A n l :=
  ⟨h.1, fun h0 => by
    obtain ⟨b, off, e, hl, hc⟩ := h.2 h0
    have := hb.size
    exact ⟨b, off, e, by omega, fun j u hu => (cell_blk (hb.block b hl) _).trans (hc j u hu)⟩⟩
theorem Rn.nil (w : World) (A : Option Addr) : Rn w A 0 [] := ⟨rfl, fun h => absurd h (by omega)⟩
theorem Rn.of_own {w : World} {base e n c : Nat} {A : Option Addr} {l : List Int} (h : w.ownsRow base e 1 (.slice A n c) n (iV l)) : Rn w A n l := by
  have hl : l.length = n := by have := h.1; simp [iV] at this; omega
  refine ⟨hl, fun hn => ?_⟩
  obtain ⟨g, cap, hv, _, hlt⟩ := h.form hn
  have hA : A = some ⟨g, 0, none⟩ := by injection hv
  subst hA
  refine ⟨g, 0, rfl, hlt, fun j u hu => ?_⟩
  have hj : j < l.length := (List.getElem?_eq_some_iff.1 hu).1
  rw [Nat.zero_add, h.cellAt j (by rw [Nat.mul_one]; omega)]
  simp [iV, hu]
theorem Rn.at {w : World} {A : Option Addr} {n : Nat} {l : List Int} (h : Rn w A n l) (h0 : 0 < n) : ∃ b off, A = some ⟨b, off, none⟩ ∧ b < w.heap.size ∧ ∀ j x, l[j]? = some x → w.cell? ⟨b, off + j, none⟩ = some (.int .i64 x) := h.2 h0

def BoolR (b : Bool) (w : World) (e : Ending) (w' : World) : Prop := e = .returned (.bool b) ∧ Below w.heap.size w w'

/-- Since the call began a list of its own has come to hold l; nothing that was there has turned. -/
structure ST (W : World) (P : Option Addr) (c : Nat) (l : List Int) (w : World) : Prop where
  bel : Below W.heap.size W w
  rg : RG W.heap.size w (W.heap.size + 1) W.heap.size P c l
section
variable {W w w' : World} {o b c c' B : Nat} {P P' : Option Addr} {l l' : List Int}
theorem RG.later (h : RG B w o b P c l) (hb : Below w.heap.size w w') : RG B w' o b P c l := by obtain ⟨f, h1, h2⟩ := h; exact ⟨f, h1.later hb, h2⟩
theorem RG.drewN (h : RG B w o b P c l) (q : Nat) : RG B (w.drewN q) o b P c l := by obtain ⟨f, h1, h2⟩ := h; exact ⟨f, h1.drewN q, h2⟩
theorem ST.go (h : ST W P c l w) (h1 : RG W.heap.size w' (W.heap.size + 1) W.heap.size P' c' l' ∧ Chg (W.heap.size + 1) W.heap.size (blk P) (blk P') w w') : ST W P' c' l' w' := by
  obtain ⟨f, h2, _⟩ := h.rg
  exact ⟨h.bel.trans (h2.below h1.2 h.bel.size), h1.1⟩
theorem ST.later (h : ST W P c l w) (hb : Below w.heap.size w w') : ST W P c l w' := ⟨h.bel.trans (hb.mono h.bel.size), h.rg.later hb⟩
theorem ST.drewN (h : ST W P c l w) (q : Nat) : ST W P c l (w.drewN q) := h.later (below_drewN w q)
end
end Go.Proofs.YthiifnbgdajgaaaDoor
