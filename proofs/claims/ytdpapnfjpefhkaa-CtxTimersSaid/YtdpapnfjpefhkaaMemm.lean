/- A heap in memory: its items, where each stands, the last turn; how it carries. No condition.
What cmp.Compare, cmp.Or and order of package heap answer. No condition.
What the small calls of package heap do. Conditions: each theorem's own premises. -/
import Derived.Test.YtdpapnfjpefhkaaChecked
import Derived.Test.YtdpapnfjpefhkaaHpm
import Derived.WalkKit
import Derived.Below
import Derived.Laws.OwnMore
import Derived.Deep.AppendLies
import Derived.Laws.Rows
import Derived.Laws.BitsAllLaws
import Derived.Lib.Hide
import Derived.Outline
import Derived.BigQuiet
import Derived.Deep.QuietTactic
import Derived.Deep.RegionWith
import Derived.Deep.RegionLaw
import Derived.StillTailTactics
import Derived.Maps.OwnSet
import Derived.Sort.Grow
import Derived.Deep.RegionHeld3
namespace Go.Proofs.Ytdpapnfjpefhkaa
open Go.RowKit
set_option linter.unusedVariables false
set_option maxRecDepth 100000

theorem cell_blk {w w' : World} {b : Nat} (h : w'.heap[b]? = w.heap[b]?) (i : Nat) : w'.cell? ⟨b, i, none⟩ = w.cell? ⟨b, i, none⟩ := World.cell?_of_block (a := ⟨b, i, none⟩) h
theorem frozen_blk {w w' : World} {b : Nat} (h : w'.heap[b]? = w.heap[b]?) (i : Nat) : w'.frozen? ⟨b, i, none⟩ = w.frozen? ⟨b, i, none⟩ := World.frozen?_of_block (a := ⟨b, i, none⟩) h
theorem below_al (w : World) (o : Obj) : Below w.heap.size w (w.alloc o) := (Below.refl _ _).alloc (Nat.le_refl _) _
theorem below_drewN (w : World) (q : Nat) : Below w.heap.size w (w.drewN q) := ⟨rfl, rfl, rfl, Nat.le_refl _, fun _ _ => rfl⟩
theorem lt_of_blk {w : World} {b : Nat} {o : Obj} (h : w.heap[b]? = some o) : b < w.heap.size := (Array.getElem?_eq_some_iff.1 h).1

/-! Rows of items. -/
def eI (x : It) : List Value := [.int .i64 x.id, .int .i64 x.w, .int .i64 x.s]
theorem eI_len (x : It) : (eI x).length = 3 := rfl
def iV (l : List It) : List Value := l.flatMap eI
theorem flat_len {α : Type} (f : α → List Value) (s : Nat) (hs : ∀ x, (f x).length = s) : ∀ l : List α, (l.flatMap f).length = l.length * s
  | [] => by simp
  | a :: l => by rw [List.flatMap_cons, List.length_append, hs, flat_len f s hs l, List.length_cons]; rw [Nat.add_mul]; omega
theorem flat_at {α : Type} (f : α → List Value) (s : Nat) (hs : ∀ x, (f x).length = s) : ∀ (l : List α) (i : Nat) (x : α), l[i]? = some x → ∀ j, j < s → (l.flatMap f)[i * s + j]? = (f x)[j]?
  | [], i, x, h, _, _ => by simp at h
  | a :: l, 0, x, h, j, hj => by
    simp at h; subst h
    rw [List.flatMap_cons, Nat.zero_mul, Nat.zero_add, List.getElem?_append_left (by rw [hs]; exact hj)]
  | a :: l, i + 1, x, h, j, hj => by
    rw [List.flatMap_cons, List.getElem?_append_right (by rw [hs, Nat.add_mul]; omega), hs, ← flat_at f s hs l i x (by simpa using h) j hj]
    congr 1
    rw [Nat.add_mul]; omega
theorem flat_mem {α : Type} (f : α → List Value) (s : Nat) (hs : ∀ x, (f x).length = s) (h0 : 0 < s) (l : List α) (j : Nat) (u : Value) (hu : (l.flatMap f)[j]? = some u) : ∃ i k x, j = i * s + k ∧ k < s ∧ l[i]? = some x ∧ (f x)[k]? = some u := by
  have hj : j < l.length * s := by rw [← flat_len f s hs]; exact (List.getElem?_eq_some_iff.1 hu).1
  have hi : j / s < l.length := Nat.div_lt_of_lt_mul (by rw [Nat.mul_comm]; exact hj)
  have hk : j % s < s := Nat.mod_lt _ h0
  have ej : j = j / s * s + j % s := by rw [Nat.mul_comm]; exact (Nat.div_add_mod j s).symm
  refine ⟨j / s, j % s, l[j / s]'hi, ej, hk, List.getElem?_eq_getElem hi, ?_⟩
  rw [← flat_at f s hs l _ _ (List.getElem?_eq_getElem hi) _ hk, ← ej]; exact hu
theorem iV_len (l : List It) : (iV l).length = l.length * 3 := flat_len eI 3 eI_len l
theorem iV_at {l : List It} {i : Nat} {x : It} (h : l[i]? = some x) (j : Nat) (hj : j < 3) : (iV l)[i * 3 + j]? = (eI x)[j]? := flat_at eI 3 eI_len l i x h j hj
theorem iV_app (l m : List It) : iV l ++ iV m = iV (l ++ m) := by simp [iV]
theorem iV_snoc (l : List It) (x : It) : iV l ++ [.int .i64 x.id, .int .i64 x.w, .int .i64 x.s] = iV (l ++ [x]) := by simp [iV, eI]
theorem eI_one (x : It) : ∀ u ∈ eI x, u.oneCell' = true := by intro u hu; simp [eI] at hu; rcases hu with rfl | rfl | rfl <;> rfl
theorem iV_one (l : List It) : ∀ u ∈ iV l, u.oneCell' = true := by intro u hu; obtain ⟨x, _, hx⟩ := List.mem_flatMap.1 hu; exact eI_one x u hx
theorem iV_take (l : List It) (n : Nat) : iV (l.take n) = (iV l).take (n * 3) := by
  induction l generalizing n with
  | nil => simp [iV]
  | cons a t ih =>
    cases n with
    | zero => simp [iV]
    | succ n =>
      have : (n + 1) * 3 = n * 3 + 1 + 1 + 1 := by omega
      rw [this]
      have e := ih n
      simp only [iV, List.take_succ_cons, List.flatMap_cons, eI, List.cons_append, List.nil_append] at e ⊢
      rw [e]
theorem iV_set {l : List It} {i : Nat} (hi : i < l.length) (x : It) : (((iV l).set (i * 3) (.int .i64 x.id)).set (i * 3 + 1) (.int .i64 x.w)).set (i * 3 + 2) (.int .i64 x.s) = iV (l.set i x) := by
  induction l generalizing i with
  | nil => simp at hi
  | cons a t ih =>
    cases i with
    | zero => simp [iV, eI]
    | succ i =>
      have e := ih (i := i) (by simpa using hi)
      have e1 : (i + 1) * 3 = i * 3 + 1 + 1 + 1 := by omega
      have e2 : (i + 1) * 3 + 1 = (i * 3 + 1) + 1 + 1 + 1 := by omega
      have e3 : (i + 1) * 3 + 2 = (i * 3 + 2) + 1 + 1 + 1 := by omega
      rw [e3, e2, e1]
      simp only [iV, List.set_cons_succ, List.flatMap_cons, eI, List.cons_append, List.nil_append] at e ⊢
      rw [e]

section
variable {l : List Int} {p i : Nat} {x y : Int}
theorem nd_inj (hn : l.Nodup) (hi : l[i]? = some x) (hp : l[p]? = some x) : i = p :=
  (List.getElem?_inj (List.getElem?_eq_some_iff.1 hi).1 hn).1 (hi.trans hp.symm)
theorem cut_mem (hn : l.Nodup) (hp : l[p]? = some x) : y ∈ l.eraseIdx p ↔ y ∈ l ∧ y ≠ x := by
  rw [List.mem_eraseIdx_iff_getElem?]
  constructor
  · rintro ⟨i, h1, h2⟩
    refine ⟨at_mem h2, fun e => h1 ?_⟩
    subst e
    exact nd_inj hn h2 hp
  · rintro ⟨h1, h2⟩
    obtain ⟨i, hi, _⟩ := mem_at h1
    refine ⟨i, fun e => h2 ?_, hi⟩
    subst e
    rw [hi] at hp; injection hp
theorem cut_len (hp : l[p]? = some x) : (l.eraseIdx p).length + 1 = l.length := by
  have := at_lt hp
  rw [List.length_eraseIdx, if_pos this]; omega
theorem cut_sub (h : y ∈ l.eraseIdx p) : y ∈ l := (List.eraseIdx_sublist _ _).subset h
end
/-! Where each stands. -/
abbrev kL (x : Int) : Lit := .int .i64 x
abbrev dL (x : Int) : DataW Unit := .lit (.int .i64 x)
theorem dL_inj {a b : Int} (h : dL a = dL b) : a = b := by injection h with h; injection h
def Wf (x : Int) : Prop := (Lit.int .i64 x).wf = true
theorem wf_of {x : Int} (h1 : -9223372036854775808 ≤ x) (h2 : x ≤ 9223372036854775807) : Wf x := WalkArith.wf_i64 ⟨h1, h2⟩
theorem law : Maps.Keyed Try.prog 3 := Maps.int_keyed Try.underlying3
theorem zeroI (w : World) : (zeroValue 3).run Try.prog w = .ok (.int .i64 0) w := by kernel_rfl
theorem keyI {x : Int} (h : Wf x) : keyOf Try.prog 3 (.int .i64 x) = some (kL x) := Maps.keyOf_int_mk Try.underlying3 h
theorem elI {x : Int} (h : Wf x) : plainElem (H := Unit) Try.prog 3 (.int .i64 x) = some (dL x, []) := plainElem_int Try.underlying3 h
theorem kL_ne {x y : Int} (h : x ≠ y) : kL x ≠ kL y := fun e => h (by injection e)
theorem kL_key (x : Int) : WideAt.IsKeyLit (kL x) := trivial

/-- Nothing but block b has turned. -/
def Trn (w w' : World) (b : Nat) : Prop := w'.os = w.os ∧ w'.tape = w.tape ∧ w'.output = w.output ∧ w'.heap.size = w.heap.size ∧ ∀ k, k ≠ b → w'.heap[k]? = w.heap[k]?
theorem turned_block {w w' : World} {b : Nat} (h : w.mapTurned w' b) : Trn w w' b := by
  obtain ⟨es, clock, es', clock', hb, rfl⟩ := h
  exact ⟨rfl, rfl, rfl, by simp [ChangeMaps.setBlock], fun k hk => ChangeMaps.heap_setBlock_other hb _ hk⟩
/-- Block b is a map whose keys are the members of l; at x it holds f x. -/
def Tm (w : World) (b : Nat) (l : List Int) (f : Int → Int) : Prop :=
  ∃ D : DataW Unit, w.ownsMap Try.prog 3 (plainElem Try.prog 3) b l.length D ∧ Maps.size D = l.length ∧ (∀ x, Maps.has D (kL x) = decide (x ∈ l)) ∧ ∀ x ∈ l, D.atKey (kL x) (dL 0) = dL (f x)
section
variable {w w' : World} {b : Nat} {l : List Int} {f : Int → Int}
theorem own_exact {n : Nat} {D : DataW Unit} (h : w.ownsMap Try.prog 3 (plainElem Try.prog 3) b n D) : w.ownsMap Try.prog 3 (plainElem Try.prog 3) b (Maps.size D) D := by
  obtain ⟨es, clock, hb, F, _, rfl⟩ := h
  refine ⟨es, clock, hb, F, ?_, rfl⟩
  simp [Maps.size, length_sorted]
theorem Tm.lt (h : Tm w b l f) : b < w.heap.size := by obtain ⟨D, h, _⟩ := h; exact h.lt
theorem Tm.blk (h : Tm w b l f) : ∃ es clock, w.heap[b]? = some (.map es clock) := by obtain ⟨D, ⟨es, clock, h, _⟩, _⟩ := h; exact ⟨es, clock, h⟩
theorem Tm.keep (h : Tm w b l f) (e : w'.heap[b]? = w.heap[b]?) : Tm w' b l f := by
  obtain ⟨D, ⟨es, clock, h1, h2⟩, h3⟩ := h
  exact ⟨D, ⟨es, clock, by rw [e]; exact h1, h2⟩, h3⟩
theorem Tm.congr {g : Int → Int} (h : Tm w b l f) (e : ∀ x ∈ l, f x = g x) : Tm w b l g := by
  obtain ⟨D, h1, h2, h3, h4⟩ := h
  exact ⟨D, h1, h2, h3, fun x hx => by rw [h4 x hx, e x hx]⟩
theorem Tm.new (w : World) (f : Int → Int) : Tm (w.alloc (.map #[] 0)) w.heap.size [] f :=
  ⟨_, World.ownsMap_made w Try.prog 3 (plainElem Try.prog 3), rfl, fun x => rfl, fun x hx => by cases hx⟩
theorem Tm.look (h : Tm w b l f) {x : Int} (hx : Wf x) : ∃ c, (Instr.lookup 95 (.map (some b)) (.int .i64 x) true).run Try.prog w = .ok (.tuple #[.int .i64 c, .bool (decide (x ∈ l))]) w := by
  obtain ⟨D, h1, h2, h3, h4⟩ := h
  obtain ⟨v, ps, hrun, hv⟩ := h1.look_ok law Try.underlying95 (zeroI w) (elI (wf_of (by omega) (by omega))) (keyI hx)
  obtain ⟨c, rfl, _, _⟩ := plainElem_int_inv Try.underlying3 hv
  rw [h3] at hrun
  exact ⟨c, hrun⟩
theorem Tm.get (h : Tm w b l f) {x : Int} (hx : Wf x) (hm : x ∈ l) : (Instr.lookup 95 (.map (some b)) (.int .i64 x) false).run Try.prog w = .ok (.int .i64 (f x)) w := by
  obtain ⟨D, h1, h2, h3, h4⟩ := h
  obtain ⟨c, hrun, hat, _⟩ := h1.lookup_int law Try.underlying95 Try.underlying3 (zeroI w) (keyI hx)
  rw [h4 x hm] at hat
  have : f x = c := dL_inj hat
  rw [this]; exact hrun
theorem Tm.store (h : Tm w b l f) {x v : Int} (hx : Wf x) (hv : Wf v) (hn : l.length < maxLen) :
    ∃ w', (Instr.mapUpdate 95 (.map (some b)) (.int .i64 x) (.int .i64 v)).run Try.prog w = .ok () w' ∧ Trn w w' b ∧ Tm w' b (if x ∈ l then l else l ++ [x]) (fun y => if y = x then v else f y) := by
  obtain ⟨D, h1, h2, h3, h4⟩ := h
  obtain ⟨w', hrun, ho, ht⟩ := h1.store law Try.underlying95 hn (keyI hx) (elI hv)
  refine ⟨w', hrun, turned_block ht, D.put (kL x) (dL v), ?_, ?_, ?_, ?_⟩
  · have := own_exact ho
    rw [Maps.size_put (h1.tidy law), h3] at this
    by_cases hm : x ∈ l
    · rw [if_pos hm]; rw [decide_eq_true hm, if_pos rfl, h2] at this; exact this
    · rw [if_neg hm]; rw [decide_eq_false hm, if_neg (by simp), h2] at this; simpa using this
  · rw [Maps.size_put (h1.tidy law), h3, h2]
    by_cases hm : x ∈ l
    · rw [if_pos hm, decide_eq_true hm, if_pos rfl]
    · rw [if_neg hm, decide_eq_false hm, if_neg (by simp)]; simp
  · intro y
    by_cases e : y = x
    · subst e
      rw [Maps.has_put_same h1.isMap (kL_key _)]
      split <;> simp_all
    · rw [Maps.has_put_other (kL_ne e), h3]
      split <;> simp_all
  · intro y hy
    by_cases e : y = x
    · subst e
      rw [Maps.atKey_put_same h1.isMap (kL_key _)]; simp
    · rw [Maps.atKey_put_other (kL_ne e)]
      show _ = dL (if y = x then v else f y)
      rw [if_neg e]
      refine h4 y ?_
      split at hy
      · exact hy
      · simpa [e] using hy
theorem Tm.drop (h : Tm w b l f) (hd : l.Nodup) {x : Int} {p : Nat} (hx : Wf x) (hp : l[p]? = some x) (ty : TypeId) :
    ∃ w', (Builtin.delete_ #[95, 3] ty #[.map (some b), .int .i64 x]).run Try.prog w = .ok (.tuple #[]) w' ∧ Trn w w' b ∧ Tm w' b (l.eraseIdx p) f := by
  obtain ⟨D, h1, h2, h3, h4⟩ := h
  obtain ⟨w', hrun, ho, ht⟩ := h1.drop law Try.underlying95 (keyI hx) ty
  have hs := Maps.size_del (k := kL x) (h1.tidy law)
  rw [h3, decide_eq_true (at_mem hp), if_pos rfl, h2] at hs
  have hl := cut_len hp
  have hs2 : Maps.size (D.del (kL x)) = (l.eraseIdx p).length := by omega
  refine ⟨w', hrun, turned_block ht, D.del (kL x), by rw [← hs2]; exact own_exact ho, hs2, fun y => ?_, fun y hy => ?_⟩
  · by_cases e : y = x
    · subst e
      rw [Maps.has_del_same, eq_comm, decide_eq_false_iff_not, cut_mem hd hp]
      exact fun h => h.2 rfl
    · rw [Maps.has_del_other (kL_ne e), h3]
      exact decide_eq_decide.2 ⟨fun h => (cut_mem hd hp).2 ⟨h, e⟩, cut_sub⟩
  · have e := (cut_mem hd hp).1 hy
    rw [Maps.atKey_del_other (kL_ne e.2)]
    exact h4 y e.1
end

/-! A row of the call's own. -/
/-- The block that a slice lies in. -/
def blk (P : Option Addr) : Option Nat := P.map Addr.block
theorem own_blk (P : Option Addr) (n c : Nat) : (Value.slice P n c).ownBlock = blk P := by cases P <;> rfl
section
variable {w w' : World} {e s B n c : Nat} {P : Option Addr} {xs : List Value}
theorem row_lt (h : w.ownsRow B e s (.slice P n c) n xs) {k : Nat} (hk : blk P = some k) : B ≤ k ∧ k < w.heap.size := h.lt k (by rw [own_blk]; exact hk)
theorem row_tag (h : w.ownsRow B e s (.slice P n c) n xs) {k : Nat} (hk : blk P = some k) : ∃ cs fr, w.heap[k]? = some (.cells cs e fr) := by
  rcases h.2 with ⟨h1, _⟩ | ⟨g, cap, cur, h1, _, h2, _⟩
  · injection h1 with h1; subst h1; cases hk
  · injection h1 with h1; subst h1; cases hk; exact ⟨cur, (0, 0), h2⟩
theorem row_keep (h : w.ownsRow B e s (.slice P n c) n xs) (hb : ∀ k, blk P = some k → w'.heap[k]? = w.heap[k]?) : w'.ownsRow B e s (.slice P n c) n xs := by
  refine ⟨h.1, ?_⟩
  rcases h.2 with h1 | ⟨g, cap, cur, h1, h2, h3, h4⟩
  · exact .inl h1
  · refine .inr ⟨g, cap, cur, h1, h2, ?_, h4⟩
    injection h1 with h1; subst h1
    rw [hb g rfl]; exact h3
theorem row_later (h : w.ownsRow B e s (.slice P n c) n xs) (hb : Below w.heap.size w w') : w'.ownsRow B e s (.slice P n c) n xs := row_keep h fun k hk => hb.block k (row_lt h hk).2
theorem row_form (h : w.ownsRow B e s (.slice P n c) n xs) (hn : 0 < n) : ∃ g, P = some ⟨g, 0, none⟩ ∧ n ≤ c := by
  rcases h.2 with ⟨_, h0⟩ | ⟨g, cap, cur, h1, _, _, h2, _⟩
  · omega
  · injection h1 with h1 h3 h4; subst h4; exact ⟨g, h1, h2⟩
theorem row_cap (h : w.ownsRow B e s (.slice P n c) n xs) : n ≤ c ∧ c ≤ maxLen := by
  rcases h.2 with ⟨h1, h0⟩ | ⟨g, cap, cur, h1, _, _, h2, h3, _⟩
  · injection h1 with h1 h2 h3; subst h3; exact ⟨by omega, by unfold maxLen; omega⟩
  · injection h1 with h1 h3' h4; subst h4; exact ⟨h2, h3⟩
end
theorem set_os {g : Nat} : ∀ (vs : List Value) (o : Nat) (w : World), (w.setCells g o vs).os = w.os ∧ (w.setCells g o vs).tape = w.tape ∧ (w.setCells g o vs).output = w.output ∧ (w.setCells g o vs).heap.size = w.heap.size ∧ ∀ k, k ≠ g → (w.setCells g o vs).heap[k]? = w.heap[k]?
  | [], o, w => ⟨rfl, rfl, rfl, rfl, fun _ _ => rfl⟩
  | v :: vs, o, w => by
    obtain ⟨h1, h2, h3, h4, h5⟩ := set_os (g := g) vs (o + 1) (w.setCell ⟨g, o, none⟩ v)
    exact ⟨h1, h2, h3, h4.trans (by simp [World.setCell]), fun k hk => (h5 k hk).trans (Below.heap_setCell _ _ _ _ hk)⟩
theorem Tm.perm {w : World} {b : Nat} {l l' : List Int} {f : Int → Int} (h : Tm w b l f) (e : l.Perm l') : Tm w b l' f := by
  obtain ⟨D, h1, h2, h3, h4⟩ := h
  refine ⟨D, by rw [← e.length_eq]; exact h1, by rw [← e.length_eq]; exact h2, fun x => by rw [h3]; exact decide_eq_decide.2 e.mem_iff, fun x hx => h4 x (e.mem_iff.2 hx)⟩
/-- The slice cut short. -/
theorem row_short {w : World} {B e n c g m : Nat} {xs : List Value} (h : w.ownsRow B e 3 (.slice (some ⟨g, 0, none⟩) n c) n xs) (hm : m ≤ n) : w.ownsRow B e 3 (.slice (some ⟨g, 0, none⟩) m c) m (xs.take (m * 3)) := by
  have h0 := h.1
  refine ⟨by simp; omega, .inr ?_⟩
  rcases h.2 with ⟨h1, _⟩ | ⟨g', cap, cur, h1, h2, h3, h4, h5, h6, h7⟩
  · cases h1
  · injection h1 with h1 h8 h9
    injection h1 with h1
    injection h1 with h1
    subst h1; subst h9
    refine ⟨g, c, cur, rfl, h2, h3, by omega, h5, h6, ?_⟩
    rw [← h7, List.take_take, Nat.min_eq_left (by omega)]

/-- Block o is a heap: its items m lie in the slice P, its map in block b, which holds f x at each x of K; n is the last turn. -/
structure HB (B : Nat) (w : World) (o b : Nat) (P : Option Addr) (c n : Nat) (m : List It) (K : List Int) (f : Int → Int) : Prop where
  ho : w.heap[o]? = some (.cells #[.slice P m.length c, .map (some b), .int .i64 n] 179 (0, 0))
  own : w.ownsRow B 150 3 (.slice P m.length c) m.length (iV m)
  tm : Tm w b K f
  wf : ∀ x ∈ m, Wf x.id
  go : B ≤ o
  gb : B ≤ b
/-- Nothing but the heap's three blocks has turned; where its slice lies elsewhere, that is new. -/
structure Chg (o b : Nat) (p p' : Option Nat) (w w' : World) : Prop where
  os : w'.os = w.os
  tape : w'.tape = w.tape
  output : w'.output = w.output
  size : w.heap.size ≤ w'.heap.size
  block : ∀ k, k < w.heap.size → k ≠ o → k ≠ b → p ≠ some k → w'.heap[k]? = w.heap[k]?
  new : p' = p ∨ ∀ k, p' = some k → w.heap.size ≤ k
theorem Chg.trans {o b : Nat} {p p' p'' : Option Nat} {u v w : World} (h : Chg o b p p' u v) (k : Chg o b p' p'' v w) : Chg o b p p'' u w := by
  have h0 := h.size
  refine ⟨k.os.trans h.os, k.tape.trans h.tape, k.output.trans h.output, Nat.le_trans h.size k.size, fun i h1 h2 h3 h4 => (k.block i (by omega) h2 h3 (fun e => ?_)).trans (h.block i h1 h2 h3 h4), ?_⟩
  · rcases h.new with h5 | h5
    · exact h4 (h5.symm.trans e)
    · have := h5 i e; omega
  · rcases k.new with h6 | h6
    · subst h6; exact h.new
    · exact .inr fun i hi => by have := h6 i hi; omega
theorem Chg.of_below {o b : Nat} (p : Option Nat) {w w' : World} (h : Below w.heap.size w w') : Chg o b p p w w' := ⟨h.os, h.tape, h.output, h.size, fun k hk _ _ _ => h.block k hk, .inl rfl⟩
theorem Chg.refl {o b : Nat} (p : Option Nat) (w : World) : Chg o b p p w w := Chg.of_below p (Below.refl _ _)

section
variable {w w' : World} {B o b c n : Nat} {P : Option Addr} {m : List It} {K : List Int} {f g : Int → Int}
theorem HB.c0 (h : HB B w o b P c n m K f) : w.cell? ⟨o, 0, none⟩ = some (.slice P m.length c) := by rw [cell_of_row w o 0 _ _ _ h.ho]; rfl
theorem HB.c1 (h : HB B w o b P c n m K f) : w.cell? ⟨o, 1, none⟩ = some (.map (some b)) := by rw [cell_of_row w o 1 _ _ _ h.ho]; rfl
theorem HB.c2 (h : HB B w o b P c n m K f) : w.cell? ⟨o, 2, none⟩ = some (.int .i64 n) := by rw [cell_of_row w o 2 _ _ _ h.ho]; rfl
theorem HB.fo (h : HB B w o b P c n m K f) (i : Nat) : w.frozen? ⟨o, i, none⟩ = false := frozen_of_row w o i _ _ h.ho
theorem HB.lo (h : HB B w o b P c n m K f) : o < w.heap.size := lt_of_blk h.ho
theorem HB.ne (h : HB B w o b P c n m K f) : o ≠ b := by
  obtain ⟨es, cl, hb⟩ := h.tm.blk
  intro e; rw [← e, h.ho] at hb; cases hb
theorem HB.npo (h : HB B w o b P c n m K f) : blk P ≠ some o := by
  intro e
  obtain ⟨cs, fr, ht⟩ := row_tag h.own e
  rw [h.ho] at ht; injection ht with ht; injection ht with _ ht; cases ht
theorem HB.npb (h : HB B w o b P c n m K f) : blk P ≠ some b := by
  intro e
  obtain ⟨cs, fr, ht⟩ := row_tag h.own e
  obtain ⟨es, cl, hb⟩ := h.tm.blk
  rw [hb] at ht; cases ht
theorem HB.keep (h : HB B w o b P c n m K f) (e1 : w'.heap[o]? = w.heap[o]?) (e2 : w'.heap[b]? = w.heap[b]?) (e3 : ∀ k, blk P = some k → w'.heap[k]? = w.heap[k]?) : HB B w' o b P c n m K f :=
  ⟨by rw [e1]; exact h.ho, row_keep h.own e3, h.tm.keep e2, h.wf, h.go, h.gb⟩
theorem HB.later (h : HB B w o b P c n m K f) (hb : Below w.heap.size w w') : HB B w' o b P c n m K f := h.keep (hb.block _ h.lo) (hb.block _ h.tm.lt) fun k hk => hb.block _ (row_lt h.own hk).2
theorem HB.drewN (h : HB B w o b P c n m K f) (q : Nat) : HB B (w.drewN q) o b P c n m K f := h.keep rfl rfl fun _ _ => rfl
theorem HB.perm {K' : List Int} (h : HB B w o b P c n m K f) (e : K.Perm K') : HB B w o b P c n m K' f := ⟨h.ho, h.own, h.tm.perm e, h.wf, h.go, h.gb⟩
theorem Chg.below {p p' : Option Nat} (h : Chg o b p p' w w') (ho : B ≤ o) (hb : B ≤ b) (hp : ∀ k, p = some k → B ≤ k) (hB : B ≤ w.heap.size) : Below B w w' :=
  ⟨h.os, h.tape, h.output, h.size, fun k hk => h.block k (by omega) (by omega) (by omega) (fun e => by have := hp k e; omega)⟩
theorem HB.below {p' : Option Nat} (h : HB B w o b P c n m K f) (hc : Chg o b (blk P) p' w w') (hB : B ≤ w.heap.size) : Below B w w' := hc.below h.go h.gb (fun k hk => (row_lt h.own hk).1) hB
/-- The cells of an item. -/
theorem HB.at (h : HB B w o b P c n m K f) {j : Nat} {x : It} (hx : m[j]? = some x) : ∃ g, P = some ⟨g, 0, none⟩ ∧ w.cell? ⟨g, j * 3, none⟩ = some (.int .i64 x.id) ∧ w.cell? ⟨g, j * 3 + 1, none⟩ = some (.int .i64 x.w) ∧ w.cell? ⟨g, j * 3 + 2, none⟩ = some (.int .i64 x.s) := by
  have hj := at_lt hx
  obtain ⟨g, rfl, hc⟩ := row_form h.own (by omega)
  refine ⟨g, rfl, ?_, ?_, ?_⟩
  · rw [h.own.cellAt (j * 3) (by omega)]; exact iV_at hx 0 (by omega)
  · rw [h.own.cellAt (j * 3 + 1) (by omega)]; exact iV_at hx 1 (by omega)
  · rw [h.own.cellAt (j * 3 + 2) (by omega)]; exact iV_at hx 2 (by omega)
/-- The map has turned. -/
theorem HB.mapped {K' : List Int} (h : HB B w o b P c n m K f) (ht : Trn w w' b) (tm : Tm w' b K' g) : HB B w' o b P c n m K' g ∧ Chg o b (blk P) (blk P) w w' := by
  obtain ⟨h1, h2, h3, h4, h5⟩ := ht
  exact ⟨⟨by rw [h5 o h.ne]; exact h.ho, row_keep h.own fun k hk => h5 k fun e => h.npb (by rw [← e]; exact hk), tm, h.wf, h.go, h.gb⟩, ⟨h1, h2, h3, by omega, fun k _ _ h6 _ => h5 k h6, .inl rfl⟩⟩
/-- An item is put over another. -/
theorem HB.stored {i gB : Nat} (h : HB B w o b (some ⟨gB, 0, none⟩) c n m K f) (hi : i < m.length) (x : It) (hx : Wf x.id) :
    HB B (((w.setCell ⟨gB, i * 3, none⟩ (.int .i64 x.id)).setCell ⟨gB, i * 3 + 1, none⟩ (.int .i64 x.w)).setCell ⟨gB, i * 3 + 2, none⟩ (.int .i64 x.s)) o b (some ⟨gB, 0, none⟩) c n (m.set i x) K f ∧
      Chg o b (some gB) (some gB) w (((w.setCell ⟨gB, i * 3, none⟩ (.int .i64 x.id)).setCell ⟨gB, i * 3 + 1, none⟩ (.int .i64 x.w)).setCell ⟨gB, i * 3 + 2, none⟩ (.int .i64 x.s)) := by
  have key : ∀ k, k ≠ gB → (((w.setCell ⟨gB, i * 3, none⟩ (.int .i64 x.id)).setCell ⟨gB, i * 3 + 1, none⟩ (.int .i64 x.w)).setCell ⟨gB, i * 3 + 2, none⟩ (.int .i64 x.s)).heap[k]? = w.heap[k]? := fun k hk =>
    ((Below.heap_setCell _ _ _ _ (by exact hk)).trans (Below.heap_setCell _ _ _ _ (by exact hk))).trans (Below.heap_setCell _ _ _ _ (by exact hk))
  have ngo : o ≠ gB := fun e => h.npo (by rw [e]; rfl)
  have ngb : b ≠ gB := fun e => h.npb (by rw [e]; rfl)
  have r := (((h.own.stored (i * 3) (.int .i64 x.id)).1.stored (i * 3 + 1) (.int .i64 x.w)).1.stored (i * 3 + 2) (.int .i64 x.s)).1
  rw [iV_set hi] at r
  refine ⟨⟨by rw [key o ngo, List.length_set]; exact h.ho, by rw [List.length_set]; exact r, h.tm.keep (key b ngb), fun y hy => ?_, h.go, h.gb⟩, ⟨rfl, rfl, rfl, by simp, fun k _ _ _ h4 => key k fun e => h4 (by rw [e]), .inl rfl⟩⟩
  rcases List.mem_or_eq_of_mem_set hy with e | e
  · exact h.wf y e
  · rw [e]; exact hx
/-- The last turn. -/
theorem HB.turned (h : HB B w o b P c n m K f) (n' : Nat) : HB B (w.setCell ⟨o, 2, none⟩ (.int .i64 n')) o b P c n' m K f ∧ Chg o b (blk P) (blk P) w (w.setCell ⟨o, 2, none⟩ (.int .i64 n')) := by
  have key : ∀ k, k ≠ o → (w.setCell ⟨o, 2, none⟩ (.int .i64 n')).heap[k]? = w.heap[k]? := fun k hk => Below.heap_setCell _ _ _ _ (by exact hk)
  refine ⟨⟨by rw [heap_setCell_same _ o 2 _ _ _ h.ho]; rfl, row_keep h.own fun k hk => key k fun e => h.npo (by rw [← e]; exact hk), h.tm.keep (key b h.ne.symm), h.wf, h.go, h.gb⟩, ⟨rfl, rfl, rfl, by simp, fun k _ h2 _ _ => key k h2, .inl rfl⟩⟩
/-- The slice is cut short by the last one. -/
theorem HB.short {gB k : Nat} (h : HB B w o b (some ⟨gB, 0, none⟩) c n m K f) (hk : k ≤ m.length) :
    HB B (w.setCell ⟨o, 0, none⟩ (.slice (some ⟨gB, 0, none⟩) k c)) o b (some ⟨gB, 0, none⟩) c n (m.take k) K f ∧ Chg o b (some gB) (some gB) w (w.setCell ⟨o, 0, none⟩ (.slice (some ⟨gB, 0, none⟩) k c)) := by
  have key : ∀ j, j ≠ o → (w.setCell ⟨o, 0, none⟩ (.slice (some ⟨gB, 0, none⟩) k c)).heap[j]? = w.heap[j]? := fun j hj => Below.heap_setCell _ _ _ _ (by exact hj)
  have el : (m.take k).length = k := by simp; omega
  have r := row_short h.own hk
  rw [← iV_take] at r
  refine ⟨⟨by rw [heap_setCell_same _ o 0 _ _ _ h.ho, el]; rfl, by rw [el]; exact row_keep r fun j hj => key j fun e => h.npo (by rw [← e]; exact hj), h.tm.keep (key b h.ne.symm), fun x hx => h.wf x (List.mem_of_mem_take hx), h.go, h.gb⟩, ⟨rfl, rfl, rfl, by simp, fun j _ h2 _ _ => key j h2, .inl rfl⟩⟩
/-- One more: what an append and the store behind it leave. -/
theorem HB.added {wy w1 : World} {gB cap : Nat} {x : It} (h : HB B w o b P c n m K f) (hx : Wf x.id) (hy : Below w.heap.size w wy)
    (ho : w1.ownsRow B 150 3 (.slice (some ⟨gB, 0, none⟩) (m.length + 1) cap) (m.length + 1) (iV m ++ eI x)) (hg : wy.grownBy w1 (Value.slice P m.length c).ownBlock) (hat : (Value.slice P m.length c).ownBlock = some gB ∨ w.heap.size ≤ gB) :
    HB B (w1.setCell ⟨o, 0, none⟩ (.slice (some ⟨gB, 0, none⟩) (m.length + 1) cap)) o b (some ⟨gB, 0, none⟩) cap n (m ++ [x]) K f ∧ Chg o b (blk P) (some gB) w (w1.setCell ⟨o, 0, none⟩ (.slice (some ⟨gB, 0, none⟩) (m.length + 1) cap)) := by
  rw [own_blk] at hg hat
  have hs := hy.size
  have hlo := h.lo
  have hlb := h.tm.lt
  have key : ∀ k, k < w.heap.size → blk P ≠ some k → w1.heap[k]? = w.heap[k]? := fun k hk hne => (hg.block k (by omega) (fun e => hne e.symm)).trans (hy.block k (by omega))
  have ho1 := (key o hlo h.npo).trans h.ho
  have hb1 := key b hlb h.npb
  have hgo : gB ≠ o := by
    intro e; subst e
    rcases hat with h1 | h1
    · exact h.npo h1
    · omega
  have hsz : w.heap.size ≤ w1.heap.size := by have := hg.size; omega
  have e1 : (m ++ [x]).length = m.length + 1 := by simp
  refine ⟨⟨?_, ?_, ?_, ?_, h.go, h.gb⟩, ⟨?_, ?_, ?_, ?_, ?_, ?_⟩⟩
  · rw [heap_setCell_same _ o 0 _ _ _ ho1, e1]; rfl
  · rw [e1, ← iV_snoc]
    refine row_keep ho fun k hk => ?_
    injection hk with hk; subst hk
    exact Below.heap_setCell _ _ _ _ hgo
  · exact h.tm.keep ((Below.heap_setCell _ _ _ _ (fun e => h.ne e.symm)).trans hb1)
  · intro y hy
    simp at hy
    rcases hy with hy | rfl
    · exact h.wf y hy
    · exact hx
  · exact hg.os.trans hy.os
  · exact hg.tape.trans hy.tape
  · exact hg.output.trans hy.output
  · simpa [World.setCell] using hsz
  · intro k hk n1 n2 n3
    rw [Below.heap_setCell _ _ _ _ (by exact n1)]
    exact key k hk n3
  · rcases hat with h1 | h1
    · exact .inl h1.symm
    · exact .inr fun k hk => by injection hk with hk; subst hk; omega
/-- A new one. -/
theorem HB.new (w : World) (hB : B ≤ w.heap.size) (f : Int → Int) : HB B ((w.alloc (.map #[] 0)).alloc (.cells #[.slice none 0 0, .map (some w.heap.size), .int .i64 0] 179)) (w.heap.size + 1) w.heap.size none 0 0 [] [] f := by
  refine ⟨?_, World.ownsRow_nil _ _ _ _, (Tm.new w f).keep (Below.heap_alloc _ _ _ (by simp)), fun x hx => (by cases hx), by omega, hB⟩
  have := heap_alloc_new (w.alloc (.map #[] 0)) (.cells #[.slice none 0 0, .map (some w.heap.size), .int .i64 0] 179)
  rw [World.size_alloc] at this
  exact this
end

/-- A heap whose items are those of S, in some order, each behind the one above it, its place told by the map; p: where its slice lies. -/
def HG (B : Nat) (w : World) (o b : Nat) (p : Option Nat) (n : Nat) (S : List It) : Prop :=
  ∃ P c m f, blk P = p ∧ HB B w o b P c n m (ids m) f ∧ Pl m f ∧ Hp m ∧ m.Perm S
section
variable {w w' : World} {B o b n : Nat} {p p' : Option Nat} {S S' : List It}
theorem HG.later (h : HG B w o b p n S) (hb : Below w.heap.size w w') : HG B w' o b p n S := by
  obtain ⟨P, c, m, f, e, h1, h2⟩ := h
  exact ⟨P, c, m, f, e, h1.later hb, h2⟩
theorem HG.keep (h : HG B w o b p n S) (e1 : w'.heap[o]? = w.heap[o]?) (e2 : w'.heap[b]? = w.heap[b]?) (e3 : ∀ k, p = some k → w'.heap[k]? = w.heap[k]?) : HG B w' o b p n S := by
  obtain ⟨P, c, m, f, e, h1, h2⟩ := h
  exact ⟨P, c, m, f, e, h1.keep e1 e2 (by rw [e]; exact e3), h2⟩
theorem HG.below (h : HG B w o b p n S) (hc : Chg o b p p' w w') (hB : B ≤ w.heap.size) : Below B w w' := by
  obtain ⟨P, c, m, f, e, h1, h2⟩ := h
  subst e
  exact h1.below hc hB
theorem HG.perm (h : HG B w o b p n S) (e : S.Perm S') : HG B w o b p n S' := by
  obtain ⟨P, c, m, f, e1, h1, h2, h3, h4⟩ := h
  exact ⟨P, c, m, f, e1, h1, h2, h3, h4.trans e⟩
theorem HG.lo (h : HG B w o b p n S) : o < w.heap.size := by obtain ⟨P, c, m, f, e, h1, h2⟩ := h; exact h1.lo
theorem HG.lb (h : HG B w o b p n S) : b < w.heap.size := by obtain ⟨P, c, m, f, e, h1, h2⟩ := h; exact h1.tm.lt
theorem HG.lp (h : HG B w o b p n S) {k : Nat} (hk : p = some k) : B ≤ k ∧ k < w.heap.size := by obtain ⟨P, c, m, f, e, h1, h2⟩ := h; exact row_lt h1.own (e.trans hk)
theorem HG.to (h : HG B w o b p n S) : ∃ cs fr, w.heap[o]? = some (.cells cs 179 fr) := by obtain ⟨P, c, m, f, e, h1, h2⟩ := h; exact ⟨_, _, h1.ho⟩
theorem HG.tb (h : HG B w o b p n S) : ∃ es cl, w.heap[b]? = some (.map es cl) := by obtain ⟨P, c, m, f, e, h1, h2⟩ := h; exact h1.tm.blk
theorem HG.tp (h : HG B w o b p n S) {k : Nat} (hk : p = some k) : ∃ cs fr, w.heap[k]? = some (.cells cs 150 fr) := by obtain ⟨P, c, m, f, e, h1, h2⟩ := h; exact row_tag h1.own (e.trans hk)
end

/-- A slice of n items reads as l. -/
def Rt (w : World) (A : Option Addr) (n : Nat) (l : List It) : Prop :=
  l.length = n ∧ (0 < n → ∃ b off, A = some ⟨b, off, none⟩ ∧ b < w.heap.size ∧ ∀ j x, l[j]? = some x → w.cell? ⟨b, off + j * 3, none⟩ = some (.int .i64 x.id) ∧ w.cell? ⟨b, off + j * 3 + 1, none⟩ = some (.int .i64 x.w) ∧ w.cell? ⟨b, off + j * 3 + 2, none⟩ = some (.int .i64 x.s))
theorem Rt.later {w w' : World} {A : Option Addr} {n : Nat} {l : List It} (h : Rt w A n l) (hb : Below w.heap.size w w') : Rt w' A n l :=
  ⟨h.1, fun h0 => by
    obtain ⟨b, off, e, hl, hc⟩ := h.2 h0
    have := hb.size
    exact ⟨b, off, e, by omega, fun j u hu => by rw [cell_blk (hb.block b hl), cell_blk (hb.block b hl), cell_blk (hb.block b hl)]; exact hc j u hu⟩⟩
theorem Rt.nil (w : World) (A : Option Addr) : Rt w A 0 [] := ⟨rfl, fun h => absurd h (by omega)⟩
theorem Rt.of_own {w : World} {base e n c : Nat} {A : Option Addr} {l : List It} (h : w.ownsRow base e 3 (.slice A n c) n (iV l)) : Rt w A n l := by
  have hl : l.length = n := by have := h.1; rw [iV_len] at this; omega
  refine ⟨hl, fun hn => ?_⟩
  obtain ⟨g, cap, hv, _, hlt⟩ := h.form hn
  have hA : A = some ⟨g, 0, none⟩ := by injection hv
  subst hA
  refine ⟨g, 0, rfl, hlt, fun j x hx => ?_⟩
  have hj := at_lt hx
  rw [Nat.zero_add, h.cellAt (j * 3) (by omega), h.cellAt (j * 3 + 1) (by omega), h.cellAt (j * 3 + 2) (by omega)]
  exact ⟨iV_at hx 0 (by omega), iV_at hx 1 (by omega), iV_at hx 2 (by omega)⟩
/-- A slice of n numbers reads as l. -/
def Rn (w : World) (A : Option Addr) (n : Nat) (l : List Int) : Prop :=
  l.length = n ∧ (0 < n → ∃ b off, A = some ⟨b, off, none⟩ ∧ b < w.heap.size ∧ ∀ j x, l[j]? = some x → w.cell? ⟨b, off + j, none⟩ = some (.int .i64 x))
theorem Rn.later {w w' : World} {A : Option Addr} {n : Nat} {l : List Int} (h : Rn w A n l) (hb : Below w.heap.size w w') : Rn w' A n l :=
  ⟨h.1, fun h0 => by
    obtain ⟨b, off, e, hl, hc⟩ := h.2 h0
    have := hb.size
    exact ⟨b, off, e, by omega, fun j u hu => (cell_blk (hb.block b hl) _).trans (hc j u hu)⟩⟩
theorem Rn.at {w : World} {A : Option Addr} {n : Nat} {l : List Int} (h : Rn w A n l) (h0 : 0 < n) : ∃ b off, A = some ⟨b, off, none⟩ ∧ b < w.heap.size ∧ ∀ j x, l[j]? = some x → w.cell? ⟨b, off + j, none⟩ = some (.int .i64 x) := h.2 h0
def BoolR (b : Bool) (w : World) (e : Ending) (w' : World) : Prop := e = .returned (.bool b) ∧ Below w.heap.size w w'
end Go.Proofs.Ytdpapnfjpefhkaa
namespace Go.Proofs.Ytdpapnfjpefhkaa
open Go.RowKit Go.Sort
set_option linter.unusedVariables false
set_option maxRecDepth 100000

def cmpI (x y : Int) : Int := if x < y then -1 else if y < x then 1 else 0
def orI (a b : Int) : Int := if a ≠ 0 then a else b
def ordI (x y : It) : Int := orI (cmpI x.w y.w) (cmpI x.s y.s)
theorem ord_neg (x y : It) : ordI x y < 0 ↔ x.lt y := by
  unfold ordI orI cmpI It.lt
  by_cases h1 : x.w < y.w
  · simp [h1]
  · by_cases h2 : y.w < x.w
    · simp [h1, h2]; omega
    · have : x.w = y.w := by omega
      simp [h1, h2]
      repeat' split
      all_goals omega
theorem ord_pos (x y : It) : 0 < ordI x y ↔ y.lt x := by
  unfold ordI orI cmpI It.lt
  by_cases h1 : x.w < y.w
  · simp [h1]; omega
  · by_cases h2 : y.w < x.w
    · simp [h1, h2]
    · have : x.w = y.w := by omega
      simp [h1, h2]
      repeat' split
      all_goals omega

theorem nan_any (x : Int) (w : World) : Calls Try.prog 108 #[.int .i64 x] w fun e w' => e = .returned (.bool false) ∧ w = w' := by
  go_enter Try.func108, Try.ntmps108
  go_wp2
  go_ret
  exact ⟨by simp, rfl⟩
set_option maxHeartbeats 1000000 in
theorem cmp_any (x y : Int) (w : World) : Calls Try.prog 105 #[.int .i64 x, .int .i64 y] w fun e w' => e = .returned (.int .i64 (cmpI x y)) ∧ w = w' := by
  go_enter Try.func105, Try.ntmps105
  go_wp2_with (go_at_call 108; refine (nan_any _ _).mono ?_; rintro e w' ⟨rfl, rfl⟩)
  all_goals (go_ret; refine ⟨?_, rfl⟩; unfold cmpI; (repeat' split) <;> first | rfl | (exfalso; omega))
/-- cmp.Or of two. -/
theorem or_any (x y : Int) (g c : Nat) (w : World) (h0 : w.cell? ⟨g, 0, none⟩ = some (.int .i64 x)) (h1 : w.cell? ⟨g, 1, none⟩ = some (.int .i64 y)) :
    Calls Try.prog 104 #[.slice (some ⟨g, 0, none⟩) 2 c] w fun e w' => e = .returned (.int .i64 (orI x y)) ∧ w = w' := by
  have q0 : (0 : Int) < 2 := by decide
  go_enter Try.func104, Try.ntmps104
  go_wp2_with fail
  go_loopw [8] (fun i wr => ∃ k : Nat, k ≤ 2 ∧ i = .int .i64 k ∧ (0 < k → x = 0) ∧ (1 < k → y = 0) ∧ wr = w) (fun i _ => 2 - (intOf i).toNat)
  case atStart => exact ⟨0, by omega, rfl, fun h => absurd h (by omega), fun h => absurd h (by omega), rfl⟩
  case round =>
    obtain ⟨k, hk, rfl, hz, hy, rfl⟩ := hrel
    match k, hk with
    | 0, _ =>
      by_cases c1 : x = 0
      · have e1 : (x == 0) = true := by simp [c1]
        go_wp2
        go_roundw
        case rel => exact ⟨1, by omega, by go_num, by first | trivial | exact fun _ => c1, by first | trivial | exact fun h => absurd h (by omega), by first | rfl | trivial⟩
        case measure => simp [intOf]
      · have e1 : (x == 0) = false := by simp [c1]
        have e2 : orI x y = x := by simp [orI, c1]
        go_wp2
        go_ret
        exact ⟨by rw [e2]; rfl, rfl⟩
    | 1, _ =>
      have cx := hz (by omega)
      have e2 : orI x y = y := by simp [orI, cx]
      by_cases c1 : y = 0
      · have e1 : (y == 0) = true := by simp [c1]
        go_wp2
        go_roundw
        case rel => exact ⟨2, by omega, by go_num, fun _ => cx, fun _ => c1, by first | rfl | trivial⟩
        case measure => simp [intOf]
      · have e1 : (y == 0) = false := by simp [c1]
        go_wp2
        go_ret
        exact ⟨by rw [e2]; rfl, rfl⟩
    | 2, _ =>
      have cx := hz (by omega)
      have cy := hy (by omega)
      have e2 : orI x y = 0 := by simp [orI, cx, cy]
      go_wp2
      go_ret
      exact ⟨by rw [e2]; rfl, rfl⟩

theorem new_cell {w : World} {cs : Array Value} {t : TypeId} {n i : Nat} {v : Value} (h : cs[i]? = some v) (hn : n = w.heap.size) : (w.alloc (.cells cs t)).drew.cell? ⟨n, i, none⟩ = some v := by
  show (w.alloc (.cells cs t)).cell? ⟨n, i, none⟩ = some v
  rw [World.cell?_alloc_at _ _ _ _ hn]; exact h
/-- Blocks of its own, draws, and no more. -/
def Adds (w w' : World) : Prop := ∃ q os, w' = grow (w.drewN q) os
set_option maxHeartbeats 4000000 in
theorem order_any (x y : It) (w : World) : Calls Try.prog 97 #[.agg #[.int .i64 x.id, .int .i64 x.w, .int .i64 x.s], .agg #[.int .i64 y.id, .int .i64 y.w, .int .i64 y.s]] w fun e w' => e = .returned (.int .i64 (ordI x y)) ∧ Adds w w' := by
  have e3 : ordI x y = orI (cmpI x.w y.w) (cmpI x.s y.s) := rfl
  rw [e3]
  obtain ⟨a, b, c⟩ := x
  obtain ⟨a', b', c'⟩ := y
  dsimp only
  have h1 := fun W => cmp_any b b' W
  have h2 := fun W => cmp_any c c' W
  generalize cmpI b b' = r1 at *
  generalize cmpI c c' = r2 at *
  go_enter Try.func97, Try.ntmps97
  go_wp2_with fail
  have KP : Hid (∀ v, Below (w.heap.size + 2) ((w.alloc (.cells #[.int .i64 a, .int .i64 b, .int .i64 c] 150)).alloc (.cells #[.int .i64 a', .int .i64 b', .int .i64 c'] 150)) v → v.cell? ⟨w.heap.size, 1, none⟩ = some (.int .i64 b) ∧ v.cell? ⟨w.heap.size + 1, 1, none⟩ = some (.int .i64 b') ∧ v.cell? ⟨w.heap.size, 2, none⟩ = some (.int .i64 c) ∧ v.cell? ⟨w.heap.size + 1, 2, none⟩ = some (.int .i64 c')) := fun v hb => by
    refine ⟨?_, ?_, ?_, ?_⟩
    · rw [cell_blk (hb.block _ (by omega))]; simp
    · rw [cell_blk (hb.block _ (by omega))]; simp
    · rw [cell_blk (hb.block _ (by omega))]; simp
    · rw [cell_blk (hb.block _ (by omega))]; simp
  go_region_held3 (fun w' => w'.cell? ⟨w.heap.size, 1, none⟩ = some (.int .i64 b) ∧ w'.cell? ⟨w.heap.size + 1, 1, none⟩ = some (.int .i64 b') ∧ w'.cell? ⟨w.heap.size, 2, none⟩ = some (.int .i64 c) ∧ w'.cell? ⟨w.heap.size + 1, 2, none⟩ = some (.int .i64 c'))
    (first | (refine KP.out _ ?_; repeat' (first | exact Below.refl _ _ | (with_reducible assumption) | refine Below.drew ?_ | refine Below.alloc ?_ (by first | omega | (simp <;> omega)) _)))
    (first
    | (go_at_call 105; (with_reducible refine (h1 _).mono ?_); rintro e w' ⟨rfl, rfl⟩)
    | (go_at_call 105; (with_reducible refine (h2 _).mono ?_); rintro e w' ⟨rfl, rfl⟩)
    | (go_at_call 104; go_loud (refine (or_any r1 r2 _ _ _ (new_cell rfl (by simp)) (new_cell rfl (by simp))).mono ?_; rintro e w' ⟨rfl, rfl⟩)))
  all_goals go_wp2_with fail
  all_goals go_ret
  all_goals exact ⟨rfl, 1, _, by rw [alloc_eq_grow, alloc_eq_grow, alloc_eq_grow, grow_grow, grow_grow]; rfl⟩
theorem Adds.below {w w' : World} (h : Adds w w') : Below w.heap.size w w' := by
  obtain ⟨q, os, rfl⟩ := h
  refine ⟨rfl, rfl, rfl, ?_, fun k hk => ?_⟩
  · show w.heap.size ≤ (w.heap ++ os).size
    rw [Array.size_append]; omega
  · show (w.heap ++ os)[k]? = w.heap[k]?
    exact Array.getElem?_append_left hk
/-- .. and nothing that lay there has turned. -/
theorem order_bel (x y : It) (w : World) : Calls Try.prog 97 #[.agg #[.int .i64 x.id, .int .i64 x.w, .int .i64 x.s], .agg #[.int .i64 y.id, .int .i64 y.w, .int .i64 y.s]] w fun e w' => e = .returned (.int .i64 (ordI x y)) ∧ Below w.heap.size w w' :=
  (order_any x y w).mono fun _ _ h => ⟨h.1, h.2.below⟩
end Go.Proofs.Ytdpapnfjpefhkaa
namespace Go.Proofs.Ytdpapnfjpefhkaa
open Go.RowKit
set_option linter.unusedVariables false
set_option maxRecDepth 100000

/-- A new heap. -/
def NewR (w : World) (e : Ending) (w' : World) : Prop := e = .returned (.pointer (some ⟨w.heap.size + 1, 0, none⟩)) ∧ (∀ B, B ≤ w.heap.size → HG B w' (w.heap.size + 1) w.heap.size none 0 []) ∧ Below w.heap.size w w'
theorem new_at (w : World) : NewR w (.returned (.pointer (some ⟨w.heap.size + 1, 0, none⟩))) ((w.alloc (.map #[] 0)).alloc (.cells #[.slice none 0 0, .map (some w.heap.size), .int .i64 0] 179)) :=
  ⟨rfl, fun B hB => ⟨none, 0, [], fun _ => 0, rfl, HB.new w hB _, fun p x h => by simp at h, hp_nil, List.Perm.refl _⟩, (below_al w _).alloc (by simp) _⟩
theorem new_any (w : World) : Calls Try.prog 103 #[] w (NewR w) := by
  have hmm := @run_makeMap Try.prog
  go_enter Try.func103, Try.ntmps103
  go_wp2
  go_ret
  exact new_at w

theorem len_nil (w : World) : Calls Try.prog 71 #[.pointer none] w fun e w' => e = .returned (.int .i64 0) ∧ w = w' := by
  go_enter Try.func71, Try.ntmps71
  go_wp2
  go_ret
  exact ⟨rfl, rfl⟩
theorem place_nil (k : Int) (w : World) : Calls Try.prog 86 #[.pointer none, .int .i64 k] w fun e w' => e = .returned (.tuple #[.int .i64 0, .bool false]) ∧ w = w' := by
  go_enter Try.func86, Try.ntmps86
  go_wp2
  go_ret2
  exact ⟨rfl, rfl⟩
theorem add_nil (k t : Int) (w : World) : Calls Try.prog 95 #[.pointer none, .int .i64 k, .int .i64 t] w fun e w' => e = .returned (.int .i64 1) ∧ w = w' := by
  go_enter Try.func95, Try.ntmps95
  go_wp2_with fail
  refine (place_nil k w).mono ?_
  rintro e w' ⟨rfl, rfl⟩
  go_wp2_with fail
  go_ret
  exact ⟨rfl, rfl⟩
theorem above_any (i : Nat) (w : World) (h0 : 0 < i) (hi : i ≤ 1000) : Calls Try.prog 98 #[.int .i64 i] w fun e w' => e = .returned (.int .i64 (((i - 1) / 4 : Nat) : Int)) ∧ w = w' := by
  have b1 : IntKind.i64.wrap ((i : Int) - 1) = (i : Int) - 1 := by rw [IntKind.wrap_i64]; omega
  have b2 : IntKind.i64.wrap (((i : Int) - 1).tdiv 4) = (((i - 1) / 4 : Nat) : Int) := by
    rw [show (i : Int) - 1 = ((i - 1 : Nat) : Int) by omega, IntKind.wrap_i64]
    have : ((i - 1 : Nat) : Int).tdiv 4 = (((i - 1) / 4 : Nat) : Int) := by
      rw [Int.tdiv_eq_ediv_of_nonneg (by omega)]; omega
    rw [this]; omega
  go_enter Try.func98, Try.ntmps98
  go_wp2
  go_ret
  exact ⟨by first | rfl | (simp; omega), rfl⟩
section
variable {B o b c n : Nat} {P : Option Addr} {m : List It} {K : List Int} {f : Int → Int}
theorem len_any (w : World) (h : HB B w o b P c n m K f) : Calls Try.prog 71 #[.pointer (some ⟨o, 0, none⟩)] w fun e w' => e = .returned (.int .i64 (m.length : Int)) ∧ w = w' := by
  have h0 := h.c0
  clear h
  go_enter Try.func71, Try.ntmps71
  go_wp2
  go_ret
  exact ⟨rfl, rfl⟩
/-- Where one stands. -/
theorem place_any (k : Int) (w : World) (h : HB B w o b P c n m K f) (hk : Wf k) : Calls Try.prog 86 #[.pointer (some ⟨o, 0, none⟩), .int .i64 k] w fun e w' => (∃ v, e = .returned (.tuple #[.int .i64 v, .bool (decide (k ∈ K))]) ∧ (k ∈ K → v = f k)) ∧ w = w' := by
  obtain ⟨v, hrun, hv⟩ : ∃ v, (Instr.lookup 95 (.map (some b)) (.int .i64 k) true).run Try.prog w = .ok (.tuple #[.int .i64 v, .bool (decide (k ∈ K))]) w ∧ (k ∈ K → v = f k) := by
    obtain ⟨D, h1, h2, h3, h4⟩ := h.tm
    obtain ⟨v, ps, hrun, hv⟩ := h1.look_ok law Try.underlying95 (zeroI w) (elI (wf_of (by omega) (by omega))) (keyI hk)
    obtain ⟨cc, rfl, _, e2⟩ := plainElem_int_inv Try.underlying3 hv
    rw [h3] at hrun
    refine ⟨cc, hrun, fun hm => ?_⟩
    rename_i e3
    have e4 := congrArg Prod.fst e3
    have e5 : dL (f k) = dL cc := (h4 k hm).symm.trans e4
    exact (dL_inj e5).symm
  have h1 := h.c1
  clear h
  generalize decide (k ∈ K) = d at *
  go_enter Try.func86, Try.ntmps86
  go_wp2
  go_ret2
  exact ⟨⟨v, rfl, hv⟩, rfl⟩
set_option maxHeartbeats 2000000 in
theorem put_any (i : Nat) (x : It) (w : World) (h : HB B w o b P c n m K f) (hi : i < m.length) (hx : Wf x.id) (hl : m.length ≤ 1000) (hK : K.length ≤ 1000) :
    Calls Try.prog 106 #[.pointer (some ⟨o, 0, none⟩), .int .i64 i, .agg #[.int .i64 x.id, .int .i64 x.w, .int .i64 x.s]] w fun e w' => e = .returned (.tuple #[]) ∧ HB B w' o b P c n (m.set i x) (if x.id ∈ K then K else K ++ [x.id]) (fput f x.id i) ∧ Chg o b (blk P) (blk P) w w' := by
  obtain ⟨g, rfl, hc⟩ := row_form h.own (by omega)
  have hc0 := h.c0
  have hc1 := h.c1
  have ho := h.lo
  have hg := (row_lt h.own (k := g) rfl).2
  have hf0 := h.own.frozenAt (i * 3)
  have hf1 := h.own.frozenAt (i * 3 + 1)
  have hf2 := h.own.frozenAt (i * 3 + 2)
  obtain ⟨y, hy⟩ := ex_at hi
  obtain ⟨g', e', d0, d1, d2⟩ := h.at hy
  obtain rfl : g' = g := by injection e' with e'; injection e' with e'; exact e'.symm
  have HA := Lib.hid h
  clear h hy e'
  obtain ⟨ws, hws⟩ : ∃ ws, ws = ((w.setCell ⟨g', i * 3, none⟩ (.int .i64 x.id)).setCell ⟨g', i * 3 + 1, none⟩ (.int .i64 x.w)).setCell ⟨g', i * 3 + 2, none⟩ (.int .i64 x.s) := ⟨_, rfl⟩
  have A0 : HB B ws o b (some ⟨g', 0, none⟩) c n (m.set i x) K f ∧ Chg o b (some g') (some g') w ws := by rw [hws]; exact HA.out.stored hi x hx
  have sz : ws.heap.size = w.heap.size := by rw [hws]; simp
  obtain ⟨w1, hw1⟩ : ∃ w1, w1 = (ws.alloc (.cells #[.int .i64 x.id, .int .i64 x.w, .int .i64 x.s] 150)).drew := ⟨_, rfl⟩
  have A1 : HB B w1 o b (some ⟨g', 0, none⟩) c n (m.set i x) K f ∧ Chg o b (some g') (some g') w w1 := by
    rw [hw1]
    exact ⟨A0.1.later (below_al ws _).drew, A0.2.trans (Chg.of_below _ (below_al ws _).drew)⟩
  have k0 : w1.cell? ⟨w.heap.size, 0, none⟩ = some (.int .i64 x.id) := by rw [hw1]; exact new_cell rfl sz.symm
  obtain ⟨w2, hrun, ht, tm⟩ := (A1.1.tm.keep (w' := w1.drew) rfl).store hx (v := (i : Int)) (wf_of (by omega) (by omega)) (by unfold maxLen; omega)
  have A2 := (A1.1.drewN 1).mapped ht tm
  have HR := Lib.hid (And.intro A2.1 ((A1.2.trans (Chg.of_below _ (below_drewN w1 1))).trans A2.2))
  have c1 := A1.1.c1
  clear A0 A1 A2 ht tm hc
  go_enter Try.func106, Try.ntmps106
  go_wp2_with fail
  go_region
  rw [← hws, ← hw1]
  clear hw1 hws d0 d1 d2 hf0 hf1 hf2 hc0 hc1
  go_wp2_with fail
  go_region
  go_end0
  exact ⟨rfl, HR.out⟩
end
end Go.Proofs.Ytdpapnfjpefhkaa
