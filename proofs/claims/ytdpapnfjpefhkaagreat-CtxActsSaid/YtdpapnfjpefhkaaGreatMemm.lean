/- A heap in memory: its items, where each stands, the last turn; how it carries. No condition.
What package clock's Next, and the reference's, give. Conditions: each theorem's own premises. -/
import Derived.Test.YtdpapnfjpefhkaaGreatChecked
import Derived.Test.YtdpapnfjpefhkaaGreatTNumm
import Derived.WalkKit
import Derived.Below
import Derived.Laws.OwnMore
import Derived.Deep.AppendLies
import Derived.Laws.Rows
import Derived.Laws.BitsAllLaws
import Derived.Lib.Hide
import Derived.Outline
import Derived.BigQuiet
import Derived.Deep.QuietTactic
import Derived.Deep.RegionWith
import Derived.Deep.RegionLaw
import Derived.StillTailTactics
import Derived.Maps.OwnSet
namespace Go.Proofs.YtdpapnfjpefhkaaGreat
open Go.RowKit
set_option linter.unusedVariables false
set_option maxRecDepth 100000
theorem cell_blk {w w' : World} {b : Nat} (h : w'.heap[b]? = w.heap[b]?) (i : Nat) : w'.cell? ⟨b, i, none⟩ = w.cell? ⟨b, i, none⟩ := World.cell?_of_block (a := ⟨b, i, none⟩) h
theorem frozen_blk {w w' : World} {b : Nat} (h : w'.heap[b]? = w.heap[b]?) (i : Nat) : w'.frozen? ⟨b, i, none⟩ = w.frozen? ⟨b, i, none⟩ := World.frozen?_of_block (a := ⟨b, i, none⟩) h
theorem below_al (w : World) (o : Obj) : Below w.heap.size w (w.alloc o) := (Below.refl _ _).alloc (Nat.le_refl _) _
theorem below_drewN (w : World) (q : Nat) : Below w.heap.size w (w.drewN q) := ⟨rfl, rfl, rfl, Nat.le_refl _, fun _ _ => rfl⟩
theorem lt_of_blk {w : World} {b : Nat} {o : Obj} (h : w.heap[b]? = some o) : b < w.heap.size := (Array.getElem?_eq_some_iff.1 h).1
def eI (x : It) : List Value := [.int .i64 x.id, .int .i64 x.w, .int .i64 x.s]
theorem eI_len (x : It) : (eI x).length = 3 := rfl
def iV (l : List It) : List Value := l.flatMap eI
theorem flat_len {α : Type} (f : α → List Value) (s : Nat) (hs : ∀ x, (f x).length = s) : ∀ l : List α, (l.flatMap f).length = l.length * s
 | [] => by simp
 | a :: l => by rw [List.flatMap_cons, List.length_append, hs, flat_len f s hs l, List.length_cons]; rw [Nat.add_mul]; omega
theorem flat_at {α : Type} (f : α → List Value) (s : Nat) (hs : ∀ x, (f x).length = s) : ∀ (l : List α) (i : Nat) (x : α), l[i]? = some x → ∀ j, j < s → (l.flatMap f)[i * s + j]? = (f x)[j]?
 | [], i, x, h, _, _ => by simp at h
 | a :: l, 0, x, h, j, hj => by
  simp at h; subst h
  rw [List.flatMap_cons, Nat.zero_mul, Nat.zero_add, List.getElem?_append_left (by rw [hs]; exact hj)]
 | a :: l, i + 1, x, h, j, hj => by
  rw [List.flatMap_cons, List.getElem?_append_right (by rw [hs, Nat.add_mul]; omega), hs, ← flat_at f s hs l i x (by simpa using h) j hj]
  congr 1
  rw [Nat.add_mul]; omega
theorem iV_len (l : List It) : (iV l).length = l.length * 3 := flat_len eI 3 eI_len l
theorem iV_at {l : List It} {i : Nat} {x : It} (h : l[i]? = some x) (j : Nat) (hj : j < 3) : (iV l)[i * 3 + j]? = (eI x)[j]? := flat_at eI 3 eI_len l i x h j hj
theorem iV_app (l m : List It) : iV l ++ iV m = iV (l ++ m) := by simp [iV]
theorem iV_snoc (l : List It) (x : It) : iV l ++ [.int .i64 x.id, .int .i64 x.w, .int .i64 x.s] = iV (l ++ [x]) := by simp [iV, eI]
theorem eI_one (x : It) : ∀ u ∈ eI x, u.oneCell' = true := by intro u hu; simp [eI] at hu; rcases hu with rfl | rfl | rfl <;> rfl
theorem iV_one (l : List It) : ∀ u ∈ iV l, u.oneCell' = true := by intro u hu; obtain ⟨x, _, hx⟩ := List.mem_flatMap.1 hu; exact eI_one x u hx
theorem iV_take (l : List It) (n : Nat) : iV (l.take n) = (iV l).take (n * 3) := by
 induction l generalizing n with
 | nil => simp [iV]
 | cons a t ih =>
  cases n with
  | zero => simp [iV]
  | succ n =>
   have : (n + 1) * 3 = n * 3 + 1 + 1 + 1 := by omega
   rw [this]
   have e := ih n
   simp only [iV, List.take_succ_cons, List.flatMap_cons, eI, List.cons_append, List.nil_append] at e ⊢
   rw [e]
theorem iV_set {l : List It} {i : Nat} (hi : i < l.length) (x : It) : (((iV l).set (i * 3) (.int .i64 x.id)).set (i * 3 + 1) (.int .i64 x.w)).set (i * 3 + 2) (.int .i64 x.s) = iV (l.set i x) := by
 induction l generalizing i with
 | nil => simp at hi
 | cons a t ih =>
  cases i with
  | zero => simp [iV, eI]
  | succ i =>
   have e := ih (i := i) (by simpa using hi)
   have e1 : (i + 1) * 3 = i * 3 + 1 + 1 + 1 := by omega
   have e2 : (i + 1) * 3 + 1 = (i * 3 + 1) + 1 + 1 + 1 := by omega
   have e3 : (i + 1) * 3 + 2 = (i * 3 + 2) + 1 + 1 + 1 := by omega
   rw [e3, e2, e1]
   simp only [iV, List.set_cons_succ, List.flatMap_cons, eI, List.cons_append, List.nil_append] at e ⊢
   rw [e]
section
variable {l : List Int} {p i : Nat} {x y : Int}
theorem nd_inj (hn : l.Nodup) (hi : l[i]? = some x) (hp : l[p]? = some x) : i = p :=
 (List.getElem?_inj (List.getElem?_eq_some_iff.1 hi).1 hn).1 (hi.trans hp.symm)
theorem cut_mem (hn : l.Nodup) (hp : l[p]? = some x) : y ∈ l.eraseIdx p ↔ y ∈ l ∧ y ≠ x := by
 rw [List.mem_eraseIdx_iff_getElem?]
 constructor
 · rintro ⟨i, h1, h2⟩
   refine ⟨at_mem h2, fun e => h1 ?_⟩
   subst e
   exact nd_inj hn h2 hp
 · rintro ⟨h1, h2⟩
   obtain ⟨i, hi, _⟩ := mem_at h1
   refine ⟨i, fun e => h2 ?_, hi⟩
   subst e
   rw [hi] at hp; injection hp
theorem cut_len (hp : l[p]? = some x) : (l.eraseIdx p).length + 1 = l.length := by
 have := at_lt hp
 rw [List.length_eraseIdx, if_pos this]; omega
theorem cut_sub (h : y ∈ l.eraseIdx p) : y ∈ l := (List.eraseIdx_sublist _ _).subset h
end
abbrev kL (x : Int) : Lit := .int .i64 x
abbrev dL (x : Int) : DataW Unit := .lit (.int .i64 x)
theorem dL_inj {a b : Int} (h : dL a = dL b) : a = b := by injection h with h; injection h
def Wf (x : Int) : Prop := (Lit.int .i64 x).wf = true
theorem wf_of {x : Int} (h1 : -9223372036854775808 ≤ x) (h2 : x ≤ 9223372036854775807) : Wf x := WalkArith.wf_i64 ⟨h1, h2⟩
theorem law : Maps.Keyed Tryz.prog 3 := Maps.int_keyed Tryz.underlying3
theorem zeroI (w : World) : (zeroValue 3).run Tryz.prog w = .ok (.int .i64 0) w := by kernel_rfl
theorem keyI {x : Int} (h : Wf x) : keyOf Tryz.prog 3 (.int .i64 x) = some (kL x) := Maps.keyOf_int_mk Tryz.underlying3 h
theorem elI {x : Int} (h : Wf x) : plainElem (H := Unit) Tryz.prog 3 (.int .i64 x) = some (dL x, []) := plainElem_int Tryz.underlying3 h
theorem kL_ne {x y : Int} (h : x ≠ y) : kL x ≠ kL y := fun e => h (by injection e)
theorem kL_key (x : Int) : WideAt.IsKeyLit (kL x) := trivial
def Trn (w w' : World) (b : Nat) : Prop := w'.os = w.os ∧ w'.tape = w.tape ∧ w'.output = w.output ∧ w'.heap.size = w.heap.size ∧ ∀ k, k ≠ b → w'.heap[k]? = w.heap[k]?
theorem turned_block {w w' : World} {b : Nat} (h : w.mapTurned w' b) : Trn w w' b := by
 obtain ⟨es, clock, es', clock', hb, rfl⟩ := h
 exact ⟨rfl, rfl, rfl, by simp [ChangeMaps.setBlock], fun k hk => ChangeMaps.heap_setBlock_other hb _ hk⟩
def Tm (w : World) (b : Nat) (l : List Int) (f : Int → Int) : Prop :=
 ∃ D : DataW Unit, w.ownsMap Tryz.prog 3 (plainElem Tryz.prog 3) b l.length D ∧ Maps.size D = l.length ∧ (∀ x, Maps.has D (kL x) = decide (x ∈ l)) ∧ ∀ x ∈ l, D.atKey (kL x) (dL 0) = dL (f x)
section
variable {w w' : World} {b : Nat} {l : List Int} {f : Int → Int}
theorem own_exact {n : Nat} {D : DataW Unit} (h : w.ownsMap Tryz.prog 3 (plainElem Tryz.prog 3) b n D) : w.ownsMap Tryz.prog 3 (plainElem Tryz.prog 3) b (Maps.size D) D := by
 obtain ⟨es, clock, hb, F, _, rfl⟩ := h
 refine ⟨es, clock, hb, F, ?_, rfl⟩
 simp [Maps.size, length_sorted]
theorem Tm.lt (h : Tm w b l f) : b < w.heap.size := by obtain ⟨D, h, _⟩ := h; exact h.lt
theorem Tm.blk (h : Tm w b l f) : ∃ es clock, w.heap[b]? = some (.map es clock) := by obtain ⟨D, ⟨es, clock, h, _⟩, _⟩ := h; exact ⟨es, clock, h⟩
theorem Tm.keep (h : Tm w b l f) (e : w'.heap[b]? = w.heap[b]?) : Tm w' b l f := by
 obtain ⟨D, ⟨es, clock, h1, h2⟩, h3⟩ := h
 exact ⟨D, ⟨es, clock, by rw [e]; exact h1, h2⟩, h3⟩
theorem Tm.congr {g : Int → Int} (h : Tm w b l f) (e : ∀ x ∈ l, f x = g x) : Tm w b l g := by
 obtain ⟨D, h1, h2, h3, h4⟩ := h
 exact ⟨D, h1, h2, h3, fun x hx => by rw [h4 x hx, e x hx]⟩
theorem Tm.new (w : World) (f : Int → Int) : Tm (w.alloc (.map #[] 0)) w.heap.size [] f :=
 ⟨_, World.ownsMap_made w Tryz.prog 3 (plainElem Tryz.prog 3), rfl, fun x => rfl, fun x hx => by cases hx⟩
theorem Tm.store (h : Tm w b l f) {x v : Int} (hx : Wf x) (hv : Wf v) (hn : l.length < maxLen) :
  ∃ w', (Instr.mapUpdate 142 (.map (some b)) (.int .i64 x) (.int .i64 v)).run Tryz.prog w = .ok () w' ∧ Trn w w' b ∧ Tm w' b (if x ∈ l then l else l ++ [x]) (fun y => if y = x then v else f y) := by
 obtain ⟨D, h1, h2, h3, h4⟩ := h
 obtain ⟨w', hrun, ho, ht⟩ := h1.store law Tryz.underlying142 hn (keyI hx) (elI hv)
 refine ⟨w', hrun, turned_block ht, D.put (kL x) (dL v), ?_, ?_, ?_, ?_⟩
 · have := own_exact ho
   rw [Maps.size_put (h1.tidy law), h3] at this
   by_cases hm : x ∈ l
   · rw [if_pos hm]; rw [decide_eq_true hm, if_pos rfl, h2] at this; exact this
   · rw [if_neg hm]; rw [decide_eq_false hm, if_neg (by simp), h2] at this; simpa using this
 · rw [Maps.size_put (h1.tidy law), h3, h2]
   by_cases hm : x ∈ l
   · rw [if_pos hm, decide_eq_true hm, if_pos rfl]
   · rw [if_neg hm, decide_eq_false hm, if_neg (by simp)]; simp
 · intro y
   by_cases e : y = x
   · subst e
     rw [Maps.has_put_same h1.isMap (kL_key _)]
     split <;> simp_all
   · rw [Maps.has_put_other (kL_ne e), h3]
     split <;> simp_all
 · intro y hy
   by_cases e : y = x
   · subst e
     rw [Maps.atKey_put_same h1.isMap (kL_key _)]; simp
   · rw [Maps.atKey_put_other (kL_ne e)]
     show _ = dL (if y = x then v else f y)
     rw [if_neg e]
     refine h4 y ?_
     split at hy
     · exact hy
     · simpa [e] using hy
theorem Tm.drop (h : Tm w b l f) (hd : l.Nodup) {x : Int} {p : Nat} (hx : Wf x) (hp : l[p]? = some x) (ty : TypeId) :
  ∃ w', (Builtin.delete_ #[142, 3] ty #[.map (some b), .int .i64 x]).run Tryz.prog w = .ok (.tuple #[]) w' ∧ Trn w w' b ∧ Tm w' b (l.eraseIdx p) f := by
 obtain ⟨D, h1, h2, h3, h4⟩ := h
 obtain ⟨w', hrun, ho, ht⟩ := h1.drop law Tryz.underlying142 (keyI hx) ty
 have hs := Maps.size_del (k := kL x) (h1.tidy law)
 rw [h3, decide_eq_true (at_mem hp), if_pos rfl, h2] at hs
 have hl := cut_len hp
 have hs2 : Maps.size (D.del (kL x)) = (l.eraseIdx p).length := by omega
 refine ⟨w', hrun, turned_block ht, D.del (kL x), by rw [← hs2]; exact own_exact ho, hs2, fun y => ?_, fun y hy => ?_⟩
 · by_cases e : y = x
   · subst e
     rw [Maps.has_del_same, eq_comm, decide_eq_false_iff_not, cut_mem hd hp]
     exact fun h => h.2 rfl
   · rw [Maps.has_del_other (kL_ne e), h3]
     exact decide_eq_decide.2 ⟨fun h => (cut_mem hd hp).2 ⟨h, e⟩, cut_sub⟩
 · have e := (cut_mem hd hp).1 hy
   rw [Maps.atKey_del_other (kL_ne e.2)]
   exact h4 y e.1
end
def blk (P : Option Addr) : Option Nat := P.map Addr.block
theorem own_blk (P : Option Addr) (n c : Nat) : (Value.slice P n c).ownBlock = blk P := by cases P <;> rfl
section
variable {w w' : World} {e s B n c : Nat} {P : Option Addr} {xs : List Value}
theorem row_lt (h : w.ownsRow B e s (.slice P n c) n xs) {k : Nat} (hk : blk P = some k) : B ≤ k ∧ k < w.heap.size := h.lt k (by rw [own_blk]; exact hk)
theorem row_tag (h : w.ownsRow B e s (.slice P n c) n xs) {k : Nat} (hk : blk P = some k) : ∃ cs fr, w.heap[k]? = some (.cells cs e fr) := by
 rcases h.2 with ⟨h1, _⟩ | ⟨g, cap, cur, h1, _, h2, _⟩
 · injection h1 with h1; subst h1; cases hk
 · injection h1 with h1; subst h1; cases hk; exact ⟨cur, (0, 0), h2⟩
theorem row_keep (h : w.ownsRow B e s (.slice P n c) n xs) (hb : ∀ k, blk P = some k → w'.heap[k]? = w.heap[k]?) : w'.ownsRow B e s (.slice P n c) n xs := by
 refine ⟨h.1, ?_⟩
 rcases h.2 with h1 | ⟨g, cap, cur, h1, h2, h3, h4⟩
 · exact .inl h1
 · refine .inr ⟨g, cap, cur, h1, h2, ?_, h4⟩
   injection h1 with h1; subst h1
   rw [hb g rfl]; exact h3
theorem row_later (h : w.ownsRow B e s (.slice P n c) n xs) (hb : Below w.heap.size w w') : w'.ownsRow B e s (.slice P n c) n xs := row_keep h fun k hk => hb.block k (row_lt h hk).2
theorem row_form (h : w.ownsRow B e s (.slice P n c) n xs) (hn : 0 < n) : ∃ g, P = some ⟨g, 0, none⟩ ∧ n ≤ c := by
 rcases h.2 with ⟨_, h0⟩ | ⟨g, cap, cur, h1, _, _, h2, _⟩
 · omega
 · injection h1 with h1 h3 h4; subst h4; exact ⟨g, h1, h2⟩
theorem row_cap (h : w.ownsRow B e s (.slice P n c) n xs) : n ≤ c ∧ c ≤ maxLen := by
 rcases h.2 with ⟨h1, h0⟩ | ⟨g, cap, cur, h1, _, _, h2, h3, _⟩
 · injection h1 with h1 h2 h3; subst h3; exact ⟨by omega, by unfold maxLen; omega⟩
 · injection h1 with h1 h3' h4; subst h4; exact ⟨h2, h3⟩
end
theorem Tm.perm {w : World} {b : Nat} {l l' : List Int} {f : Int → Int} (h : Tm w b l f) (e : l.Perm l') : Tm w b l' f := by
 obtain ⟨D, h1, h2, h3, h4⟩ := h
 refine ⟨D, by rw [← e.length_eq]; exact h1, by rw [← e.length_eq]; exact h2, fun x => by rw [h3]; exact decide_eq_decide.2 e.mem_iff, fun x hx => h4 x (e.mem_iff.2 hx)⟩
theorem row_short {w : World} {B e n c g m : Nat} {xs : List Value} (h : w.ownsRow B e 3 (.slice (some ⟨g, 0, none⟩) n c) n xs) (hm : m ≤ n) : w.ownsRow B e 3 (.slice (some ⟨g, 0, none⟩) m c) m (xs.take (m * 3)) := by
 have h0 := h.1
 refine ⟨by simp; omega, .inr ?_⟩
 rcases h.2 with ⟨h1, _⟩ | ⟨g', cap, cur, h1, h2, h3, h4, h5, h6, h7⟩
 · cases h1
 · injection h1 with h1 h8 h9
   injection h1 with h1
   injection h1 with h1
   subst h1; subst h9
   refine ⟨g, c, cur, rfl, h2, h3, by omega, h5, h6, ?_⟩
   rw [← h7, List.take_take, Nat.min_eq_left (by omega)]
structure HB (B : Nat) (w : World) (o b : Nat) (P : Option Addr) (c n : Nat) (m : List It) (K : List Int) (f : Int → Int) : Prop where
 ho : w.heap[o]? = some (.cells #[.slice P m.length c, .map (some b), .int .i64 n] 228 (0, 0))
 own : w.ownsRow B 203 3 (.slice P m.length c) m.length (iV m)
 tm : Tm w b K f
 wf : ∀ x ∈ m, Wf x.id
 go : B ≤ o
 gb : B ≤ b
structure Chg (o b : Nat) (p p' : Option Nat) (w w' : World) : Prop where
 os : w'.os = w.os
 tape : w'.tape = w.tape
 output : w'.output = w.output
 size : w.heap.size ≤ w'.heap.size
 block : ∀ k, k < w.heap.size → k ≠ o → k ≠ b → p ≠ some k → w'.heap[k]? = w.heap[k]?
 new : p' = p ∨ ∀ k, p' = some k → w.heap.size ≤ k
theorem Chg.trans {o b : Nat} {p p' p'' : Option Nat} {u v w : World} (h : Chg o b p p' u v) (k : Chg o b p' p'' v w) : Chg o b p p'' u w := by
 have h0 := h.size
 refine ⟨k.os.trans h.os, k.tape.trans h.tape, k.output.trans h.output, Nat.le_trans h.size k.size, fun i h1 h2 h3 h4 => (k.block i (by omega) h2 h3 (fun e => ?_)).trans (h.block i h1 h2 h3 h4), ?_⟩
 · rcases h.new with h5 | h5
   · exact h4 (h5.symm.trans e)
   · have := h5 i e; omega
 · rcases k.new with h6 | h6
   · subst h6; exact h.new
   · exact .inr fun i hi => by have := h6 i hi; omega
theorem Chg.of_below {o b : Nat} (p : Option Nat) {w w' : World} (h : Below w.heap.size w w') : Chg o b p p w w' := ⟨h.os, h.tape, h.output, h.size, fun k hk _ _ _ => h.block k hk, .inl rfl⟩
theorem Chg.refl {o b : Nat} (p : Option Nat) (w : World) : Chg o b p p w w := Chg.of_below p (Below.refl _ _)
section
variable {w w' : World} {B o b c n : Nat} {P : Option Addr} {m : List It} {K : List Int} {f g : Int → Int}
theorem HB.c0 (h : HB B w o b P c n m K f) : w.cell? ⟨o, 0, none⟩ = some (.slice P m.length c) := by rw [cell_of_row w o 0 _ _ _ h.ho]; rfl
theorem HB.c1 (h : HB B w o b P c n m K f) : w.cell? ⟨o, 1, none⟩ = some (.map (some b)) := by rw [cell_of_row w o 1 _ _ _ h.ho]; rfl
theorem HB.c2 (h : HB B w o b P c n m K f) : w.cell? ⟨o, 2, none⟩ = some (.int .i64 n) := by rw [cell_of_row w o 2 _ _ _ h.ho]; rfl
theorem HB.fo (h : HB B w o b P c n m K f) (i : Nat) : w.frozen? ⟨o, i, none⟩ = false := frozen_of_row w o i _ _ h.ho
theorem HB.lo (h : HB B w o b P c n m K f) : o < w.heap.size := lt_of_blk h.ho
theorem HB.ne (h : HB B w o b P c n m K f) : o ≠ b := by
 obtain ⟨es, cl, hb⟩ := h.tm.blk
 intro e; rw [← e, h.ho] at hb; cases hb
theorem HB.npo (h : HB B w o b P c n m K f) : blk P ≠ some o := by
 intro e
 obtain ⟨cs, fr, ht⟩ := row_tag h.own e
 rw [h.ho] at ht; injection ht with ht; injection ht with _ ht; cases ht
theorem HB.npb (h : HB B w o b P c n m K f) : blk P ≠ some b := by
 intro e
 obtain ⟨cs, fr, ht⟩ := row_tag h.own e
 obtain ⟨es, cl, hb⟩ := h.tm.blk
 rw [hb] at ht; cases ht
theorem HB.keep (h : HB B w o b P c n m K f) (e1 : w'.heap[o]? = w.heap[o]?) (e2 : w'.heap[b]? = w.heap[b]?) (e3 : ∀ k, blk P = some k → w'.heap[k]? = w.heap[k]?) : HB B w' o b P c n m K f :=
 ⟨by rw [e1]; exact h.ho, row_keep h.own e3, h.tm.keep e2, h.wf, h.go, h.gb⟩
theorem HB.later (h : HB B w o b P c n m K f) (hb : Below w.heap.size w w') : HB B w' o b P c n m K f := h.keep (hb.block _ h.lo) (hb.block _ h.tm.lt) fun k hk => hb.block _ (row_lt h.own hk).2
theorem HB.drewN (h : HB B w o b P c n m K f) (q : Nat) : HB B (w.drewN q) o b P c n m K f := h.keep rfl rfl fun _ _ => rfl
theorem HB.perm {K' : List Int} (h : HB B w o b P c n m K f) (e : K.Perm K') : HB B w o b P c n m K' f := ⟨h.ho, h.own, h.tm.perm e, h.wf, h.go, h.gb⟩
theorem Chg.below {p p' : Option Nat} (h : Chg o b p p' w w') (ho : B ≤ o) (hb : B ≤ b) (hp : ∀ k, p = some k → B ≤ k) (hB : B ≤ w.heap.size) : Below B w w' :=
 ⟨h.os, h.tape, h.output, h.size, fun k hk => h.block k (by omega) (by omega) (by omega) (fun e => by have := hp k e; omega)⟩
theorem HB.below {p' : Option Nat} (h : HB B w o b P c n m K f) (hc : Chg o b (blk P) p' w w') (hB : B ≤ w.heap.size) : Below B w w' := hc.below h.go h.gb (fun k hk => (row_lt h.own hk).1) hB
theorem HB.at (h : HB B w o b P c n m K f) {j : Nat} {x : It} (hx : m[j]? = some x) : ∃ g, P = some ⟨g, 0, none⟩ ∧ w.cell? ⟨g, j * 3, none⟩ = some (.int .i64 x.id) ∧ w.cell? ⟨g, j * 3 + 1, none⟩ = some (.int .i64 x.w) ∧ w.cell? ⟨g, j * 3 + 2, none⟩ = some (.int .i64 x.s) := by
 have hj := at_lt hx
 obtain ⟨g, rfl, hc⟩ := row_form h.own (by omega)
 refine ⟨g, rfl, ?_, ?_, ?_⟩
 · rw [h.own.cellAt (j * 3) (by omega)]; exact iV_at hx 0 (by omega)
 · rw [h.own.cellAt (j * 3 + 1) (by omega)]; exact iV_at hx 1 (by omega)
 · rw [h.own.cellAt (j * 3 + 2) (by omega)]; exact iV_at hx 2 (by omega)
theorem HB.mapped {K' : List Int} (h : HB B w o b P c n m K f) (ht : Trn w w' b) (tm : Tm w' b K' g) : HB B w' o b P c n m K' g ∧ Chg o b (blk P) (blk P) w w' := by
 obtain ⟨h1, h2, h3, h4, h5⟩ := ht
 exact ⟨⟨by rw [h5 o h.ne]; exact h.ho, row_keep h.own fun k hk => h5 k fun e => h.npb (by rw [← e]; exact hk), tm, h.wf, h.go, h.gb⟩, ⟨h1, h2, h3, by omega, fun k _ _ h6 _ => h5 k h6, .inl rfl⟩⟩
theorem HB.stored {i gB : Nat} (h : HB B w o b (some ⟨gB, 0, none⟩) c n m K f) (hi : i < m.length) (x : It) (hx : Wf x.id) :
  HB B (((w.setCell ⟨gB, i * 3, none⟩ (.int .i64 x.id)).setCell ⟨gB, i * 3 + 1, none⟩ (.int .i64 x.w)).setCell ⟨gB, i * 3 + 2, none⟩ (.int .i64 x.s)) o b (some ⟨gB, 0, none⟩) c n (m.set i x) K f ∧
   Chg o b (some gB) (some gB) w (((w.setCell ⟨gB, i * 3, none⟩ (.int .i64 x.id)).setCell ⟨gB, i * 3 + 1, none⟩ (.int .i64 x.w)).setCell ⟨gB, i * 3 + 2, none⟩ (.int .i64 x.s)) := by
 have key : ∀ k, k ≠ gB → (((w.setCell ⟨gB, i * 3, none⟩ (.int .i64 x.id)).setCell ⟨gB, i * 3 + 1, none⟩ (.int .i64 x.w)).setCell ⟨gB, i * 3 + 2, none⟩ (.int .i64 x.s)).heap[k]? = w.heap[k]? := fun k hk =>
  ((Below.heap_setCell _ _ _ _ (by exact hk)).trans (Below.heap_setCell _ _ _ _ (by exact hk))).trans (Below.heap_setCell _ _ _ _ (by exact hk))
 have ngo : o ≠ gB := fun e => h.npo (by rw [e]; rfl)
 have ngb : b ≠ gB := fun e => h.npb (by rw [e]; rfl)
 have r := (((h.own.stored (i * 3) (.int .i64 x.id)).1.stored (i * 3 + 1) (.int .i64 x.w)).1.stored (i * 3 + 2) (.int .i64 x.s)).1
 rw [iV_set hi] at r
 refine ⟨⟨by rw [key o ngo, List.length_set]; exact h.ho, by rw [List.length_set]; exact r, h.tm.keep (key b ngb), fun y hy => ?_, h.go, h.gb⟩, ⟨rfl, rfl, rfl, by simp, fun k _ _ _ h4 => key k fun e => h4 (by rw [e]), .inl rfl⟩⟩
 rcases List.mem_or_eq_of_mem_set hy with e | e
 · exact h.wf y e
 · rw [e]; exact hx
theorem HB.turned (h : HB B w o b P c n m K f) (n' : Nat) : HB B (w.setCell ⟨o, 2, none⟩ (.int .i64 n')) o b P c n' m K f ∧ Chg o b (blk P) (blk P) w (w.setCell ⟨o, 2, none⟩ (.int .i64 n')) := by
 have key : ∀ k, k ≠ o → (w.setCell ⟨o, 2, none⟩ (.int .i64 n')).heap[k]? = w.heap[k]? := fun k hk => Below.heap_setCell _ _ _ _ (by exact hk)
 refine ⟨⟨by rw [heap_setCell_same _ o 2 _ _ _ h.ho]; rfl, row_keep h.own fun k hk => key k fun e => h.npo (by rw [← e]; exact hk), h.tm.keep (key b h.ne.symm), h.wf, h.go, h.gb⟩, ⟨rfl, rfl, rfl, by simp, fun k _ h2 _ _ => key k h2, .inl rfl⟩⟩
theorem HB.short {gB k : Nat} (h : HB B w o b (some ⟨gB, 0, none⟩) c n m K f) (hk : k ≤ m.length) :
  HB B (w.setCell ⟨o, 0, none⟩ (.slice (some ⟨gB, 0, none⟩) k c)) o b (some ⟨gB, 0, none⟩) c n (m.take k) K f ∧ Chg o b (some gB) (some gB) w (w.setCell ⟨o, 0, none⟩ (.slice (some ⟨gB, 0, none⟩) k c)) := by
 have key : ∀ j, j ≠ o → (w.setCell ⟨o, 0, none⟩ (.slice (some ⟨gB, 0, none⟩) k c)).heap[j]? = w.heap[j]? := fun j hj => Below.heap_setCell _ _ _ _ (by exact hj)
 have el : (m.take k).length = k := by simp; omega
 have r := row_short h.own hk
 rw [← iV_take] at r
 refine ⟨⟨by rw [heap_setCell_same _ o 0 _ _ _ h.ho, el]; rfl, by rw [el]; exact row_keep r fun j hj => key j fun e => h.npo (by rw [← e]; exact hj), h.tm.keep (key b h.ne.symm), fun x hx => h.wf x (List.mem_of_mem_take hx), h.go, h.gb⟩, ⟨rfl, rfl, rfl, by simp, fun j _ h2 _ _ => key j h2, .inl rfl⟩⟩
theorem HB.added {wy w1 : World} {gB cap : Nat} {x : It} (h : HB B w o b P c n m K f) (hx : Wf x.id) (hy : Below w.heap.size w wy)
  (ho : w1.ownsRow B 203 3 (.slice (some ⟨gB, 0, none⟩) (m.length + 1) cap) (m.length + 1) (iV m ++ eI x)) (hg : wy.grownBy w1 (Value.slice P m.length c).ownBlock) (hat : (Value.slice P m.length c).ownBlock = some gB ∨ w.heap.size ≤ gB) :
  HB B (w1.setCell ⟨o, 0, none⟩ (.slice (some ⟨gB, 0, none⟩) (m.length + 1) cap)) o b (some ⟨gB, 0, none⟩) cap n (m ++ [x]) K f ∧ Chg o b (blk P) (some gB) w (w1.setCell ⟨o, 0, none⟩ (.slice (some ⟨gB, 0, none⟩) (m.length + 1) cap)) := by
 rw [own_blk] at hg hat
 have hs := hy.size
 have hlo := h.lo
 have hlb := h.tm.lt
 have key : ∀ k, k < w.heap.size → blk P ≠ some k → w1.heap[k]? = w.heap[k]? := fun k hk hne => (hg.block k (by omega) (fun e => hne e.symm)).trans (hy.block k (by omega))
 have ho1 := (key o hlo h.npo).trans h.ho
 have hb1 := key b hlb h.npb
 have hgo : gB ≠ o := by
  intro e; subst e
  rcases hat with h1 | h1
  · exact h.npo h1
  · omega
 have hsz : w.heap.size ≤ w1.heap.size := by have := hg.size; omega
 have e1 : (m ++ [x]).length = m.length + 1 := by simp
 refine ⟨⟨?_, ?_, ?_, ?_, h.go, h.gb⟩, ⟨?_, ?_, ?_, ?_, ?_, ?_⟩⟩
 · rw [heap_setCell_same _ o 0 _ _ _ ho1, e1]; rfl
 · rw [e1, ← iV_snoc]
   refine row_keep ho fun k hk => ?_
   injection hk with hk; subst hk
   exact Below.heap_setCell _ _ _ _ hgo
 · exact h.tm.keep ((Below.heap_setCell _ _ _ _ (fun e => h.ne e.symm)).trans hb1)
 · intro y hy
   simp at hy
   rcases hy with hy | rfl
   · exact h.wf y hy
   · exact hx
 · exact hg.os.trans hy.os
 · exact hg.tape.trans hy.tape
 · exact hg.output.trans hy.output
 · simpa [World.setCell] using hsz
 · intro k hk n1 n2 n3
   rw [Below.heap_setCell _ _ _ _ (by exact n1)]
   exact key k hk n3
 · rcases hat with h1 | h1
   · exact .inl h1.symm
   · exact .inr fun k hk => by injection hk with hk; subst hk; omega
theorem HB.new (w : World) (hB : B ≤ w.heap.size) (f : Int → Int) : HB B ((w.alloc (.map #[] 0)).alloc (.cells #[.slice none 0 0, .map (some w.heap.size), .int .i64 0] 228)) (w.heap.size + 1) w.heap.size none 0 0 [] [] f := by
 refine ⟨?_, World.ownsRow_nil _ _ _ _, (Tm.new w f).keep (Below.heap_alloc _ _ _ (by simp)), fun x hx => (by cases hx), by omega, hB⟩
 have := heap_alloc_new (w.alloc (.map #[] 0)) (.cells #[.slice none 0 0, .map (some w.heap.size), .int .i64 0] 228)
 rw [World.size_alloc] at this
 exact this
end
def HG (B : Nat) (w : World) (o b : Nat) (p : Option Nat) (n : Nat) (S : List It) : Prop :=
 ∃ P c m f, blk P = p ∧ HB B w o b P c n m (ids m) f ∧ Pl m f ∧ Hp m ∧ m.Perm S
section
variable {w w' : World} {B o b n : Nat} {p p' : Option Nat} {S S' : List It}
theorem HG.later (h : HG B w o b p n S) (hb : Below w.heap.size w w') : HG B w' o b p n S := by
 obtain ⟨P, c, m, f, e, h1, h2⟩ := h
 exact ⟨P, c, m, f, e, h1.later hb, h2⟩
theorem HG.keep (h : HG B w o b p n S) (e1 : w'.heap[o]? = w.heap[o]?) (e2 : w'.heap[b]? = w.heap[b]?) (e3 : ∀ k, p = some k → w'.heap[k]? = w.heap[k]?) : HG B w' o b p n S := by
 obtain ⟨P, c, m, f, e, h1, h2⟩ := h
 exact ⟨P, c, m, f, e, h1.keep e1 e2 (by rw [e]; exact e3), h2⟩
theorem HG.below (h : HG B w o b p n S) (hc : Chg o b p p' w w') (hB : B ≤ w.heap.size) : Below B w w' := by
 obtain ⟨P, c, m, f, e, h1, h2⟩ := h
 subst e
 exact h1.below hc hB
theorem HG.lo (h : HG B w o b p n S) : o < w.heap.size := by obtain ⟨P, c, m, f, e, h1, h2⟩ := h; exact h1.lo
theorem HG.lb (h : HG B w o b p n S) : b < w.heap.size := by obtain ⟨P, c, m, f, e, h1, h2⟩ := h; exact h1.tm.lt
theorem HG.lp (h : HG B w o b p n S) {k : Nat} (hk : p = some k) : B ≤ k ∧ k < w.heap.size := by obtain ⟨P, c, m, f, e, h1, h2⟩ := h; exact row_lt h1.own (e.trans hk)
theorem HG.to (h : HG B w o b p n S) : ∃ cs fr, w.heap[o]? = some (.cells cs 228 fr) := by obtain ⟨P, c, m, f, e, h1, h2⟩ := h; exact ⟨_, _, h1.ho⟩
theorem HG.tb (h : HG B w o b p n S) : ∃ es cl, w.heap[b]? = some (.map es cl) := by obtain ⟨P, c, m, f, e, h1, h2⟩ := h; exact h1.tm.blk
theorem HG.tp (h : HG B w o b p n S) {k : Nat} (hk : p = some k) : ∃ cs fr, w.heap[k]? = some (.cells cs 203 fr) := by obtain ⟨P, c, m, f, e, h1, h2⟩ := h; exact row_tag h1.own (e.trans hk)
end
def Rt (w : World) (A : Option Addr) (n : Nat) (l : List It) : Prop :=
 l.length = n ∧ (0 < n → ∃ b off, A = some ⟨b, off, none⟩ ∧ b < w.heap.size ∧ ∀ j x, l[j]? = some x → w.cell? ⟨b, off + j * 3, none⟩ = some (.int .i64 x.id) ∧ w.cell? ⟨b, off + j * 3 + 1, none⟩ = some (.int .i64 x.w) ∧ w.cell? ⟨b, off + j * 3 + 2, none⟩ = some (.int .i64 x.s))
theorem Rt.later {w w' : World} {A : Option Addr} {n : Nat} {l : List It} (h : Rt w A n l) (hb : Below w.heap.size w w') : Rt w' A n l :=
 ⟨h.1, fun h0 => by
  obtain ⟨b, off, e, hl, hc⟩ := h.2 h0
  have := hb.size
  exact ⟨b, off, e, by omega, fun j u hu => by rw [cell_blk (hb.block b hl), cell_blk (hb.block b hl), cell_blk (hb.block b hl)]; exact hc j u hu⟩⟩
theorem Rt.nil (w : World) (A : Option Addr) : Rt w A 0 [] := ⟨rfl, fun h => absurd h (by omega)⟩
def Rn (w : World) (A : Option Addr) (n : Nat) (l : List Int) : Prop :=
 l.length = n ∧ (0 < n → ∃ b off, A = some ⟨b, off, none⟩ ∧ b < w.heap.size ∧ ∀ j x, l[j]? = some x → w.cell? ⟨b, off + j, none⟩ = some (.int .i64 x))
theorem Rn.later {w w' : World} {A : Option Addr} {n : Nat} {l : List Int} (h : Rn w A n l) (hb : Below w.heap.size w w') : Rn w' A n l :=
 ⟨h.1, fun h0 => by
  obtain ⟨b, off, e, hl, hc⟩ := h.2 h0
  have := hb.size
  exact ⟨b, off, e, by omega, fun j u hu => (cell_blk (hb.block b hl) _).trans (hc j u hu)⟩⟩
theorem Rn.at {w : World} {A : Option Addr} {n : Nat} {l : List Int} (h : Rn w A n l) (h0 : 0 < n) : ∃ b off, A = some ⟨b, off, none⟩ ∧ b < w.heap.size ∧ ∀ j x, l[j]? = some x → w.cell? ⟨b, off + j, none⟩ = some (.int .i64 x) := h.2 h0
def BoolR (b : Bool) (w : World) (e : Ending) (w' : World) : Prop := e = .returned (.bool b) ∧ Below w.heap.size w w'
end Go.Proofs.YtdpapnfjpefhkaaGreat
namespace Go.Proofs.YtdpapnfjpefhkaaGreat
open Go.RowKit
set_option linter.unusedVariables false
set_option maxRecDepth 100000
theorem ret_int {k : IntKind} {a b : Int} (h : a = b) : Ending.returned (.int k a) = .returned (.int k b) := by rw [h]
def hd (x : Int) : Int := max (-4611686018427387904) (min x 4611686018427387904)
theorem hd_lo (x : Int) : -4611686018427387904 ≤ hd x := by unfold hd; omega
theorem hd_hi (x : Int) : hd x ≤ 4611686018427387904 := by unfold hd; omega
theorem hd_in (x : Int) (h : -4611686018427387904 ≤ x) (k : x ≤ 4611686018427387904) : hd x = x := by unfold hd; omega
def ad (t d : Int) : Int := hd (hd t + hd d)
theorem ad_eq (t d : Int) : ad t d = max (-4611686018427387904) (min (hd t + hd d) 4611686018427387904) := rfl
theorem hold_any (x : Int) (w : World) : Calls Tryz.prog 132 #[.int .i64 x] w fun e w' => e = .returned (.int .i64 (hd x)) ∧ w = w' := by
 go_enter Tryz.func132, Tryz.ntmps132
 go_wp2
 all_goals (go_ret; exact ⟨ret_int (by unfold hd; omega), rfl⟩)
theorem add_any (t d : Int) (w : World) : Calls Tryz.prog 119 #[.int .i64 t, .int .i64 d] w fun e w' => e = .returned (.int .i64 (ad t d)) ∧ w = w' := by
 have h1 := hd_lo t
 have h2 := hd_hi t
 have h3 := hd_lo d
 have h4 := hd_hi d
 go_enter Tryz.func119, Tryz.ntmps119
 go_wp2_with (go_at_call 132; refine (hold_any _ _).mono ?_; rintro e w' ⟨rfl, rfl⟩)
 all_goals (go_ret; exact ⟨ret_int (by rw [ad_eq]; omega), rfl⟩)
def nxB (when per now : Int) : Bool := decide (1 ≤ per) && (decide (0 ≤ when) && (decide (0 ≤ now) && (decide (when ≤ 4611686018427387904) && (decide (per ≤ 4611686018427387904) && decide (now ≤ 4611686018427387904)))))
def nx (when per now : Int) : Int := if now < when then when else hd (now - (now - when) % per + per)
theorem next_no (when per now : Int) (w : World) (h : nxB when per now = false) :
  Calls Tryz.prog 107 #[.int .i64 when, .int .i64 per, .int .i64 now] w fun e w' => e = .returned (.tuple #[.int .i64 0, .int .i64 1]) ∧ w = w' := by
 have h' : ¬ (1 ≤ per ∧ 0 ≤ when ∧ 0 ≤ now ∧ when ≤ 4611686018427387904 ∧ per ≤ 4611686018427387904 ∧ now ≤ 4611686018427387904) := by
  intro k; simp [nxB, k] at h
 clear h
 by_cases c1 : per < 1
 · go_enter Tryz.func107, Tryz.ntmps107
   go_wp2
   go_ret2
   exact ⟨rfl, rfl⟩
 by_cases c2 : when < 0
 · go_enter Tryz.func107, Tryz.ntmps107
   go_wp2
   go_ret2
   exact ⟨rfl, rfl⟩
 by_cases c3 : now < 0
 · go_enter Tryz.func107, Tryz.ntmps107
   go_wp2
   go_ret2
   exact ⟨rfl, rfl⟩
 by_cases c4 : 4611686018427387904 < when
 · go_enter Tryz.func107, Tryz.ntmps107
   go_wp2
   go_ret2
   exact ⟨rfl, rfl⟩
 by_cases c5 : 4611686018427387904 < per
 · go_enter Tryz.func107, Tryz.ntmps107
   go_wp2
   go_ret2
   exact ⟨rfl, rfl⟩
 have c6 : 4611686018427387904 < now := by omega
 clear h'
 go_enter Tryz.func107, Tryz.ntmps107
 go_wp2
 go_ret2
 exact ⟨rfl, rfl⟩
theorem nx_add (when per now : Int) (h0 : 0 ≤ when) (h1 : 1 ≤ per) (h2 : per ≤ 4611686018427387904) (h3 : now ≤ 4611686018427387904) (hge : when ≤ now) :
  ad (now - (now - when) % per) per = nx when per now := by
 have e1 : 0 ≤ (now - when) % per := Int.emod_nonneg _ (by omega)
 have e2 : (now - when) % per < per := Int.emod_lt_of_pos _ (by omega)
 have e3 : (now - when) % per ≤ now - when := by
  rcases Int.lt_or_le (now - when) per with h | h
  · rw [Int.emod_eq_of_lt (by omega) h]; exact Int.le_refl _
  · omega
 unfold nx ad
 rw [if_neg (by omega), hd_in (now - (now - when) % per) (by omega) (by omega), hd_in per (by omega) (by omega)]
theorem next_yes (when per now : Int) (w : World) (h1 : 1 ≤ per) (h2 : 0 ≤ when) (h3 : 0 ≤ now) (h4 : when ≤ 4611686018427387904) (h5 : per ≤ 4611686018427387904) (h6 : now ≤ 4611686018427387904) :
  Calls Tryz.prog 107 #[.int .i64 when, .int .i64 per, .int .i64 now] w fun e w' => e = .returned (.tuple #[.int .i64 (nx when per now), .int .i64 0]) ∧ w = w' := by
 by_cases hlt : now < when
 · go_enter Tryz.func107, Tryz.ntmps107
   go_wp2
   go_ret2
   exact ⟨by rw [show nx when per now = when from if_pos hlt]; rfl, rfl⟩
 · have hge : when ≤ now := by omega
   have hn := nx_add when per now h2 h1 h5 h6 hge
   have e1 : 0 ≤ (now - when) % per := Int.emod_nonneg _ (by omega)
   have e2 : (now - when) % per < per := Int.emod_lt_of_pos _ (by omega)
   have Hn : Hid (ad (now - (now - when) % per) per = nx when per now) := hn
   clear hn hlt
   go_enter Tryz.func107, Tryz.ntmps107
   go_wp2_with (go_at_call 119; refine (add_any _ _ _).mono ?_; rintro e w' ⟨rfl, rfl⟩)
   go_ret2
   exact ⟨by rw [← Hn.out]; rfl, rfl⟩
theorem nx_mul (when per now : Int) (hge : when ≤ now) : nx when per now = hd (when + ((now - when) / per + 1) * per) := by
 have e := Int.emod_add_mul_ediv (now - when) per
 have e2 : ((now - when) / per + 1) * per = per * ((now - when) / per) + per := by rw [Int.add_mul, Int.mul_comm, Int.one_mul]
 unfold nx
 rw [if_neg (by omega), e2, show now - (now - when) % per + per = when + (per * ((now - when) / per) + per) from by omega]
theorem rnext_yes (when per now : Int) (w : World) (h1 : 1 ≤ per) (h2 : 0 ≤ when) (h3 : 0 ≤ now) (h4 : when ≤ 4611686018427387904) (h5 : per ≤ 4611686018427387904) (h6 : now ≤ 4611686018427387904) :
  Calls Tryz.prog 91 #[.int .i64 when, .int .i64 per, .int .i64 now] w fun e w' => e = .returned (.tuple #[.int .i64 (nx when per now), .int .i64 0]) ∧ w = w' := by
 by_cases hlt : now < when
 · go_enter Tryz.func91, Tryz.ntmps91
   go_wp2
   go_ret2
   exact ⟨by rw [show nx when per now = when from if_pos hlt]; rfl, rfl⟩
 · have hge : when ≤ now := by omega
   have hn := nx_mul when per now hge
   have q0 : 0 ≤ (now - when) / per := Int.ediv_nonneg (by omega) (by omega)
   have q1 : (now - when) / per ≤ now - when := Int.ediv_le_self _ (by omega)
   have dd := Int.ediv_nonneg (a := 4611686018427387904 - when) (b := (now - when) / per + 1) (by omega) (by omega)
   have dd2 : (4611686018427387904 - when) / ((now - when) / per + 1) ≤ 4611686018427387904 - when := Int.ediv_le_self _ (by omega)
   by_cases hc : (4611686018427387904 - when) / ((now - when) / per + 1) < per
   · have h' := (Int.ediv_lt_iff_lt_mul (by omega)).1 hc
     rw [Int.mul_comm] at h'
     have Hn : Hid (nx when per now = 4611686018427387904) := by show _ = _; rw [hn]; unfold hd; omega
     clear hn hlt h'
     go_enter Tryz.func91, Tryz.ntmps91
     go_wp2
     go_ret2
     exact ⟨by rw [Hn.out]; rfl, rfl⟩
   · have h' : ((now - when) / per + 1) * per ≤ 4611686018427387904 - when := by
      have := (Int.le_ediv_iff_mul_le (a := per) (b := 4611686018427387904 - when) (c := (now - when) / per + 1) (by omega)).1 (by omega)
      rw [Int.mul_comm]; exact this
     have h0 : 0 ≤ ((now - when) / per + 1) * per := Int.mul_nonneg (by omega) (by omega)
     have Hn : Hid (nx when per now = when + ((now - when) / per + 1) * per) := by show _ = _; rw [hn]; exact hd_in _ (by omega) (by omega)
     clear hn hlt
     have hc' : per ≤ (4611686018427387904 - when) / ((now - when) / per + 1) := by omega
     clear hc
     go_enter Tryz.func91, Tryz.ntmps91
     go_wp2
     go_ret2
     exact ⟨by rw [Hn.out]; rfl, rfl⟩
end Go.Proofs.YtdpapnfjpefhkaaGreat
