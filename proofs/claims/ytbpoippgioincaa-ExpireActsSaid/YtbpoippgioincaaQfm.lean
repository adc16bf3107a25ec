/- The document's own heap in memory: a block of two cells, one slice; Find. Conditions: each theorem's own premises. -/
import Derived.Test.YtbpoippgioincaaQrw
import Derived.Test.YtbpoippgioincaaTlw
namespace Go.Proofs.Ytbpoippgioincaa
open Go.RowKit
set_option linter.unusedVariables false
set_option maxRecDepth 100000

/-- A slice of room c, in a block of items from base on, reads as l. -/
def Wn (w : World) (base : Nat) (A : Option Addr) (n c : Nat) (l : List It) : Prop :=
  l.length = n ∧ n ≤ c ∧ c ≤ 9223372036854775807 ∧ (0 < n → ∃ g off cur, A = some ⟨g, off, none⟩ ∧ base ≤ g ∧ w.heap[g]? = some (.cells cur 39 (0, 0)) ∧ ∀ j u, (iV l)[j]? = some u → w.cell? ⟨g, off + j, none⟩ = some u)
/-- Nil, or plain. -/
def Fm (A : Option Addr) (c : Nat) : Prop := (A = none ∧ c = 0) ∨ ∃ g off, A = some ⟨g, off, none⟩
section
variable {w w' : World} {base n c k g off : Nat} {A : Option Addr} {l : List It}
theorem Wn.nil (w : World) (base : Nat) (A : Option Addr) (c : Nat) (hc : c ≤ 9223372036854775807) : Wn w base A 0 c [] := ⟨rfl, Nat.zero_le _, hc, fun h => absurd h (by omega)⟩
theorem Wn.keep (h : Wn w base A n c l) (hb : ∀ g cur, base ≤ g → w.heap[g]? = some (.cells cur 39 (0, 0)) → w'.heap[g]? = some (.cells cur 39 (0, 0))) : Wn w' base A n c l :=
  ⟨h.1, h.2.1, h.2.2.1, fun h0 => by
    obtain ⟨g, off, cur, e, hg, hc, hr⟩ := h.2.2.2 h0
    have h1 := hb g _ hg hc
    exact ⟨g, off, cur, e, hg, h1, fun j u hu => (cell_blk (h1.trans hc.symm) _).trans (hr j u hu)⟩⟩
theorem Wn.later (h : Wn w base A n c l) (hb : Below w.heap.size w w') : Wn w' base A n c l := h.keep fun g cur _ hg => (hb.block g (lt_of_blk hg)).trans hg
theorem Wn.ot (h : Wn w base A n c l) (f : OX w w') : Wn w' base A n c l := h.keep fun g cur _ hg => f g cur 39 (0, 0) hg (by decide) (by decide)
theorem Wn.rd (h : Wn w base A n c l) : RdI w A n l :=
  ⟨h.1, by rw [iV_len, h.1], fun h0 => by
    obtain ⟨g, off, cur, e, hg, hc, hr⟩ := h.2.2.2 h0
    exact ⟨g, off, e, lt_of_blk hc, hr⟩⟩
theorem Wn.of_own {v : Value} (hn : l.length = n) (h : w.ownsRow base 39 3 v n (iV l)) : ∃ A c, v = .slice A n c ∧ Wn w base A n c l ∧ Fm A c := by
  have hh := h
  rcases h.2 with ⟨rfl, rfl⟩ | ⟨g, cap, cur, rfl, hg, hc, hle, hc2, _⟩
  · exact ⟨none, 0, rfl, ⟨hn, Nat.le_refl _, by omega, fun h => absurd h (by omega)⟩, .inl ⟨rfl, rfl⟩⟩
  · refine ⟨_, cap, rfl, ⟨hn, hle, hc2, fun _ => ⟨g, 0, cur, rfl, hg, hc, fun j u hu => by
    have hj : j < (iV l).length := (List.getElem?_eq_some_iff.1 hu).1
    rw [iV_len, hn] at hj
    rw [Nat.zero_add, hh.cellAt j hj]; exact hu⟩⟩, .inr ⟨g, 0, rfl⟩⟩
theorem iV_pre (l : List It) (k : Nat) : ∀ (j : Nat) (u : Value), (iV (l.take k))[j]? = some u → (iV l)[j]? = some u := by
  intro j u hu
  have e : iV l = iV (l.take k) ++ iV (l.drop k) := by rw [iV_app, List.take_append_drop]
  rw [e, List.getElem?_append_left (List.getElem?_eq_some_iff.1 hu).1]; exact hu
theorem iV_suf (l : List It) (k : Nat) (hk : k ≤ l.length) : ∀ (j : Nat) (u : Value), (iV (l.drop k))[j]? = some u → (iV l)[k * 3 + j]? = some u := by
  intro j u hu
  have e : iV l = iV (l.take k) ++ iV (l.drop k) := by rw [iV_app, List.take_append_drop]
  have h2 : (iV (l.take k)).length = k * 3 := by rw [iV_len, List.length_take]; congr 1; omega
  rw [e, List.getElem?_append_right (by omega), h2, Nat.add_sub_cancel_left]; exact hu
/-- Its first k. -/
theorem Wn.take (h : Wn w base A n c l) (hk : k ≤ n) : Wn w base A k c (l.take k) :=
  ⟨by rw [List.length_take, h.1]; omega, by have := h.2.1; omega, h.2.2.1, fun h0 => by
    obtain ⟨g, off, cur, e, hg, hc, hr⟩ := h.2.2.2 (by omega)
    exact ⟨g, off, cur, e, hg, hc, fun j u hu => hr j u (iV_pre _ _ _ _ hu)⟩⟩
/-- Those behind its first k. -/
theorem Wn.drop (h : Wn w base (some ⟨g, off, none⟩) n c l) (hk : k ≤ n) : Wn w base (some ⟨g, off + k * 3, none⟩) (n - k) (c - k) (l.drop k) :=
  ⟨by rw [List.length_drop, h.1], by have := h.2.1; omega, by have := h.2.2.1; omega, fun h0 => by
    obtain ⟨g', off', cur, e, hg, hc, hr⟩ := h.2.2.2 (by omega)
    cases e
    exact ⟨g, _, cur, rfl, hg, hc, fun j u hu => by rw [Nat.add_assoc]; exact hr _ u (iV_suf l k (by rw [h.1]; exact hk) j u hu)⟩⟩
theorem Wn.cells (h : Wn w base A n c l) (h0 : 0 < n) : ∃ g off, A = some ⟨g, off, none⟩ ∧ base ≤ g ∧ g < w.heap.size ∧
    ∀ i x, l[i]? = some x → w.cell? ⟨g, off + i * 3, none⟩ = some (.int .i64 x.id) ∧ w.cell? ⟨g, off + i * 3 + 1, none⟩ = some (.int .i64 x.w) ∧ w.cell? ⟨g, off + i * 3 + 2, none⟩ = some (.int .i64 x.s) := by
  obtain ⟨g, off, e, h1, h2⟩ := h.rd.cells h0
  obtain ⟨g', off', cur, e', hg, _⟩ := h.2.2.2 h0
  rw [e] at e'; cases e'
  exact ⟨g, off, e, hg, h1, h2⟩
end

/-- Block m begins with the document's heap: it holds S; n is the last turn. -/
structure MX (Rx : List Value) (Ty : TypeId) (B : Nat) (w : World) (m n : Nat) (A : Option Addr) (c : Nat) (S : List It) : Prop where
  hb : w.heap[m]? = some (.cells (Value.slice A S.length c :: .int .i64 n :: Rx).toArray Ty (0, 0))
  wn : Wn w B A S.length c S
  lo : B ≤ m
  nn : Fm A c
  ty : Ty ≠ 39 ∧ Ty ≠ 83 ∧ Ty ≠ 36
def MH (Rx : List Value) (Ty : TypeId) (B : Nat) (w : World) (m n : Nat) (S : List It) : Prop := ∃ A c, MX Rx Ty B w m n A c S
theorem set_zero (a : Value) (l : List Value) (v : Value) : (a :: l).toArray.setIfInBounds 0 v = (v :: l).toArray := by simp
theorem set_one (a b : Value) (l : List Value) (v : Value) : (a :: b :: l).toArray.setIfInBounds 1 v = (a :: v :: l).toArray := by simp
/-- Nothing but block m has turned. -/
structure Km (m : Nat) (w w' : World) : Prop where
  os : w'.os = w.os
  tape : w'.tape = w.tape
  output : w'.output = w.output
  size : w.heap.size ≤ w'.heap.size
  block : ∀ k, k < w.heap.size → k ≠ m → w'.heap[k]? = w.heap[k]?
section
variable {Rx : List Value} {Ty : TypeId} {B m n c : Nat} {w w' w'' : World} {A : Option Addr} {S : List It}
theorem Km.of_below (h : Below w.heap.size w w') : Km m w w' := ⟨h.os, h.tape, h.output, h.size, fun k hk _ => h.block k hk⟩
theorem Km.refl (m : Nat) (w : World) : Km m w w := Km.of_below (Below.refl _ _)
theorem Km.trans (h : Km m w w') (k : Km m w' w'') : Km m w w'' := by
  have h0 := h.size
  exact ⟨k.os.trans h.os, k.tape.trans h.tape, k.output.trans h.output, Nat.le_trans h.size k.size, fun i h1 h2 => (k.block i (by omega) h2).trans (h.block i h1 h2)⟩
theorem Km.set (h : Km m w w') (j : Nat) (v : Value) : Km m w (w'.setCell ⟨m, j, none⟩ v) :=
  ⟨h.os, h.tape, h.output, by rw [show (w'.setCell ⟨m, j, none⟩ v).heap.size = w'.heap.size by simp [World.setCell]]; exact h.size, fun k h1 h2 => (Below.heap_setCell _ _ _ _ (by exact h2)).trans (h.block k h1 h2)⟩
theorem Km.below (h : Km m w w') (hB : B ≤ m) (hs : B ≤ w.heap.size) : Below B w w' := ⟨h.os, h.tape, h.output, h.size, fun k hk => h.block k (by omega) (by omega)⟩
theorem MX.c0 (h : MX Rx Ty B w m n A c S) : w.cell? ⟨m, 0, none⟩ = some (.slice A S.length c) := by rw [cell_of_row w m 0 _ _ _ h.hb]; rfl
theorem MX.c1 (h : MX Rx Ty B w m n A c S) : w.cell? ⟨m, 1, none⟩ = some (.int .i64 n) := by rw [cell_of_row w m 1 _ _ _ h.hb]; rfl
theorem MX.fz (h : MX Rx Ty B w m n A c S) (i : Nat) : w.frozen? ⟨m, i, none⟩ = false := frozen_of_row w m i _ _ h.hb
theorem MX.lt (h : MX Rx Ty B w m n A c S) : m < w.heap.size := lt_of_blk h.hb
theorem MX.later (h : MX Rx Ty B w m n A c S) (hb : Below w.heap.size w w') : MX Rx Ty B w' m n A c S := ⟨(hb.block m h.lt).trans h.hb, h.wn.later hb, h.lo, h.nn, h.ty⟩
theorem MX.ot (h : MX Rx Ty B w m n A c S) (f : OX w w') : MX Rx Ty B w' m n A c S := ⟨f m _ Ty (0, 0) h.hb h.ty.2.1 h.ty.2.2, h.wn.ot f, h.lo, h.nn, h.ty⟩
theorem MH.later (h : MH Rx Ty B w m n S) (hb : Below w.heap.size w w') : MH Rx Ty B w' m n S := by obtain ⟨A, c, h⟩ := h; exact ⟨A, c, h.later hb⟩
theorem MH.ot (h : MH Rx Ty B w m n S) (f : OX w w') : MH Rx Ty B w' m n S := by obtain ⟨A, c, h⟩ := h; exact ⟨A, c, h.ot f⟩
theorem MH.lo (h : MH Rx Ty B w m n S) : B ≤ m := by obtain ⟨A, c, h⟩ := h; exact h.lo
theorem MH.lt (h : MH Rx Ty B w m n S) : m < w.heap.size := by obtain ⟨A, c, h⟩ := h; exact h.lt
theorem MH.hb (h : MH Rx Ty B w m n S) : ∃ cs, w.heap[m]? = some (.cells cs Ty (0, 0)) := by obtain ⟨A, c, h⟩ := h; exact ⟨_, h.hb⟩
theorem MX.turn (h : MX Rx Ty B w m n A c S) (n' : Nat) : MX Rx Ty B (w.setCell ⟨m, 1, none⟩ (.int .i64 n')) m n' A c S :=
  ⟨by rw [heap_setCell_same _ m 1 _ _ _ h.hb, set_one], h.wn.keep fun g cur _ hg => (Below.heap_setCell _ _ _ _ (by rintro rfl; rw [h.hb] at hg; injection hg with hg; injection hg with _ hg _; exact h.ty.1 hg)).trans hg, h.lo, h.nn, h.ty⟩
/-- Its slice is another. -/
theorem MX.other {S' : List It} {A' : Option Addr} {c' : Nat} (h : MX Rx Ty B w m n A c S) (r : Wn w B A' S'.length c' S') (hn : Fm A' c') : MX Rx Ty B (w.setCell ⟨m, 0, none⟩ (.slice A' S'.length c')) m n A' c' S' :=
  ⟨by rw [heap_setCell_same _ m 0 _ _ _ h.hb, set_zero], r.keep fun g cur _ hg => (Below.heap_setCell _ _ _ _ (by rintro rfl; rw [h.hb] at hg; injection hg with hg; injection hg with _ hg _; exact h.ty.1 hg)).trans hg, h.lo, hn, h.ty⟩
/-- Its slice is new, or as it was. -/
def Frs (m : Nat) (w w' : World) : Prop := (∀ A n c, w'.cell? ⟨m, 0, none⟩ = some (.slice A n c) → 0 < n → ∀ k, blk A = some k → w.heap.size ≤ k) ∨ w'.cell? ⟨m, 0, none⟩ = w.cell? ⟨m, 0, none⟩
/-- What is answered, and what it has come to hold. -/
def MR (Rx : List Value) (Ty : TypeId) (B m n : Nat) (S : List It) (v : Value) (w : World) (e : Ending) (w' : World) : Prop := e = .returned v ∧ MH Rx Ty B w' m n S ∧ Km m w w' ∧ Frs m w w'

set_option maxHeartbeats 4000000 in
theorem rfind_no {k : Int} (h : MH Rx Ty B w m n S) (hk : k ∉ ids S) (hl : S.length ≤ 1000) : Calls Try.prog 22 #[.pointer (some ⟨m, 0, none⟩), .int .i64 k] w fun e w' => e = .returned (.int .i64 (-1)) ∧ w = w' := by
  obtain ⟨A, c, hx⟩ := h
  have HX := Lib.hid hx
  have HN := Lib.hid hk
  have c0 := hx.c0
  clear hx hk
  go_enter Try.func22, Try.ntmps22
  go_wp2_with fail
  go_loopw [5] (fun i wr => ∃ j : Nat, j ≤ S.length ∧ i = .int .i64 j ∧ wr = w) (fun i _ => S.length - (intOf i).toNat)
  case atStart => exact ⟨0, by omega, rfl, rfl⟩
  case round =>
    obtain ⟨j, hj, rfl, rfl⟩ := hrel
    by_cases hlt : j < S.length
    · obtain ⟨x, hxj⟩ := ex_at hlt
      obtain ⟨g, off, rfl, hg, hgs, hc⟩ := HX.out.wn.cells (by omega)
      obtain ⟨x0, -, -⟩ := hc j x hxj
      have k1 : (j : Int) < (S.length : Int) := by omega
      have k2 : ¬ x.id = k := fun e => HN.out (by rw [← e]; exact mem_ids (at_mem hxj))
      have b1 : IntKind.i64.wrap ((j : Int) + 1) = (j : Int) + 1 := by rw [IntKind.wrap_i64]; omega
      clear hc hxj
      go_wp2_with fail
      go_roundw
      case rel => exact ⟨j + 1, by omega, by go_num, by first | rfl | trivial⟩
      case measure => simp [intOf]; omega
    · obtain rfl : j = S.length := by omega
      have k1 : ¬ (S.length : Int) < (S.length : Int) := by omega
      go_wp2_with fail
      go_ret
      exact ⟨rfl, rfl⟩
set_option maxHeartbeats 4000000 in
theorem rfind_yes {p : Nat} {x : It} (h : MH Rx Ty B w m n S) (hn : (ids S).Nodup) (hp : S[p]? = some x) (hl : S.length ≤ 1000) : Calls Try.prog 22 #[.pointer (some ⟨m, 0, none⟩), .int .i64 x.id] w fun e w' => e = .returned (.int .i64 (p : Int)) ∧ w = w' := by
  obtain ⟨A, c, hx⟩ := h
  have HX := Lib.hid hx
  have HN := Lib.hid (And.intro hn hp)
  have c0 := hx.c0
  have hpl := at_lt hp
  generalize hk : x.id = k at *
  have HK := Lib.hid hk
  clear hx hn hp hk
  go_enter Try.func22, Try.ntmps22
  go_wp2_with fail
  go_loopw [5] (fun i wr => ∃ j : Nat, j ≤ p ∧ i = .int .i64 j ∧ wr = w) (fun i _ => S.length - (intOf i).toNat)
  case atStart => exact ⟨0, by omega, rfl, rfl⟩
  case round =>
    obtain ⟨j, hj, rfl, rfl⟩ := hrel
    have hlt : j < S.length := by omega
    obtain ⟨y, hyj⟩ := ex_at hlt
    obtain ⟨g, off, rfl, hg, hgs, hc⟩ := HX.out.wn.cells (by omega)
    obtain ⟨x0, -, -⟩ := hc j y hyj
    have k1 : (j : Int) < (S.length : Int) := by omega
    have b1 : IntKind.i64.wrap ((j : Int) + 1) = (j : Int) + 1 := by rw [IntKind.wrap_i64]; omega
    by_cases hjp : j = p
    · subst hjp
      have e : y = x := by have h1 := HN.out.2; rw [hyj] at h1; injection h1
      have k2 : y.id = k := by rw [e]; exact HK.out
      clear hc hyj e
      go_wp2_with fail
      go_ret
      exact ⟨rfl, rfl⟩
    · have k2 : ¬ y.id = k := fun e => hjp (ids_inj HN.out.1 hyj HN.out.2 (e.trans HK.out.symm))
      clear hc hyj
      go_wp2_with fail
      go_roundw
      case rel => exact ⟨j + 1, by omega, by go_num, by first | rfl | trivial⟩
      case measure => simp [intOf]; omega
end
end Go.Proofs.Ytbpoippgioincaa
