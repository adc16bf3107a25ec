/- Cases, what is ready, what is done: plain functions; cases in memory. No condition. -/
import Derived.Test.YtmcacmbllpphiaaPc
import Derived.Test.YtmcacmbllpphiaaJo
import Derived.Test.YtmcacmbllpphiaaOpn
namespace Go.Proofs.Ytmcacmbllpphiaa
open Go.RowKit
set_option linter.unusedVariables false

/-- One case: its channel's place, if there is one, whether it sends, what. -/
structure Ca where
  ix : Option Nat
  s : Bool
  v : Int
def chO (S : List CS) (x : Ca) : Option CS := x.ix.bind fun j => S[j]?
def ptr (B : List Nat) (x : Ca) : Option Addr := (x.ix.bind fun j => B[j]?).map fun c => ⟨c, 0, none⟩
def canO (S : List CS) (x : Ca) : Bool := match chO S x with
  | none => false
  | some s => can s x.s
def kndO (S : List CS) (x : Ca) : Bool := match chO S x with
  | none => false
  | some s => x.s && !(s.kd == 0)
theorem knd_can {S : List CS} {x : Ca} (h : kndO S x = true) : canO S x = false := by
  unfold kndO at h
  unfold canO
  cases hs : chO S x with
  | none => rfl
  | some s =>
    rw [hs] at h
    simp only [Bool.and_eq_true, Bool.not_eq_true', beq_eq_false_iff_ne] at h
    simp only [can]
    rw [if_pos h]

/-! By their places. -/
def canA (S : List CS) (l : List Ca) (i : Nat) : Bool := match l[i]? with
  | none => false
  | some x => canO S x
def kndA (S : List CS) (l : List Ca) (i : Nat) : Bool := match l[i]? with
  | none => false
  | some x => kndO S x
/-- The places of those that can be done, up to k. -/
def rdy (S : List CS) (l : List Ca) (k : Nat) : List Nat := (List.range k).filter (canA S l)
/-- The first one that sends on what takes no sends. -/
def wrg (S : List CS) (l : List Ca) (k : Nat) : Option Nat := (List.range k).find? (kndA S l)
def wrI : Option Nat → Int
  | none => -1
  | some i => i
theorem canA_at {S : List CS} {l : List Ca} {k : Nat} {x : Ca} (h : l[k]? = some x) : canA S l k = canO S x := by simp [canA, h]
theorem kndA_at {S : List CS} {l : List Ca} {k : Nat} {x : Ca} (h : l[k]? = some x) : kndA S l k = kndO S x := by simp [kndA, h]
theorem rdy_zero (S : List CS) (l : List Ca) : rdy S l 0 = [] := rfl
theorem wrg_zero (S : List CS) (l : List Ca) : wrg S l 0 = none := rfl
theorem rdy_yes {S : List CS} {l : List Ca} {k : Nat} {x : Ca} (h : l[k]? = some x) (hc : canO S x = true) : rdy S l (k + 1) = rdy S l k ++ [k] := by
  unfold rdy
  rw [List.range_succ, List.filter_append]
  simp [canA_at h, hc]
theorem rdy_no {S : List CS} {l : List Ca} {k : Nat} {x : Ca} (h : l[k]? = some x) (hc : canO S x = false) : rdy S l (k + 1) = rdy S l k := by
  unfold rdy
  rw [List.range_succ, List.filter_append]
  simp [canA_at h, hc]
theorem wrg_same {S : List CS} {l : List Ca} {k : Nat} {x : Ca} (h : l[k]? = some x) (hc : kndO S x = false) : wrg S l (k + 1) = wrg S l k := by
  unfold wrg
  rw [List.range_succ, List.find?_append]
  simp [kndA_at h, hc]
theorem wrg_set {S : List CS} {l : List Ca} {k : Nat} {x : Ca} (h : l[k]? = some x) (hc : kndO S x = true) (h0 : wrg S l k = none) : wrg S l (k + 1) = some k := by
  unfold wrg at *
  rw [List.range_succ, List.find?_append, h0]
  simp [kndA_at h, hc]
theorem wrg_some {S : List CS} {l : List Ca} {k i : Nat} (h0 : wrg S l k = some i) : wrg S l (k + 1) = some i := by
  unfold wrg at *
  rw [List.range_succ, List.find?_append, h0]
  rfl
theorem rdy_len (S : List CS) (l : List Ca) (k : Nat) : (rdy S l k).length ≤ k := by
  have := List.length_filter_le (canA S l) (List.range k)
  simpa [rdy] using this
theorem rdy_mem {S : List CS} {l : List Ca} {k i : Nat} (h : i ∈ rdy S l k) : i < k ∧ ∃ x, l[i]? = some x ∧ canO S x = true := by
  obtain ⟨h1, h2⟩ := List.mem_filter.1 h
  refine ⟨List.mem_range.1 h1, ?_⟩
  unfold canA at h2
  cases hx : l[i]? with
  | none => rw [hx] at h2; simp at h2
  | some x => rw [hx] at h2; exact ⟨x, rfl, h2⟩
theorem wrg_mem {S : List CS} {l : List Ca} {k i : Nat} (h : wrg S l k = some i) : i < k := by
  have := List.mem_of_find?_eq_some h
  exact List.mem_range.1 this

/-- What comes of it. -/
structure Re where
  i : Int
  v : Int
  ok : Bool
  pn : Bool
  pk : Bool
  kd : Bool
def reA (r : Re) : Array Value := #[.int .i64 r.i, .int .i64 r.v, .bool r.ok, .bool r.pn, .bool r.pk, .bool r.kd]
def reG (r : Re) : Value := .agg #[.int .i64 r.i, .int .i64 r.v, .bool r.ok, .bool r.pn, .bool r.pk, .bool r.kd]
/-- A case that can be done is done. -/
def doX (S : List CS) (x : Ca) : List CS × Re × List Wk := match x.ix with
  | none => (S, ⟨0, 0, false, false, false, false⟩, [])
  | some j => match S[j]? with
    | none => (S, ⟨0, 0, false, false, false, false⟩, [])
    | some s => if x.s = true then (S.set j (sn s x.v).1, ⟨0, 0, (sn s x.v).2.2.1, (sn s x.v).2.2.2 == 5, false, false⟩, (sn s x.v).2.1)
      else (S.set j (rc s).1, ⟨0, (rc s).2.1, (rc s).2.2.1, false, false, false⟩, (rc s).2.2.2.2)
/-- A task waits at one. -/
def pk1 (S : List CS) (x : Ca) (t k : Int) : List CS := match x.ix with
  | none => S
  | some j => match S[j]? with
    | none => S
    | some s => S.set j (wt s ⟨t, k, if x.s = true then x.v else 0⟩ x.s).1
def pkS (S : List CS) (l : List Ca) (t : Int) : Nat → List CS
  | 0 => S
  | k + 1 => match l[k]? with
    | none => pkS S l t k
    | some x => pk1 (pkS S l t k) x t k
theorem pkS_succ {S : List CS} {l : List Ca} {t : Int} {k : Nat} {x : Ca} (h : l[k]? = some x) : pkS S l t (k + 1) = pk1 (pkS S l t k) x t k := by simp [pkS, h]
/-- A task waits no more at one. -/
def lv1 (S : List CS) (x : Ca) (t : Int) : List CS × Int := match x.ix with
  | none => (S, 0)
  | some j => match S[j]? with
    | none => (S, 0)
    | some s => (S.set j (gone s t), ctG s t)
def lvS (S : List CS) (l : List Ca) (t : Int) : Nat → List CS × Int
  | 0 => (S, 0)
  | k + 1 => match l[k]? with
    | none => lvS S l t k
    | some x => ((lv1 (lvS S l t k).1 x t).1, (lvS S l t k).2 + (lv1 (lvS S l t k).1 x t).2)
theorem lvS_succ {S : List CS} {l : List Ca} {t : Int} {k : Nat} {x : Ca} (h : l[k]? = some x) : lvS S l t (k + 1) = ((lv1 (lvS S l t k).1 x t).1, (lvS S l t k).2 + (lv1 (lvS S l t k).1 x t).2) := by simp [lvS, h]
/-- All of it. -/
def doS (S : List CS) (l : List Ca) (df : Bool) (draw task : Int) : List CS × Re × List Wk × Int :=
  if 16 < l.length ∨ task < 0 then (S, ⟨0, 0, false, false, false, false⟩, [], 1)
  else match wrg S l l.length with
    | some i => (S, ⟨i, 0, false, false, false, true⟩, [], 0)
    | none => match (rdy S l l.length)[(draw % ((rdy S l l.length).length : Int)).toNat]? with
      | some p => match l[p]? with
        | some x => ((doX S x).1, { (doX S x).2.1 with i := p }, (doX S x).2.2, 0)
        | none => (S, ⟨0, 0, false, false, false, false⟩, [], 0)
      | none => if df = true then (S, ⟨-1, 0, false, false, false, false⟩, [], 0) else (pkS S l task l.length, ⟨-1, 0, false, false, true, false⟩, [], 0)

/-! How many wait. -/
def BN (n : Nat) (S : List CS) : Prop := ∀ s ∈ S, nw s ≤ n
theorem BN.at {n i : Nat} {S : List CS} {s : CS} (h : BN n S) (hi : S[i]? = some s) : nw s ≤ n := h s (List.mem_of_getElem? hi)
theorem BN.mono {n m : Nat} {S : List CS} (h : BN n S) (hm : n ≤ m) : BN m S := fun s hs => Nat.le_trans (h s hs) hm
theorem BN.set {n i : Nat} {S : List CS} {s : CS} (h : BN n S) (hs : nw s ≤ n) : BN n (S.set i s) := fun t ht => by
  rcases List.mem_or_eq_of_mem_set ht with h1 | rfl
  · exact h t h1
  · exact hs
theorem BN.p1 {n : Nat} {S : List CS} (h : BN n S) (x : Ca) (t k : Int) : BN (n + 1) (pk1 S x t k) := by
  unfold pk1
  cases x.ix with
  | none => exact h.mono (by omega)
  | some j =>
    simp only
    cases hs : S[j]? with
    | none => exact h.mono (by omega)
    | some s => exact (h.mono (by omega)).set (by have := h.at hs; have := nw_wt s ⟨t, k, if x.s = true then x.v else 0⟩ x.s; omega)
theorem BN.pS {n : Nat} {S : List CS} (h : BN n S) (l : List Ca) (t : Int) : ∀ k, BN (n + k) (pkS S l t k)
  | 0 => h
  | k + 1 => by
    unfold pkS
    cases l[k]? with
    | none => exact (BN.pS h l t k).mono (by omega)
    | some x => exact (BN.pS h l t k).p1 x t k
theorem BN.l1 {n : Nat} {S : List CS} (h : BN n S) (x : Ca) (t : Int) : BN n (lv1 S x t).1 := by
  unfold lv1
  cases x.ix with
  | none => exact h
  | some j =>
    simp only
    cases hs : S[j]? with
    | none => exact h
    | some s => exact h.set (by have := h.at hs; have := nw_gone s t; omega)
theorem BN.lS {n : Nat} {S : List CS} (h : BN n S) (l : List Ca) (t : Int) : ∀ k, BN n (lvS S l t k).1
  | 0 => h
  | k + 1 => by
    unfold lvS
    cases l[k]? with
    | none => exact BN.lS h l t k
    | some x => exact (BN.lS h l t k).l1 x t
theorem BN.dX {n : Nat} {S : List CS} (h : BN n S) (x : Ca) : BN n (doX S x).1 ∧ (doX S x).2.2.length ≤ 1 := by
  unfold doX
  cases x.ix with
  | none => exact ⟨h, by simp⟩
  | some j =>
    simp only
    cases hs : S[j]? with
    | none => exact ⟨h, by simp⟩
    | some s =>
      have h9 := h.at hs
      have h8 := nw_sn s x.v
      have h7 := nw_rc s
      have h6 := rc_ws s
      simp only
      split
      · exact ⟨h.set (by omega), h8.2⟩
      · exact ⟨h.set (by omega), h6⟩
theorem ct_nw (s : CS) (t : Int) : 0 ≤ ctG s t ∧ ctG s t ≤ nw s := by
  unfold ctG nw
  have h1 := List.countP_le_length (p := isT t) (l := s.ss)
  have h2 := List.countP_le_length (p := isT t) (l := s.rs)
  omega
theorem BN.ct1 {n : Nat} {S : List CS} (h : BN n S) (x : Ca) (t : Int) : 0 ≤ (lv1 S x t).2 ∧ (lv1 S x t).2 ≤ n := by
  unfold lv1
  cases x.ix with
  | none => simp
  | some j =>
    simp only
    cases hs : S[j]? with
    | none => simp
    | some s => have h9 := h.at hs; have := ct_nw s t; simp only; omega
theorem BN.ct {n : Nat} {S : List CS} (h : BN n S) (l : List Ca) (t : Int) : ∀ k, 0 ≤ (lvS S l t k).2 ∧ (lvS S l t k).2 ≤ k * n
  | 0 => by simp [lvS]
  | k + 1 => by
    have h1 := BN.ct h l t k
    have h2 := (BN.lS h l t k)
    unfold lvS
    rw [show ((k + 1 : Nat) : Int) * (n : Int) = (k : Int) * n + n by push_cast; rw [Int.add_mul]; omega]
    cases l[k]? with
    | none => simp only; omega
    | some x => have h3 := h2.ct1 x t; simp only; omega

/-! In memory. -/
def caV (B : List Nat) (x : Ca) : List Value := [.pointer (ptr B x), .bool x.s, .int .i64 x.v]
def caA (B : List Nat) (x : Ca) : Array Value := #[.pointer (ptr B x), .bool x.s, .int .i64 x.v]
def caG (B : List Nat) (x : Ca) : Value := .agg #[.pointer (ptr B x), .bool x.s, .int .i64 x.v]
theorem caV_len (B : List Nat) (x : Ca) : (caV B x).length = 3 := rfl
/-- A slice of cases, in a block of its own kind. -/
def RdX (t : TypeId) (B : List Nat) (w : World) (A : Option Addr) (n : Nat) (l : List Ca) : Prop :=
  l.length = n ∧ (0 < n → ∃ b off cs, A = some ⟨b, off, none⟩ ∧ w.heap[b]? = some (.cells cs t (0, 0)) ∧
    ∀ i x, l[i]? = some x → w.cell? ⟨b, off + i * 3, none⟩ = some (.pointer (ptr B x)) ∧ w.cell? ⟨b, off + i * 3 + 1, none⟩ = some (.bool x.s) ∧ w.cell? ⟨b, off + i * 3 + 2, none⟩ = some (.int .i64 x.v))
theorem RdX.keep {t : TypeId} {B : List Nat} {w w' : World} {A : Option Addr} {n : Nat} {l : List Ca} (h : RdX t B w A n l) (k : ∀ (b : Nat) (cs : Array Value), w.heap[b]? = some (.cells cs t (0, 0)) → w'.heap[b]? = some (.cells cs t (0, 0))) : RdX t B w' A n l :=
  ⟨h.1, fun h0 => by
    obtain ⟨b, off, cs, e, hb, hc⟩ := h.2 h0
    refine ⟨b, off, cs, e, k b cs hb, fun i x hx => ?_⟩
    obtain ⟨c0, c1, c2⟩ := hc i x hx
    have hk := (k b cs hb).trans hb.symm
    exact ⟨(cell_blk hk _).trans c0, (cell_blk hk _).trans c1, (cell_blk hk _).trans c2⟩⟩
theorem RdX.later {t : TypeId} {B : List Nat} {w w' : World} {A : Option Addr} {n : Nat} {l : List Ca} (h : RdX t B w A n l) (hb : Below w.heap.size w w') : RdX t B w' A n l := h.keep fun b cs e => (hb.block b (lt_of_blk e)).trans e
theorem RdX.kf {t : TypeId} {B B' C : List Nat} {S T : List CS} {F : Nat → Prop} {W w w' : World} {A : Option Addr} {n : Nat} {l : List Ca} (h : RdX t B w A n l) (ht : Oth t) (p : PC W B' S C T F w) (k : Kf F C w w') : RdX t B w' A n l :=
  h.keep fun b cs e => p.row k e ht
theorem RdX.at {t : TypeId} {B : List Nat} {w : World} {A : Option Addr} {n i : Nat} {l : List Ca} {x : Ca} (h : RdX t B w A n l) (hx : l[i]? = some x) : ∃ b off cs, A = some ⟨b, off, none⟩ ∧ w.heap[b]? = some (.cells cs t (0, 0)) ∧
    w.cell? ⟨b, off + i * 3, none⟩ = some (.pointer (ptr B x)) ∧ w.cell? ⟨b, off + i * 3 + 1, none⟩ = some (.bool x.s) ∧ w.cell? ⟨b, off + i * 3 + 2, none⟩ = some (.int .i64 x.v) := by
  obtain ⟨b, off, cs, e, hb, hc⟩ := h.2 (by have := (List.getElem?_eq_some_iff.1 hx).1; rw [← h.1]; omega)
  exact ⟨b, off, cs, e, hb, hc i x hx⟩
/-- A row of places. -/
def nI (l : List Nat) : List Value := l.map fun i : Nat => Value.int .i64 (i : Int)
theorem nI_len (l : List Nat) : (nI l).length = l.length := by simp [nI]
theorem nI_app (a b : List Nat) : nI (a ++ b) = nI a ++ nI b := by simp [nI]
theorem nI_one (l : List Nat) : ∀ u ∈ nI l, u.oneCell' = true := by
  intro u hu
  obtain ⟨x, _, rfl⟩ := List.mem_map.1 hu
  rfl
theorem nI_at {l : List Nat} {i p : Nat} (h : l[i]? = some p) : (nI l)[i]? = some (.int .i64 (p : Int)) := by simp [nI, h]

/-- A case's channel, or none. -/
theorem PC.case {W w : World} {B C : List Nat} {S T : List CS} {F : Nat → Prop} (h : PC W B S C T F w) (x : Ca) : (ptr B x = none ∧ chO S x = none) ∨ ∃ (j c : Nat) (s : CS), x.ix = some j ∧ B[j]? = some c ∧ S[j]? = some s ∧ ptr B x = some ⟨c, 0, none⟩ ∧ chO S x = some s := by
  obtain ⟨ix, sd, v⟩ := x
  cases ix with
  | none => exact .inl ⟨rfl, rfl⟩
  | some j =>
    cases hb : B[j]? with
    | none =>
      have hs : S[j]? = none := by rw [List.getElem?_eq_none_iff] at hb ⊢; rw [← h.eb]; exact hb
      exact .inl ⟨by simp [ptr, hb], by simp [chO, hs]⟩
    | some c =>
      obtain ⟨s, hs⟩ := get_len hb h.eb
      exact .inr ⟨j, c, s, rfl, hb, hs, by simp [ptr, hb], by simp [chO, hs]⟩
theorem PC.caseM {W w : World} {B C : List Nat} {S T : List CS} {F : Nat → Prop} (h : PC W B S C T F w) (x : Ca) : (ptr C x = none ∧ chO T x = none) ∨ ∃ (j c : Nat) (s : CS), x.ix = some j ∧ C[j]? = some c ∧ T[j]? = some s ∧ ptr C x = some ⟨c, 0, none⟩ ∧ chO T x = some s := by
  obtain ⟨ix, sd, v⟩ := x
  cases ix with
  | none => exact .inl ⟨rfl, rfl⟩
  | some j =>
    cases hb : C[j]? with
    | none =>
      have hs : T[j]? = none := by rw [List.getElem?_eq_none_iff] at hb ⊢; rw [← h.ec]; exact hb
      exact .inl ⟨by simp [ptr, hb], by simp [chO, hs]⟩
    | some c =>
      obtain ⟨s, hs⟩ := get_len hb h.ec
      exact .inr ⟨j, c, s, rfl, hb, hs, by simp [ptr, hb], by simp [chO, hs]⟩
end Go.Proofs.Ytmcacmbllpphiaa
