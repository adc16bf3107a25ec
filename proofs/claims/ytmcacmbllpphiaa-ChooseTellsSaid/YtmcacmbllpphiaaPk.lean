/- Arguments opened: slices of picks, slices of slices of acts; the cases that picks name. No condition. -/
import Derived.Test.YtmcacmbllpphiaaOpn
import Derived.Test.YtmcacmbllpphiaaZs
namespace Go.Proofs.Ytmcacmbllpphiaa
open Go.RowKit Go.ChangeShapes Go.WideShapes Go.Deep
set_option linter.unusedVariables false

theorem cells95 : Try.prog.cellsOf 95 = 3 := by kernel_rfl
theorem cells32' : Try.prog.cellsOf 32 = 1 := by kernel_rfl
/-- One pick. -/
structure Pk where
  c : Int
  s : Bool
  v : Int
def pV (a : Pk) : List Value := [.int .i64 a.c, .bool a.s, .int .i64 a.v]
theorem pV_len (a : Pk) : (pV a).length = 3 := rfl
/-- One slice of acts. -/
structure Sa where
  A : Option Addr
  n : Nat
  cap : Nat
  l : List Ac
def sV (a : Sa) : List Value := [.slice a.A a.n a.cap]
theorem sV_len (a : Sa) : (sV a).length = 1 := rfl
section
variable {H : Type} {enc : TypeId × Value → H} {w : World} {base : Nat} {spare : Nat → Bool} {held : Bool}
set_option maxRecDepth 100000 in
theorem open_pick {n : Nat} {cs : List Value} {x : DataW H × List MemPlace} (h : DataW.trod enc Try.prog w base spare held n 95 cs = some x) : ∃ a : Pk, cs = pV a ∧ True := by
  obtain ⟨xs, m, _, _, hl, hlen, hf⟩ := DataW.trod_struct Try.underlying95 h
  rw [cells95] at hl
  match cs, hl with
  | [c0, c1, c2], _ =>
    have h0 : DataW.trod enc Try.prog w base spare held m 3 (List.take (Try.prog.cellsOf 3) (List.drop 0 [c0, c1, c2])) = xs[0]? := hf 0 _ rfl
    have h1 : DataW.trod enc Try.prog w base spare held m 4 (List.take (Try.prog.cellsOf 4) (List.drop 1 [c0, c1, c2])) = xs[1]? := hf 1 _ rfl
    have h2 : DataW.trod enc Try.prog w base spare held m 3 (List.take (Try.prog.cellsOf 3) (List.drop 2 [c0, c1, c2])) = xs[2]? := hf 2 _ rfl
    rw [cells3] at h0 h2
    rw [cells4] at h1
    match xs, hlen with
    | [y0, y1, y2], _ =>
      obtain ⟨z0, e0, q0⟩ := open_num h0
      obtain ⟨z1, e1, _⟩ := open_boo h1
      obtain ⟨z2, e2, _⟩ := open_num h2
      cases e0; cases e1; cases e2
      exact ⟨⟨z0, z1, z2⟩, rfl, trivial⟩
theorem open_row {n : Nat} {cs : List Value} {x : DataW H × List MemPlace} (h : DataW.trod enc Try.prog w base spare held n 32 cs = some x) : ∃ e : Sa, cs = sV e ∧ IsA w e.A e.n e.cap e.l := by
  obtain ⟨d, p⟩ := x
  rcases open_slice Try.underlying32 h with ⟨hcs, _⟩ | ⟨a, len', cap', m, nn, D, Pl, hcs, _⟩
  · subst hcs
    obtain ⟨l, hl⟩ := open_acts (A := none) (len := 0) (cap := 0) (d := d) (p := p) ⟨n, h⟩
    exact ⟨⟨none, 0, 0, l⟩, rfl, hl⟩
  · subst hcs
    obtain ⟨l, hl⟩ := open_acts (A := some a) (len := len') (cap := cap') (d := d) (p := p) ⟨n, h⟩
    exact ⟨⟨some a, len', cap', l⟩, rfl, hl⟩
abbrev IsP := IsS pV 3 (fun _ => True)
def IsL (w : World) (A : Option Addr) (n cap : Nat) (l : List Sa) : Prop := IsS sV 1 (fun e => IsA w e.A e.n e.cap e.l) w A n cap l
theorem open_picks {A : Option Addr} {len cap : Nat} {d : DataW H} {p : List MemPlace} (h : DataW.Trod enc Try.prog w base spare held 24 (.slice A len cap) d p) : ∃ l, IsP w A len cap l :=
  open_any pV 3 (fun _ => True) ⟨0, false, 0⟩ pV_len (by omega) 24 95 Try.underlying24 cells95 (fun _ _ _ h => open_pick h) h
theorem open_rows {A : Option Addr} {len cap : Nat} {d : DataW H} {p : List MemPlace} (h : DataW.Trod enc Try.prog w base spare held 23 (.slice A len cap) d p) : ∃ l, IsL w A len cap l :=
  open_any sV 1 (fun e => IsA w e.A e.n e.cap e.l) ⟨none, 0, 0, []⟩ sV_len (by omega) 23 32 Try.underlying23 cells32' (fun _ _ _ h => open_row h) h
end
theorem IsP.at {W w : World} {A : Option Addr} {n cap i : Nat} {l : List Pk} {x : Pk} (h : IsP W A n cap l) (hb : Below W.heap.size W w) (hx : l[i]? = some x) : ∃ b off, A = some ⟨b, off, none⟩ ∧ b < W.heap.size ∧
    w.cell? ⟨b, off + i * 3, none⟩ = some (.int .i64 x.c) ∧ w.cell? ⟨b, off + i * 3 + 1, none⟩ = some (.bool x.s) ∧ w.cell? ⟨b, off + i * 3 + 2, none⟩ = some (.int .i64 x.v) := by
  obtain ⟨q, b, off, e, hl, hc⟩ := IsS.cell h pV_len hb hx
  exact ⟨b, off, e, hl, hc 0 (by omega) _ rfl, hc 1 (by omega) _ rfl, hc 2 (by omega) _ rfl⟩
theorem IsL.at {W w : World} {A : Option Addr} {n cap i : Nat} {l : List Sa} {x : Sa} (h : IsL W A n cap l) (hb : Below W.heap.size W w) (hx : l[i]? = some x) : IsA W x.A x.n x.cap x.l ∧ ∃ b off, A = some ⟨b, off, none⟩ ∧ b < W.heap.size ∧ w.cell? ⟨b, off + i, none⟩ = some (.slice x.A x.n x.cap) := by
  obtain ⟨q, b, off, e, hl, hc⟩ := IsS.cell h sV_len hb hx
  refine ⟨q, b, off, e, hl, ?_⟩
  simpa using hc 0 (by omega) _ rfl

/-! Rows of channels: each is named by its place among the channels, or is none. -/
def kAt (B : List Nat) (k : Option Nat) : Option Addr := (k.bind fun j => B[j]?).map fun c => ⟨c, 0, none⟩
def kC (B : List Nat) (k : Option Nat) : List Value := [.pointer (kAt B k)]
theorem kC_len (B : List Nat) (k : Option Nat) : (kC B k).length = 1 := rfl
def kCF (B : List Nat) (K : List (Option Nat)) : List Value := K.flatMap (kC B)
theorem kCF_len (B : List Nat) (K : List (Option Nat)) : (kCF B K).length = K.length * 1 := flat_len (kC B) 1 (kC_len B) K
theorem kCF_app (B : List Nat) (a b : List (Option Nat)) : kCF B (a ++ b) = kCF B a ++ kCF B b := by unfold kCF; rw [List.flatMap_append]
theorem kCF_one (B : List Nat) (K : List (Option Nat)) : ∀ u ∈ kCF B K, u.oneCell' = true := by
  intro u hu
  unfold kCF at hu
  obtain ⟨x, _, hx⟩ := List.mem_flatMap.1 hu
  simp [kC] at hx
  subst hx
  rfl
/-- All names are names. -/
def KL (K : List (Option Nat)) (n : Nat) : Prop := ∀ k ∈ K, ∀ j, k = some j → j < n
theorem kCF_more {B : List Nat} {K : List (Option Nat)} (c : Nat) (h : KL K B.length) : kCF (B ++ [c]) K = kCF B K := by
  unfold kCF
  simp only [List.flatMap]
  congr 1
  refine List.map_congr_left fun k hk => ?_
  cases k with
  | none => rfl
  | some j =>
    have hj := h _ hk j rfl
    simp only [kC, kAt, Option.bind_some]
    rw [List.getElem?_append_left hj]
theorem KL.more {K : List (Option Nat)} {n m : Nat} (h : KL K n) (hm : n ≤ m) : KL K m := fun k hk j e => Nat.lt_of_lt_of_le (h k hk j e) hm
theorem KL.snoc {K : List (Option Nat)} {n : Nat} {k : Option Nat} (h : KL K n) (hk : ∀ j, k = some j → j < n) : KL (K ++ [k]) n := fun x hx j e => by
  rcases List.mem_append.1 hx with h1 | h1
  · exact h x h1 j e
  · rw [List.mem_singleton] at h1
    subst h1
    exact hk j e
/-- A slice of channels, in a block of its own kind. -/
def RdC (t : TypeId) (B : List Nat) (w : World) (A : Option Addr) (n : Nat) (K : List (Option Nat)) : Prop :=
  K.length = n ∧ (0 < n → ∃ b off cs, A = some ⟨b, off, none⟩ ∧ w.heap[b]? = some (.cells cs t (0, 0)) ∧ ∀ i k, K[i]? = some k → w.cell? ⟨b, off + i, none⟩ = some (.pointer (kAt B k)))
section
variable {t : TypeId} {B : List Nat} {w w' : World} {A : Option Addr} {n : Nat} {K : List (Option Nat)}
theorem RdC.keep (h : RdC t B w A n K) (k : ∀ (b : Nat) (cs : Array Value), w.heap[b]? = some (.cells cs t (0, 0)) → w'.heap[b]? = some (.cells cs t (0, 0))) : RdC t B w' A n K :=
  ⟨h.1, fun h0 => by
    obtain ⟨b, off, cs, e, hb, hc⟩ := h.2 h0
    exact ⟨b, off, cs, e, k b cs hb, fun i x hx => (cell_blk ((k b cs hb).trans hb.symm) _).trans (hc i x hx)⟩⟩
theorem RdC.later (h : RdC t B w A n K) (hb : Below w.heap.size w w') : RdC t B w' A n K := h.keep fun b cs e => (hb.block b (lt_of_blk e)).trans e
theorem RdC.kf {B' C : List Nat} {S T : List CS} {F : Nat → Prop} {W : World} (h : RdC t B w A n K) (ht : Oth t) (p : PC W B' S C T F w) (k : Kf F C w w') : RdC t B w' A n K := h.keep fun b cs e => p.row k e ht
theorem RdC.at {i : Nat} {k : Option Nat} (h : RdC t B w A n K) (hx : K[i]? = some k) : ∃ b off cs, A = some ⟨b, off, none⟩ ∧ w.heap[b]? = some (.cells cs t (0, 0)) ∧ w.cell? ⟨b, off + i, none⟩ = some (.pointer (kAt B k)) := by
  obtain ⟨b, off, cs, e, hb, hc⟩ := h.2 (by have := (List.getElem?_eq_some_iff.1 hx).1; rw [← h.1]; omega)
  exact ⟨b, off, cs, e, hb, hc i k hx⟩
theorem RdC.of_own {base : Nat} {v : Value} (hn : K.length = n) (h : w.ownsRow base t 1 v n (kCF B K)) : ∃ A cap, v = .slice A n cap ∧ RdC t B w A n K := by
  rcases h.2 with ⟨rfl, h0⟩ | ⟨g, cap, cur, rfl, q2, q3, q4⟩
  · refine ⟨none, 0, by rw [h0], hn, fun hp => absurd hp (by omega)⟩
  · refine ⟨_, cap, rfl, hn, fun hp => ⟨g, 0, _, rfl, q3, fun i x hx => ?_⟩⟩
    have hi : i < K.length := (List.getElem?_eq_some_iff.1 hx).1
    rw [Nat.zero_add, h.cellAt i (by omega)]
    have := flat_at (kC B) 1 (kC_len B) K i x hx 0 (by omega)
    simpa [kCF, kC] using this
end
/-- The case that a pick names. -/
def toCa (K : List (Option Nat)) (p : Pk) : Ca := ⟨if 0 ≤ p.c ∧ p.c < K.length then (K[p.c.toNat]?).join else none, p.s, p.v⟩
def caL (K : List (Option Nat)) (P : List Pk) : List Ca := P.map (toCa K)
theorem caL_len (K : List (Option Nat)) (P : List Pk) : (caL K P).length = P.length := by simp [caL]
theorem caL_take {K : List (Option Nat)} {P : List Pk} {k : Nat} {p : Pk} (h : P[k]? = some p) : caL K (P.take (k + 1)) = caL K (P.take k) ++ [toCa K p] := by
  unfold caL
  rw [List.take_add_one, h, List.map_append]
  rfl
theorem o28 : Oth 28 := by unfold Oth; decide
theorem o29 : Oth 29 := by unfold Oth; decide
end Go.Proofs.Ytmcacmbllpphiaa
