/- Slices that came in; what has been added one by one. No condition. -/
import Derived.Test.YtcfdfepndjkllaaAwk
namespace Go.Proofs.Ytcfdfepndjkllaa
open Go.RowKit
set_option linter.unusedVariables false
theorem rn_nil (w : World) (A : Option Addr) : Rn w A 0 [] := ⟨rfl, fun h => absurd h (by omega)⟩
/-! Slices that came in. -/
theorem row_at {k : IntKind} {w : World} {x : Addr} {zs : List Int} (hcell : ∀ i, i < zs.length → w.cell? (x.add i) = some (.int k (zs.getD i 0))) (h0 : 0 < zs.length) :
    ∃ b off, x = ⟨b, off, none⟩ ∧ b < w.heap.size ∧ ∀ i, i < zs.length → w.cell? ⟨b, off + i, none⟩ = some (.int k (zs.getD i 0)) := by
  have hc := hcell 0 h0
  obtain ⟨b, off, spot⟩ := x
  have hspot : spot = none := by simpa [Addr.add] using World.cell?_spot hc
  subst hspot
  have e : ∀ i, (⟨b, off, none⟩ : Addr).add i = ⟨b, off + i, none⟩ := by
    intro i; unfold Addr.add
    by_cases h : i = 0
    · subst h; simp
    · simp [h]
  exact ⟨b, off, rfl, by simpa [e] using World.block_lt_of_cell? _ _ hc, fun i hi => by rw [← e]; exact hcell i hi⟩
theorem rn_of {w : World} {a : Option Addr} {len cap : Nat} {zs : List Int}
    (h : (a = none ∧ len = 0 ∧ cap = 0 ∧ zs = []) ∨ ∃ x, a = some x ∧ len ≤ cap ∧ cap ≤ maxLen ∧ zs.length = cap ∧ (∀ i, i < zs.length → w.cell? (x.add i) = some (.int .i64 (zs.getD i 0))) ∧ ∀ n ∈ zs, (Lit.int .i64 n).wf = true) : Rn w a len (zs.take len) := by
  rcases h with ⟨rfl, rfl, rfl, rfl⟩ | ⟨x, rfl, h1, h2, h3, h4, _⟩
  · exact rn_nil _ _
  · refine ⟨by rw [List.length_take]; omega, fun h0 => ?_⟩
    obtain ⟨b, off, rfl, hb, hc⟩ := row_at h4 (by omega)
    refine ⟨b, off, rfl, hb, fun j y hy => ?_⟩
    have hj : j < (zs.take len).length := (List.getElem?_eq_some_iff.1 hy).1
    rw [List.length_take] at hj
    rw [hc j (by omega)]
    rw [List.getElem?_take, if_pos (by omega)] at hy
    simp [List.getD_eq_getElem?_getD, hy]
/-- Its element k, later on. -/
theorem Rn.cell {W w : World} {A : Option Addr} {n k : Nat} {l : List Int} (h : Rn W A n l) (hb : Below W.heap.size W w) (hk : k < n) : ∃ b off x, A = some ⟨b, off, none⟩ ∧ b < W.heap.size ∧ l[k]? = some x ∧ w.cell? ⟨b, off + k, none⟩ = some (.int .i64 x) := by
  obtain ⟨b, off, e, h1, h2⟩ := h.2 (by omega)
  have hx : l[k]? = some (l[k]'(by rw [h.1]; exact hk)) := List.getElem?_eq_getElem _
  exact ⟨b, off, _, e, h1, hx, (cell_blk (hb.block b h1) _).trans (h2 k _ hx)⟩


/-- The first k of them have been added. -/
def adds (l : List Int) : Nat → List It
  | 0 => []
  | k + 1 => ins ⟨(k : Int), l.getD k 0, (k : Int) + 1⟩ (adds l k)
theorem adds_len (l : List Int) : ∀ k, (adds l k).length = k
  | 0 => rfl
  | k + 1 => by rw [adds, ins_len, adds_len l k]
theorem adds_mem {l : List Int} {x : It} : ∀ {k : Nat}, x ∈ adds l k ↔ ∃ i : Nat, i < k ∧ x = ⟨(i : Int), l.getD i 0, (i : Int) + 1⟩
  | 0 => by simp [adds]
  | k + 1 => by
    rw [adds, ins_mem, adds_mem]
    constructor
    · rintro (h | ⟨i, h1, h2⟩)
      · exact ⟨k, by omega, h⟩
      · exact ⟨i, by omega, h2⟩
    · rintro ⟨i, h1, h2⟩
      by_cases e : i = k
      · subst e; exact .inl h2
      · exact .inr ⟨i, by omega, h2⟩
theorem adds_ids {l : List Int} {k : Nat} {j : Int} : j ∈ ids (adds l k) ↔ 0 ≤ j ∧ j < k := by
  unfold ids
  rw [List.mem_map]
  constructor
  · rintro ⟨x, hx, rfl⟩
    obtain ⟨i, h1, rfl⟩ := adds_mem.1 hx
    exact ⟨by show (0 : Int) ≤ (i : Int); omega, by show (i : Int) < (k : Int); omega⟩
  · rintro ⟨h1, h2⟩
    refine ⟨⟨((j.toNat : Nat) : Int), l.getD j.toNat 0, ((j.toNat : Nat) : Int) + 1⟩, adds_mem.2 ⟨j.toNat, by omega, rfl⟩, by show ((j.toNat : Nat) : Int) = j; omega⟩
theorem adds_new (l : List Int) (k : Nat) : (k : Int) ∉ ids (adds l k) := by rw [adds_ids]; omega
theorem adds_succ {l : List Int} {k : Nat} {x : Int} (h : l[k]? = some x) : ins ⟨(k : Int), x, (k : Int) + 1⟩ (adds l k) = adds l (k + 1) := by
  rw [adds, List.getD_eq_getElem?_getD, h]; rfl
theorem round1 (a : Int) (m : Nat) (w : World) (hm : m < 1000) : Calls Try.prog 28 #[.int .i64 a, .int .i64 ((m : Int) + 1)] w fun e w' => e = .returned (.int .i64 (pk a (m + 1) : Int)) ∧ w = w' := by
  have := round_any a (m + 1) w (by omega) (by omega)
  rwa [show ((m + 1 : Nat) : Int) = (m : Int) + 1 by omega] at this
theorem drop_cons {S : List It} {i : Nat} (h : i < S.length) : ∃ x, S.drop i = x :: S.drop (i + 1) := ⟨_, List.drop_eq_getElem_cons h⟩
end Go.Proofs.Ytcfdfepndjkllaa
