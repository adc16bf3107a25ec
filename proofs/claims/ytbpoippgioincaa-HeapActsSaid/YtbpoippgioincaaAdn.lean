/- What has been added one by one. No condition. -/
import Derived.Test.YtbpoippgioincaaRnt
namespace Go.Proofs.Ytbpoippgioincaa
open Go.RowKit
set_option linter.unusedVariables false
set_option maxRecDepth 100000
/-- The first k of them have been added. -/
def adds (l : List Int) : Nat → List It
  | 0 => []
  | k + 1 => ins ⟨(k : Int), l.getD k 0, (k : Int) + 1⟩ (adds l k)
theorem adds_len (l : List Int) : ∀ k, (adds l k).length = k
  | 0 => rfl
  | k + 1 => by rw [adds, ins_len, adds_len l k]
theorem adds_mem {l : List Int} {x : It} : ∀ {k : Nat}, x ∈ adds l k ↔ ∃ i : Nat, i < k ∧ x = ⟨(i : Int), l.getD i 0, (i : Int) + 1⟩
  | 0 => by simp [adds]
  | k + 1 => by
    rw [adds, ins_mem, adds_mem]
    constructor
    · rintro (h | ⟨i, h1, h2⟩)
      · exact ⟨k, by omega, h⟩
      · exact ⟨i, by omega, h2⟩
    · rintro ⟨i, h1, h2⟩
      by_cases e : i = k
      · subst e; exact .inl h2
      · exact .inr ⟨i, by omega, h2⟩
theorem adds_ids {l : List Int} {k : Nat} {j : Int} : j ∈ ids (adds l k) ↔ 0 ≤ j ∧ j < k := by
  unfold ids
  rw [List.mem_map]
  constructor
  · rintro ⟨x, hx, rfl⟩
    obtain ⟨i, h1, rfl⟩ := adds_mem.1 hx
    exact ⟨by show (0 : Int) ≤ (i : Int); omega, by show (i : Int) < (k : Int); omega⟩
  · rintro ⟨h1, h2⟩
    refine ⟨⟨((j.toNat : Nat) : Int), l.getD j.toNat 0, ((j.toNat : Nat) : Int) + 1⟩, adds_mem.2 ⟨j.toNat, by omega, rfl⟩, by show ((j.toNat : Nat) : Int) = j; omega⟩
theorem adds_new (l : List Int) (k : Nat) : (k : Int) ∉ ids (adds l k) := by rw [adds_ids]; omega
theorem adds_succ {l : List Int} {k : Nat} {x : Int} (h : l[k]? = some x) : ins ⟨(k : Int), x, (k : Int) + 1⟩ (adds l k) = adds l (k + 1) := by
  rw [adds, List.getD_eq_getElem?_getD, h]; rfl
end Go.Proofs.Ytbpoippgioincaa
