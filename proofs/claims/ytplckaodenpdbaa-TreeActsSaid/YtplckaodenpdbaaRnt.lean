/- Slices of numbers that came in; the one at n of so many; two slices that read alike are told alike. Conditions: each theorem's own premises. -/
import Derived.Test.YtplckaodenpdbaaSta
namespace Go.Proofs.Ytplckaodenpdbaa
open Go.RowKit
set_option linter.unusedVariables false
set_option maxRecDepth 100000
def Rn (w : World) (A : Option Addr) (n : Nat) (l : List Int) : Prop :=
  l.length = n ∧ (0 < n → ∃ b off, A = some ⟨b, off, none⟩ ∧ b < w.heap.size ∧ ∀ j x, l[j]? = some x → w.cell? ⟨b, off + j, none⟩ = some (.int .i64 x))
theorem Rn.later {w w' : World} {A : Option Addr} {n : Nat} {l : List Int} (h : Rn w A n l) (hb : Below w.heap.size w w') : Rn w' A n l :=
  ⟨h.1, fun h0 => by
    obtain ⟨b, off, e, hl, hc⟩ := h.2 h0
    have := hb.size
    exact ⟨b, off, e, by omega, fun j u hu => (cell_blk (hb.block b hl) _).trans (hc j u hu)⟩⟩
theorem rn_nil (w : World) (A : Option Addr) : Rn w A 0 [] := ⟨rfl, fun h => absurd h (by omega)⟩
/-! Slices that came in. -/
theorem cells_at {k : IntKind} {w : World} {x : Addr} {zs : List Int} (hcell : ∀ i, i < zs.length → w.cell? (x.add i) = some (.int k (zs.getD i 0))) (h0 : 0 < zs.length) :
    ∃ b off, x = ⟨b, off, none⟩ ∧ b < w.heap.size ∧ ∀ i, i < zs.length → w.cell? ⟨b, off + i, none⟩ = some (.int k (zs.getD i 0)) := by
  have hc := hcell 0 h0
  obtain ⟨b, off, spot⟩ := x
  have hspot : spot = none := by simpa [Addr.add] using World.cell?_spot hc
  subst hspot
  have e : ∀ i, (⟨b, off, none⟩ : Addr).add i = ⟨b, off + i, none⟩ := by
    intro i; unfold Addr.add
    by_cases h : i = 0
    · subst h; simp
    · simp [h]
  exact ⟨b, off, rfl, by simpa [e] using World.block_lt_of_cell? _ _ hc, fun i hi => by rw [← e]; exact hcell i hi⟩
theorem rn_of {w : World} {a : Option Addr} {len cap : Nat} {zs : List Int}
    (h : (a = none ∧ len = 0 ∧ cap = 0 ∧ zs = []) ∨ ∃ x, a = some x ∧ len ≤ cap ∧ cap ≤ maxLen ∧ zs.length = cap ∧ (∀ i, i < zs.length → w.cell? (x.add i) = some (.int .i64 (zs.getD i 0))) ∧ ∀ n ∈ zs, (Lit.int .i64 n).wf = true) : Rn w a len (zs.take len) := by
  rcases h with ⟨rfl, rfl, rfl, rfl⟩ | ⟨x, rfl, h1, h2, h3, h4, _⟩
  · exact rn_nil _ _
  · refine ⟨by rw [List.length_take]; omega, fun h0 => ?_⟩
    obtain ⟨b, off, rfl, hb, hc⟩ := cells_at h4 (by omega)
    refine ⟨b, off, rfl, hb, fun j y hy => ?_⟩
    have hj : j < (zs.take len).length := (List.getElem?_eq_some_iff.1 hy).1
    rw [List.length_take] at hj
    rw [hc j (by omega)]
    rw [List.getElem?_take, if_pos (by omega)] at hy
    simp [List.getD_eq_getElem?_getD, hy]
/-- Its element k, later on. -/
theorem Rn.cell {W w : World} {A : Option Addr} {n k : Nat} {l : List Int} (h : Rn W A n l) (hb : Below W.heap.size W w) (hk : k < n) : ∃ b off x, A = some ⟨b, off, none⟩ ∧ b < W.heap.size ∧ l[k]? = some x ∧ w.cell? ⟨b, off + k, none⟩ = some (.int .i64 x) := by
  obtain ⟨b, off, e, h1, h2⟩ := h.2 (by omega)
  have hx : l[k]? = some (l[k]'(by rw [h.1]; exact hk)) := List.getElem?_eq_getElem _
  exact ⟨b, off, _, e, h1, hx, (cell_blk (hb.block b h1) _).trans (h2 k _ hx)⟩

/-- The one at n of so many, going round. -/
def pk (n : Int) (m : Nat) : Nat := (n % (m : Int)).toNat
theorem pk_lt (n : Int) {m : Nat} (h : 0 < m) : pk n m < m := by
  unfold pk
  have := Int.emod_lt_of_pos n (show (0 : Int) < (m : Int) by omega)
  have := Int.emod_nonneg n (show (m : Int) ≠ 0 by omega)
  omega
theorem round_any (n : Int) (m : Nat) (w : World) (h : 0 < m) (hm : m ≤ 2147483648) : Calls Try.prog 22 #[.int .i64 n, .int .i64 (m : Int)] w fun e w' => e = .returned (.int .i64 (pk n m : Int)) ∧ w = w' := by
  have b2 : ((m : Int) == 0) = false := by simp <;> omega
  have b3 : ((m : Int) == -1) = false := by simp <;> omega
  have l1 : -(m : Int) < n.tmod m := by
    have h1 := Int.tmod_lt_of_pos (-n) (show (0 : Int) < (m : Int) by omega)
    rw [Int.neg_tmod] at h1; omega
  have l2 : n.tmod m < m := Int.tmod_lt_of_pos n (by omega)
  have e1 : (n.tmod (m : Int) + (m : Int)).tmod m = (pk n m : Int) := by
    rw [Int.tmod_eq_emod_of_nonneg (by omega), Int.add_emod_right]
    unfold pk
    have h1 := Int.emod_nonneg n (show (m : Int) ≠ 0 by omega)
    have h4 : (n.tmod m) % m = n % m := by rw [Int.tmod_def, Int.sub_mul_emod_self_left]
    rw [h4]; omega
  have w1 : IntKind.i64.wrap (n.tmod (m : Int)) = n.tmod (m : Int) := by rw [IntKind.wrap_i64]; omega
  have l3 : -2147483648 ≤ n.tmod (m : Int) ∧ n.tmod (m : Int) ≤ 2147483648 := by omega
  have w2 : IntKind.i64.wrap (n.tmod (m : Int) + (m : Int)) = n.tmod (m : Int) + (m : Int) := by rw [IntKind.wrap_i64]; omega
  have w3 : IntKind.i64.wrap (pk n m : Int) = (pk n m : Int) := by have := pk_lt n h; rw [IntKind.wrap_i64]; omega
  go_enter Try.func22, Try.ntmps22
  go_wp2
  go_ret
  exact ⟨rfl, rfl⟩
theorem Rn.of_rw {w : World} {B : Nat} {P : Option Addr} {c : Nat} {l : List Int} (h : Rw B w P c l) : Rn w P l.length l :=
  ⟨rfl, fun h0 => by
    obtain ⟨g, hg, _⟩ := row_form h h0
    subst hg
    exact ⟨g, 0, rfl, (row_lt h (k := g) rfl).2, fun j x hx => by rw [Nat.zero_add]; exact h.at rfl hx⟩⟩
theorem ints_eq {w : World} {A1 A2 : Option Addr} {n c1 c2 : Nat} {l : List Int} (h1 : Rn w A1 n l) (h2 : Rn w A2 n l) (hn : n ≤ 2000) :
    Calls Try.prog 17 #[.slice A1 n c1, .slice A2 n c2] w fun e w' => e = .returned (.bool true) ∧ ∃ q, w' = w.drewN q := by
  have hn1 : (n : Int) ≤ 2000 := by omega
  have hl := h1.1
  have H1 := Lib.hid h1
  have H2 := Lib.hid h2
  have HL := Lib.hid hl
  clear h1 h2 hl
  go_enter Try.func17, Try.ntmps17
  go_wp2_with fail
  go_loopw [5] (fun i wr => ∃ k q : Nat, k ≤ n ∧ i = .int .i64 k ∧ wr = w.drewN q) (fun i _ => n - (intOf i).toNat)
  case atStart => exact ⟨0, 0, by omega, rfl, rfl⟩
  case round =>
    obtain ⟨k, q, hk, rfl, rfl⟩ := hrel
    by_cases hlt : k < n
    · obtain ⟨b1, o1, rfl, _, d1⟩ := H1.out.2 (by omega)
      obtain ⟨b2, o2, rfl, _, d2⟩ := H2.out.2 (by omega)
      have hkl : k < l.length := by rw [HL.out]; exact hlt
      have e1 := d1 k _ (List.getElem?_eq_getElem hkl)
      have e2 := d2 k _ (List.getElem?_eq_getElem hkl)
      generalize l[k] = x at *
      clear d1 d2 hkl
      go_wp2_with fail
      go_quiet (fail)
      go_wp2_with fail
      go_roundw
      case rel => exact ⟨k + 1, _, by omega, by go_num, rfl⟩
      case measure => simp [intOf]; omega
    · obtain rfl : k = n := by omega
      go_wp2_with fail
      go_ret
      exact ⟨rfl, _, rfl⟩
end Go.Proofs.Ytplckaodenpdbaa
